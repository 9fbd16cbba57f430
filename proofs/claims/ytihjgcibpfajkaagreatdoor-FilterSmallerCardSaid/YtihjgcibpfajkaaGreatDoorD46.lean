/-
  The landed filter: Ever. Conditions: at most 100 nodes, the dimension is at most 64.
  The landed filter is what the laws ask for. Conditions: at most 100 nodes and pods, the dimension is at most 64.
  The law's awake, over the contracts of package filter. Condition: errors.errorType holds its own.
-/
import Derived.Test.YtihjgcibpfajkaaGreatDoorD18
import Derived.Test.YtihjgcibpfajkaaGreatDoorD43
import Derived.Test.YtihjgcibpfajkaaGreatDoorD32
import Derived.Test.YtihjgcibpfajkaaGreatDoorD45
import Derived.Test.YtihjgcibpfajkaaGreatDoorD39
import Derived.ChangeKeysEq
namespace Go.Proofs.YtihjgcibpfajkaaGreatDoor.T17
open Go.RowKit Go.Sort Go.Lib V12 T13 T14 T15 T16
set_option maxRecDepth 100000 in
set_option maxHeartbeats 4000000 in
theorem zuj(p:zaa)(x:C14.NdC)(b:Nat)(w:World)(bP:w.heap[b]?=some (.cells (zab p) 26 (0,0)))(hp:Rd w p.A p.m p.Z)(hx:Rd w x.A x.n x.C):Calls Tryz.prog 34 #[x.val,.pointer (some ⟨b,0,none⟩)] w fun e w'=>e=.returned (.bool (zcb p.m p.Z x.n x.C))∧Keep w w':=by
 have k1:Keep w (w.alloc (.cells #[.int .i64 x.k,.slice x.A x.n x.c] 55)):=Keep.one _ _;have c4:=(zah (k1.block bP)).e4;have n1:(w.alloc (.cells #[.int .i64 x.k,.slice x.A x.n x.c] 55)).cell? ⟨w.heap.size,1,none⟩=some (.slice x.A x.n x.c):=by rw[cell_of_row _ _ _ _ _ _ (heap_alloc_new _ _)];rfl
 have cV:=Lib.hid (zna p.A x.A p.m x.n p.c x.c _ _ _ (hp.keep k1) (hx.keep k1));generalize zcb p.m p.Z x.n x.C=s at *;replace k1:=Lib.hid k1;clear bP hp hx;unfold C14.NdC.val
 go_enter Tryz.func34,Tryz.ntmps34
 go_wp2_with fail;refine cV.out.mono ?_;rintro e w2 ⟨rfl,dr⟩;have K2:Hid (Keep w w2):=k1.out.trans dr.below;replace dr:=Lib.hid dr;go_wp2;go_ret
 exact⟨rfl,K2.out⟩
structure Dn(w:World)(df:Nat)(caps:Array Value)(n:Nat)(Q:Nat→C14.NdC)(f:C14.NdC→Bool):Prop where
 en:∀ args w,(callFunc df args).run Tryz.prog w=.ok (.enter df args) w
 k:∀ W':World,Keep w W'→∀ j,j<n→Calls Tryz.prog df (#[(Q j).val]++caps) W' fun e W''=>e=.returned (.bool (f (Q j)))∧Keep W' W''
set_option maxRecDepth 100000 in
set_option maxHeartbeats 4000000 in
theorem zwo{w:World}{A:Option Addr}{n c:Nat}{Q:Nat→C14.NdC}(hR:C14.RdN w A n Q){df:Nat}{caps:Array Value}{f:C14.NdC→Bool}(K:Dn w df caps n Q f):
  Calls Tryz.prog 62 #[.slice A n c,.func (.func df) #[] caps] w fun e w'=>∃ r:Int,e=.returned (.int .i64 r)∧Keep w w'∧((r = -1∧∀ t,t<n→f (Q t)=false)∨∃ j,j<n∧r=(j:Int)∧f (Q j)=true):=by
 have hn:=hR.small;have eg:=K.en;replace K:=Lib.hid K;replace hR:=Lib.hid hR
 go_enter Tryz.func62,Tryz.ntmps62
 go_wp2
 go_loopg [5,8] n (fun gx _ s8 wr=>∃ j:Nat,j≤n∧gx=n - j∧s8=.int .i64 j∧Hid (Keep w wr)∧Hid (∀ t,t<j→f (Q t)=false))
 case atStart=>exact⟨0,Nat.zero_le _,rfl,rfl,Keep.refl _,fun t h=>absurd h (Nat.not_lt_zero _)⟩
 case round =>
  obtain⟨j,hj,rfl,rfl,K1,NO⟩:=hrel
  by_cases hlt:j<n
  ·have R2:=hR.out.keep K1.out
   obtain⟨b,off,hA,ca⟩:=R2.adr (by omega)
   subst hA;have q1:=C14.atN b off n c j hlt;obtain⟨x0,x1⟩:=ca j hlt;clear ca;have hc:=Lib.hid (K.out.k wr K1.out j hlt);obtain⟨x,hx⟩:∃ x,x=Q j:=⟨_,rfl⟩;rw[← hx] at x0 x1 hc;obtain⟨r,hr⟩:∃ r,r=f x:=⟨_,rfl⟩;rw[← hr] at hc;rw[hx] at hr;replace hr:=Lib.hid hr;replace hx:=Lib.hid hx;replace R2:=Lib.hid R2;unfold C14.NdC.val at hc;go_wp2_with fail;refine hc.out.mono ?_;rintro e w1 ⟨rfl,k1⟩;have K2:Hid (Keep w w1):=K1.out.trans k1;replace k1:=Lib.hid k1;cases r with
   | true =>
     go_wp2;go_ret
     exact⟨j,rfl,K2.out,Or.inr ⟨j,hlt,rfl,hr.out.symm⟩⟩
   | false =>
     have NO2:Hid (∀ t,t<j+1→f (Q t)=false):=fun t ht=>by
      by_cases e:t=j
      ·rw[e];exact hr.out.symm
      ·exact NO.out t (by omega)
     go_wp2;go_roundg (n - (j+1))
     case measure=>omega
     case rel=>exact⟨j+1,hlt,rfl,by go_num,K2,NO2⟩
  ·obtain rfl:j=n:=by omega
   go_wp2;go_ret
   exact⟨-1,rfl,K1.out,Or.inl ⟨rfl,NO.out⟩⟩
set_option maxHeartbeats 1000000 in
theorem zny{w:World}{A:Option Addr}{n c:Nat}{Q:Nat→C14.NdC}(hR:C14.RdN w A n Q){df:Nat}{caps:Array Value}{f:C14.NdC→Bool}(K:Dn w df caps n Q f):
  Calls Tryz.prog 33 #[.slice A n c,.func (.func df) #[] caps] w fun e w'=>e=.returned (.bool ((C14.lst Q n).any f))∧Keep w w':=by
 have cI:=Lib.hid (zwo (c:=c) hR K);clear hR K;obtain⟨s,hs⟩:∃ s,s=(C14.lst Q n).any f:=⟨_,rfl⟩;rw[← hs];replace hs:=Lib.hid hs
 go_enter Tryz.func33,Tryz.ntmps33
 go_wp2_with fail;refine cI.out.mono ?_;rintro e w2 ⟨r,rfl,k2,⟨rfl,NO⟩ | ⟨j,hj,rfl,hy⟩⟩
 ·obtain rfl:s=false:=by
   rw[hs.out,List.any_eq_false];intro x hx;obtain⟨t,ht,rfl⟩:=C14.lst_mem.1 hx;rw[NO t ht];decide
  have k2:Hid (Keep w w2):=k2;replace NO:=Lib.hid NO;go_wp2;go_ret
  exact⟨rfl,k2.out⟩
 ·obtain rfl:s=true:=by
   rw[hs.out];exact List.any_eq_true.2 ⟨_,C14.lst_mem.2 ⟨j,hj,rfl⟩,hy⟩
  have k2:Hid (Keep w w2):=k2;replace hy:=Lib.hid hy;replace hj:=Lib.hid hj;go_wp2;go_ret
  exact⟨rfl,k2.out⟩
theorem zsk(w:World):Calls Tryz.prog 31 #[.pointer none] w fun e w'=>e=.returned (.slice none 0 0)∧w=w':=by
 go_enter Tryz.func31,Tryz.ntmps31
 go_wp2;go_ret
 exact⟨rfl,rfl⟩
set_option maxRecDepth 100000 in
set_option maxHeartbeats 4000000 in
theorem znl(w:World):Calls Tryz.prog 13 #[.pointer none] w fun e w'=>e=.returned (.slice none 0 0)∧Keep w w':=by
 have hB:=Lib.hid (zmo w);have hI:=Lib.hid (fun W=>zsk W)
 go_enter Tryz.func13,Tryz.ntmps13
 go_wp2_with fail;refine hB.out.mono ?_;rintro e w2 ⟨rfl,k2⟩;obtain⟨W2,hW2⟩:∃ W2,W2=w2.alloc (.cells #[.pointer none,.pointer none] 79):=⟨_,rfl⟩;have K2:Hid (Keep w W2):=by rw[hW2];exact k2.alloc _
 have B3:W2.heap[w2.heap.size]?=some (.cells #[.pointer none,.pointer none] 79 (0,0)):=by rw[hW2];exact heap_alloc_new _ _
 obtain⟨t0,t1,_⟩:=T12.cel2 B3;rw[hW2] at t0 t1;replace B3:=Lib.hid B3;replace k2:=Lib.hid k2;go_wp2_with fail;rw[← hW2];replace hW2:=Lib.hid hW2;refine(hI.out _).mono ?_;rintro e w3 ⟨rfl,rfl⟩;clear t0 t1;go_wp2
 go_loopg [4,16] 0 (fun gx s4 s16 wr=>gx=0∧s16=.int .i64 0∧s4=.slice none 0 0∧Hid (Keep w wr))
 case atStart=>exact⟨rfl,rfl,rfl,K2⟩
 case round =>
  obtain⟨rfl,rfl,rfl,K3⟩:=hrel;go_wp2;go_ret
  exact⟨rfl,K3.out⟩
section
variable{CS:zba}{w w1:World}{d q:Nat}{M:List NV}{L:List zaa}{X:Nat→Prop}
theorem zml{α:Type}{f g:α→Bool}:∀ {l:List α},(∀ x∈l,f x=g x)→l.any f=l.any g
 | [],_=>rfl
 | y :: l,h=>by
   rw[List.any_cons,List.any_cons,h y (by simp),zml fun x hx=>h x (by simp[hx])]
theorem zuk{p:zaa}{M:List NV}{Q:Nat→C14.NdC}{d:Nat}(h:(C14.lst Q M.length).map nv=M)(hd:∀ j,j<M.length→(Q j).n=d):((C14.lst Q M.length).any fun x=>zcb p.m p.Z x.n x.C)=zfy p M d:=by
 unfold zfy
 conv=>rhs;rw[← h]
 rw[List.any_map];refine zml fun x hx=>?_
 obtain⟨j,hj,rfl⟩:=C14.lst_mem.1 hx;show zcb _ _ _ _=zcb _ _ _ _
 rw[hd j hj];rfl
set_option maxRecDepth 100000 in
set_option maxHeartbeats 4000000 in
theorem zry(C:Con CS)(h:CS w d q M L X w1)(p:zaa)(hp:zaf w1 p)(hM:M.length≤100):
  Calls Tryz.prog 15 #[.pointer (some ⟨q,0,none⟩),p.val] w1 fun e w'=>e=.returned (.bool (zfy p M d))∧Keep w1 w':=by
 have hmf:=@T13.hmf;obtain⟨W,hW,kW,bP⟩:=zdf w1 p;have cN:=Lib.hid (C.nodes (C.keep h kW.out) hM);have hp2:=Lib.hid (hp.keep kW.out);obtain⟨s,hs⟩:∃ s,s=zfy p M d:=⟨_,rfl⟩;rw[← hs];replace hs:=Lib.hid hs;clear h hp;unfold zab at hW;unfold zaa.val
 go_enter Tryz.func15,Tryz.ntmps15
 go_wp2_with fail;rw[← hW];refine cN.out.mono ?_;rintro e w2 ⟨A,c,rfl,⟨Q,RQ,EQ,DQ⟩,k2⟩;have cC:=Lib.hid (zny (c:=c) (f:=fun x=>zcb p.m p.Z x.n x.C) RQ.row (df:=34) (caps:=#[.pointer (some ⟨w1.heap.size,0,none⟩)]) ⟨enters_of Tryz.func34 (by kernel_rfl) rfl,fun W' k j hj=>zuj p (Q j) _ W' ((Keep.trans k2 k).block bP.out) (hp2.out.keep (Keep.trans k2 k)).rd ((RQ.rd j hj).keep k)⟩)
 rw[zuk EQ DQ,← hs.out] at cC;have K2:Hid (Keep w1 w2):=kW.out.trans k2;replace hW:=Lib.hid hW;clear k2 RQ EQ DQ cN;go_wp2_with fail;refine cC.out.mono ?_;rintro e w3 ⟨rfl,k3⟩;have K3:Hid (Keep w1 w3):=K2.out.trans k3;replace k3:=Lib.hid k3;go_wp2;go_ret
 exact⟨rfl,K3.out⟩
set_option maxRecDepth 100000 in
set_option maxHeartbeats 4000000 in
theorem zlm(p:zaa)(w1:World):Calls Tryz.prog 15 #[.pointer none,p.val] w1 fun e w'=>e=.returned (.bool false)∧Keep w1 w':=by
 have hmf:=@T13.hmf;obtain⟨W,hW,kW,bP⟩:=zdf w1 p;have cN:=Lib.hid (znl W);unfold zab at hW;unfold zaa.val
 go_enter Tryz.func15,Tryz.ntmps15
 go_wp2_with fail;rw[← hW];refine cN.out.mono ?_;rintro e w2 ⟨rfl,k2⟩;have cC:=Lib.hid (zny (c:=0) (f:=fun x=>true) (C14.RdN.nil w2 none fun _=>C14.zp) (df:=34) (caps:=#[.pointer (some ⟨w1.heap.size,0,none⟩)]) ⟨enters_of Tryz.func34 (by kernel_rfl) rfl,fun W' k j hj=>absurd hj (Nat.not_lt_zero _)⟩)
 have K2:Hid (Keep w1 w2):=kW.out.trans k2;replace hW:=Lib.hid hW;clear k2 cN;go_wp2_with fail;refine cC.out.mono ?_;rintro e w3 ⟨rfl,k3⟩;have K3:Hid (Keep w1 w3):=K2.out.trans k3;replace k3:=Lib.hid k3;go_wp2;go_ret
 exact⟨rfl,K3.out⟩
end
end Go.Proofs.YtihjgcibpfajkaaGreatDoor.T17
namespace Go.Proofs.YtihjgcibpfajkaaGreatDoor.T17
open Go.RowKit Go.Sort Go.Lib V12 T13 T14 T15 T16
theorem zvc:zfj CSd:=by
 rintro w d q M L X w1 ⟨qn,qp,N,Xn,Xp,h⟩ hl;exact zjg h hl
theorem zyl{CS:zba}(C:Con CS)(NT:zfj CS):zik CS where
 nodes:=fun _ h hg hp hd hm hM hl=>zoz C (zlg C) NT h hg hp hd hm hM hl
 first:=fun _ h hg hp hd hm hM hl=>zoy C (zlg C) NT h hg hp hd hm hM hl
 reason:=fun p nd h hg hp hnd hd hm hM hl=>zhz C (zlg C) h hg p hp nd hnd hd hm hM hl
 reasons:=fun {w _ _ _ L X _} p h hg hp hd hm hM hl=>zln C (zlg C) h hg p hp (zvb (CS:=CS) (L:=L) (X:=X) (w:=w) NT h hM) hd hm hM hl
 ever:=fun p h _ hp _ _ hM _=>zry C h p hp hM
 none:=fun p w1 _=>zlm p w1
theorem conf17(C:Con CSd):zik CSd:=zyl C zvc
end Go.Proofs.YtihjgcibpfajkaaGreatDoor.T17
namespace Go.Proofs.YtihjgcibpfajkaaGreatDoor.T17
open Go.RowKit Go.Sort Go.Lib V12 T13 T14 T15 T16
def zja:List NV:=[⟨3,zn 2⟩,⟨7,zn 5⟩]
theorem ztu(A:Option Addr)(c:Nat):zbk (lq 1 0 4 A c) zja [] 1=[7]:=by rfl
theorem abw(A:Option Addr)(c:Nat):zbk (lq 0 0 9 A c) zja [] 1=[]:=by rfl
theorem abx(A:Option Addr)(c:Nat):zdq (lq 1 0 4 A c) 3 zja [] 1=some 0:=by rfl
theorem abv(A:Option Addr)(c:Nat):zfe (lq 1 0 4 A c) zja [] 1=[3]:=by rfl
theorem abu(A:Option Addr)(c:Nat):zfy (lq 1 0 4 A c) zja 1=true:=by rfl
theorem abt(A:Option Addr)(c:Nat):zci (lq 1 0 4 A c) 3 zja [] 1=0:=by rfl
theorem zui{t:TypeId}(hu:Tryz.prog.underlying t=some (.int .i64))(d:Nat)(a b:Int)(w:World):(Op.equalIn (d+1) t (.int .i64 a) (.int .i64 b)).run Tryz.prog w=.ok (a == b) w:=by
 simp[Op.equalIn,run_underlying hu]
theorem zrt(w:World):(Op.equalIn 10000 42 (.agg #[.int .i64 3,.int .i64 0]) (.agg #[.int .i64 3,.int .i64 0])).run Tryz.prog w=.ok true w:=by
 have hs:(Tryz.prog.info? 3).isSome=true:=by kernel_rfl
 obtain⟨i,hi⟩:=Option.isSome_iff_exists.1 hs;have hu:Tryz.prog.underlying 42=some (.array 2 3):=by kernel_rfl
 have hc:Tryz.prog.cellsOf 3=1:=by kernel_rfl
 have p1:∀ (x y:Int) W,(part 3 #[.int .i64 x,.int .i64 y] 0).run Tryz.prog W=.ok (.int .i64 x) W:=fun _ _ _=>by kernel_rfl
 have p2:∀ (x y:Int) W,(part 3 #[.int .i64 x,.int .i64 y] 1).run Tryz.prog W=.ok (.int .i64 y) W:=fun _ _ _=>by kernel_rfl
 have e1:=fun (a b:Int) W=>zui Tryz.underlying3 9998 a b W
 rw[show(10000:Nat)=9999+1 from rfl,run_equalIn_array w 9999 _ _ hu hi,hc]
 simp[Op.eqItems,List.range,List.range.loop,p1,p2,e1,Result.andThen]
section
variable{CS:zba}{w w1:World}{d q:Nat}{M:List NV}{L:List zaa}{X:Nat→Prop}
theorem zmz(F:zik CS)(p:zaa)(h:CS w d q M L X w1)(hg:zaw w1)(hp:zaf w1 p)(hd:d≤64)(hpm:p.m≤1000)(hm:M.length≤100)(hl:L.length≤100){l:List Int}{z:Int}{b:Bool}(e:zbk p M L d=l)(e1:zbq l 0=z)(e2:decide (l≠[])=b):Calls Tryz.prog 18 #[.pointer (some ⟨q,0,none⟩),p.val] w1 fun e w'=>e=.returned (.tuple #[.int .i64 z,.bool b])∧Keep w1 w':=by
 have h1:=F.first p h hg hp hd hpm hm hl
 rw[e,e1,e2] at h1;exact h1
theorem zst(F:zik CS)(p:zaa)(nd:Int)(h:CS w d q M L X w1)(hg:zaw w1)(hp:zaf w1 p)(hn:I64 nd)(hd:d≤64)(hpm:p.m≤1000)(hm:M.length≤100)(hl:L.length≤100){r:Nat}(e:zdq p nd M L d=some r):Calls Tryz.prog 27 #[.pointer (some ⟨q,0,none⟩),p.val,.int .i64 nd] w1 fun e w'=>e=.returned (.tuple #[.int .i64 r,.bool true])∧Keep w1 w':=by
 have h1:=F.reason p nd h hg hp hn hd hpm hm hl;unfold zci at h1;rw[e] at h1;exact h1
theorem zvd(F:zik CS)(p:zaa)(h:CS w d q M L X w1)(hg:zaw w1)(hp:zaf w1 p)(hd:d≤64)(hpm:p.m≤1000)(hm:M.length≤100)(hl:L.length≤100){z:Int}(e:zbk p M L d=[z]):Calls Tryz.prog 11 #[.pointer (some ⟨q,0,none⟩),p.val] w1 fun e w'=>∃ A c,e=.returned (.slice A 1 c)∧Hid (Rd w' A 1 (zn z))∧Keep w1 w':=by
 refine(F.nodes p h hg hp hd hpm hm hl).mono ?_;rintro e' w' ⟨v,he,⟨A,c,e2,hr,_⟩,_,k⟩;rw[e] at hr e2;subst e2
 exact⟨A,c,he,⟨hr.small,fun j hj=>(by obtain rfl:j=0:=Nat.lt_one_iff.1 hj;exact hr.range 0 hj),fun hn=>(by
  obtain⟨b,o,e3,hc⟩:=hr.adr hn
  exact⟨b,o,e3,fun j hj=>by obtain rfl:j=0:=Nat.lt_one_iff.1 hj;exact hc 0 hj⟩)⟩,k⟩
theorem zpm(F:zik CS)(p:zaa)(h:CS w d q M L X w1)(hg:zaw w1)(hp:zaf w1 p)(hd:d≤64)(hpm:p.m≤1000)(hm:M.length≤100)(hl:L.length≤100){z:Int}{r:Nat}(e:zfe p M L d=[z])(e1:zci p z M L d=r):Calls Tryz.prog 12 #[.pointer (some ⟨q,0,none⟩),p.val] w1 fun e w'=>∃ b o c,e=.returned (.slice (some ⟨b,o,none⟩) 1 c)∧Hid (w'.cell? ⟨b,o,none⟩=some (.int .i64 z)∧w'.cell? ⟨b,o+1,none⟩=some (.int .i64 r))∧Keep w1 w':=by
 refine(F.reasons p h hg hp hd hpm hm hl).mono ?_;rintro e' w' ⟨A,c,he,hr,k⟩;rw[e] at he hr;obtain⟨b,o,rfl,hc⟩:=hr.adr (by show 0<1;omega)
 have h0:=hc 0 (by show 0<1;omega)
 rw[show zbq [z] 0=z from rfl,e1] at h0
 exact⟨b,o,c,he,h0,k⟩
theorem zys(F:zik CS)(p:zaa)(h:CS w d q M L X w1)(hg:zaw w1)(hp:zaf w1 p)(hd:d≤64)(hpm:p.m≤1000)(hm:M.length≤100)(hl:L.length≤100){b:Bool}(e:zfy p M d=b):Calls Tryz.prog 15 #[.pointer (some ⟨q,0,none⟩),p.val] w1 fun e w'=>e=.returned (.bool b)∧Keep w1 w':=by
 have h1:=F.ever p h hg hp hd hpm hm hl;rw[e] at h1;exact h1
end
set_option maxRecDepth 100000 in
set_option maxHeartbeats 4000000 in
theorem awake17_true{CS:zba}(C:Con CS)(N:zga CS)(F:zik CS):ziv:=by
 intro W0 hg;have hg0:=Lib.hid hg;replace hg:=Lib.hid hg;have KW0:Hid (Keep W0 W0):=Keep.refl _;have cN:Hid (Calls Tryz.prog 23 #[.int .i64 1] W0 fun e w'=>∃ q,e=.returned (.pointer (some ⟨q,0,none⟩))∧CS W0 1 q [] [] (fun _=>False) w'∧Keep W0 w'):=N 1 W0 W0 _ (Keep.refl _) (fun _ h=>h.elim) (by omega)
 go_enter Tryz.func8,Tryz.ntmps8
 go_wp2_with fail;refine cN.out.mono ?_;rintro e w1 ⟨q,rfl,o1,_⟩;replace o1:=Lib.hid o1;have Kw1:Hid (Keep W0 w1):=C.kp o1.out;clear cN;obtain⟨ba,hba⟩:∃ b,b=w1.heap.size:=⟨_,rfl⟩;obtain⟨Wa,hWa⟩:∃ W,W=w1.alloc (.cells #[.int .i64 5] 2):=⟨_,rfl⟩;have ka:Hid (Keep w1 Wa):=by rw[hWa];exact Keep.one _ _
 have Ba:Hid (Wa.heap[ba]?=some (.cells #[.int .i64 5] 2 (0,0))):=by show _=_;rw[hWa,hba];exact heap_alloc_new _ _
 have cc:=Lib.hid (zqc C (C.keep o1.out ka.out) hg0.out Ba.out (k:=7) (z:=5) (by unfold I64;omega) (by omega) (by decide) (by decide))
 go_wp2_with fail;rw[← hWa,← hba];replace hWa:=Lib.hid hWa;replace hba:=Lib.hid hba;refine cc.out.mono ?_;rintro e w2 ⟨rfl,o2⟩;clear cc;replace o2:=Lib.hid o2;obtain⟨bs,hbs⟩:∃ b,b=w2.heap.size:=⟨_,rfl⟩;obtain⟨Ws,hWs⟩:∃ W,W=w2.alloc (.cells #[.int .i64 2] 2):=⟨_,rfl⟩;have ks:Hid (Keep w2 Ws):=by rw[hWs];exact Keep.one _ _
 have Bs:Hid (Ws.heap[bs]?=some (.cells #[.int .i64 2] 2 (0,0))):=by show _=_;rw[hWs,hbs];exact heap_alloc_new _ _
 have cc:=Lib.hid (zqc C (C.keep o2.out ks.out) hg0.out Bs.out (k:=3) (z:=2) (by unfold I64;omega) (by omega) (by decide) (by decide))
 go_wp2_with fail;rw[← hWs,← hbs];replace hWs:=Lib.hid hWs;replace hbs:=Lib.hid hbs;refine cc.out.mono ?_;rintro e w3 ⟨rfl,o3⟩;clear cc;replace o3:Hid (CS W0 1 q zja [] (fun _=>False) w3):=o3
 obtain⟨br,hbr⟩:∃ b,b=w3.heap.size:=⟨_,rfl⟩;obtain⟨bp,hbp⟩:∃ b,b=w3.heap.size+1:=⟨_,rfl⟩;obtain⟨p,hp⟩:∃ p,p=(lq 1 0 4 (some ⟨br,0,none⟩) 1):=⟨_,rfl⟩;obtain⟨Wp,hWp⟩:∃ W,W=(w3.alloc (.cells #[.int .i64 4] 2)).alloc (.cells (zab p) 26):=⟨_,rfl⟩;have s4:(w3.alloc (.cells #[.int .i64 4] 2)).heap.size=w3.heap.size+1:=World.size_alloc _ _;have kp:Hid (Keep w3 Wp):=by rw[hWp];exact(Keep.one _ _).alloc _
 have Br:Hid (Wp.heap[br]?=some (.cells #[.int .i64 4] 2 (0,0))):=by show _=_;rw[hWp,hbr];exact(Keep.one _ _).block (heap_alloc_new _ _)
 have Bp:Hid (Wp.heap[bp]?=some (.cells (zab p) 26 (0,0))):=by show _=_;rw[hWp,hbp,← s4];exact heap_alloc_new _ _
 have KWp:Hid (Keep W0 Wp):=(C.kp o3.out).trans kp.out;have oWp:=Lib.hid (C.keep o3.out kp.out);have pis:Hid (∀ Wz,Keep Wp Wz→zaf Wz (lq 1 0 4 (some ⟨br,0,none⟩) 1)):=fun Wz kk=>abk (by unfold I64;omega) (by unfold I64;omega) (zmb (Keep.block kk Br.out) (by omega)) (fun e=>by cases e)
 have X0:=zah Bp.out;have x0:=X0.e0;have x1:=X0.e1;have x2:=X0.e2;have x3:=X0.e3;have x4:=X0.e4;have x5:=X0.e5;have x6:=X0.e6;have x7:=X0.e7;have x8:=X0.e8;clear X0;have cc:=Lib.hid (zmz F (lq 1 0 4 (some ⟨br,0,none⟩) 1) oWp.out (hg0.out.keep KWp.out) (pis.out Wp (Keep.refl _)) (by omega) (by show(1:Nat)≤1000;omega) (by decide) (by decide) (ztu _ _) rfl rfl)
 have hp2:=hp;unfold zab at hWp;rw[hp] at hWp;unfold lq at hWp;simp only at hWp;rw[hbr] at hWp;rw[hWp] at x0 x1 x2 x3 x4 x5 x6 x7 x8;rw[hbp] at x0 x1 x2 x3 x4 x5 x6 x7 x8;rw[hp] at x0 x1 x2 x3 x4 x5 x6 x7 x8;unfold lq at x0 x1 x2 x3 x4 x5 x6 x7 x8;simp only at x0 x1 x2 x3 x4 x5 x6 x7 x8;rw[hbr] at x4;replace hp:=Lib.hid hp;replace s4:=Lib.hid s4;have Bp:Hid (Wp.heap[bp]?=some (.cells (zab (lq 1 0 4 (some ⟨br,0,none⟩) 1)) 26 (0,0))):=by rw[← hp2];exact Bp.out
 replace hp2:=Lib.hid hp2;unfold zaa.val lq at cc;simp only at cc;rw[hbr] at cc;go_wp2_with fail;rw[← hWp,← hbp,← hbr];rw[← hbr] at cc;replace hWp:=Lib.hid hWp;replace hbp:=Lib.hid hbp;replace hbr:=Lib.hid hbr;clear x0 x1 x2 x3 x4 x5 x6 x7 x8;refine cc.out.mono ?_;rintro e w4 ⟨rfl,kk⟩;clear cc;have K4:Hid (Keep Wp w4):=kk;clear kk;have X0:=zah (x:=(lq 1 0 4 (some ⟨br,0,none⟩) 1)) (Keep.block K4.out Bp.out);have x0:=X0.e0;have x1:=X0.e1;have x2:=X0.e2;have x3:=X0.e3;have x4:=X0.e4;have x5:=X0.e5;have x6:=X0.e6;have x7:=X0.e7;have x8:=X0.e8;clear X0;unfold lq at x0 x1 x2 x3 x4 x5 x6 x7 x8;simp only at x0 x1 x2 x3 x4 x5 x6 x7 x8;have cc:=Lib.hid (zst F (lq 1 0 4 (some ⟨br,0,none⟩) 1) 3 (C.keep oWp.out K4.out) (hg0.out.keep (KWp.out.trans K4.out)) (pis.out w4 K4.out) (by unfold I64;omega) (by omega) (by show(1:Nat)≤1000;omega) (by decide) (by decide) (abx _ _))
 try unfold zaa.val lq at cc
 try simp only at cc
 go_wp2_with fail;refine cc.out.mono ?_;rintro e w5 ⟨rfl,kk⟩;clear cc;clear x0 x1 x2 x3 x4 x5 x6 x7 x8;have K5:Hid (Keep Wp w5):=K4.out.trans kk;replace kk:=Lib.hid kk;obtain⟨bn,hbn⟩:∃ b,b=w5.heap.size:=⟨_,rfl⟩;obtain⟨Wn,hWn⟩:∃ W,W=w5.alloc (.cells #[.int .i64 9] 2):=⟨_,rfl⟩;have kn:Hid (Keep w5 Wn):=by rw[hWn];exact Keep.one _ _
 have Bn:Hid (Wn.heap[bn]?=some (.cells #[.int .i64 9] 2 (0,0))):=by show _=_;rw[hWn,hbn];exact heap_alloc_new _ _
 have cc:=Lib.hid (zmz F (lq 0 0 9 (some ⟨bn,0,none⟩) 1) (C.keep oWp.out (K5.out.trans kn.out)) (hg0.out.keep (KWp.out.trans (K5.out.trans kn.out))) (abk (by unfold I64;omega) (by unfold I64;omega) (zmb Bn.out (by omega)) (fun e=>by cases e)) (by omega) (by show(1:Nat)≤1000;omega) (by decide) (by decide) (abw _ _) rfl rfl)
 try unfold zaa.val lq at cc
 try simp only at cc
 go_wp2_with fail;rw[← hWn,← hbn];replace hWn:=Lib.hid hWn;replace hbn:=Lib.hid hbn;refine cc.out.mono ?_;rintro e w6 ⟨rfl,kk⟩;clear cc;have K6:Hid (Keep Wp w6):=K5.out.trans (kn.out.trans kk);replace kk:=Lib.hid kk;have X0:=zah (x:=(lq 1 0 4 (some ⟨br,0,none⟩) 1)) (Keep.block K6.out Bp.out);have x0:=X0.e0;have x1:=X0.e1;have x2:=X0.e2;have x3:=X0.e3;have x4:=X0.e4;have x5:=X0.e5;have x6:=X0.e6;have x7:=X0.e7;have x8:=X0.e8;clear X0;unfold lq at x0 x1 x2 x3 x4 x5 x6 x7 x8;simp only at x0 x1 x2 x3 x4 x5 x6 x7 x8;have cc:=Lib.hid (zpm F (lq 1 0 4 (some ⟨br,0,none⟩) 1) (C.keep oWp.out K6.out) (hg0.out.keep (KWp.out.trans K6.out)) (pis.out w6 K6.out) (by omega) (by show(1:Nat)≤1000;omega) (by decide) (by decide) (abv _ _) (abt _ _))
 try unfold zaa.val lq at cc
 try simp only at cc
 go_wp2_with fail;refine cc.out.mono ?_;rintro e w7 ⟨rb,ro,rc,rfl,RR,kk⟩;clear cc;clear x0 x1 x2 x3 x4 x5 x6 x7 x8;have K7:Hid (Keep Wp w7):=K6.out.trans kk;replace kk:=Lib.hid kk;have X0:=zah (x:=(lq 1 0 4 (some ⟨br,0,none⟩) 1)) (Keep.block K7.out Bp.out);have x0:=X0.e0;have x1:=X0.e1;have x2:=X0.e2;have x3:=X0.e3;have x4:=X0.e4;have x5:=X0.e5;have x6:=X0.e6;have x7:=X0.e7;have x8:=X0.e8;clear X0;unfold lq at x0 x1 x2 x3 x4 x5 x6 x7 x8;simp only at x0 x1 x2 x3 x4 x5 x6 x7 x8;have cc:=Lib.hid (zvd F (lq 1 0 4 (some ⟨br,0,none⟩) 1) (C.keep oWp.out K7.out) (hg0.out.keep (KWp.out.trans K7.out)) (pis.out w7 K7.out) (by omega) (by show(1:Nat)≤1000;omega) (by decide) (by decide) (ztu _ _))
 try unfold zaa.val lq at cc
 try simp only at cc
 go_wp2_with fail;refine cc.out.mono ?_;rintro e w8 ⟨nA,nc,rfl,RN,kk⟩;clear cc;clear x0 x1 x2 x3 x4 x5 x6 x7 x8;have K8:Hid (Keep Wp w8):=K7.out.trans kk;replace RR:Hid (w8.cell? ⟨rb,ro,none⟩=some (.int .i64 3)∧w8.cell? ⟨rb,ro+1,none⟩=some (.int .i64 ((0:Nat):Int))):=⟨Keep.cell kk RR.out.1,Keep.cell kk RR.out.2⟩;replace kk:=Lib.hid kk;obtain⟨bv,hbv⟩:∃ b,b=w8.heap.size:=⟨_,rfl⟩;obtain⟨Wv,hWv⟩:∃ W,W=w8.alloc (.cells #[.int .i64 7] 3):=⟨_,rfl⟩;have kv:Hid (Keep w8 Wv):=by rw[hWv];exact Keep.one _ _
 have Bv:Hid (Wv.heap[bv]?=some (.cells #[.int .i64 7] 3 (0,0))):=by show _=_;rw[hWv,hbv];exact heap_alloc_new _ _
 have eqc:Hid (Calls Tryz.prog 21 #[.slice nA 1 nc,.slice (some ⟨bv,0,none⟩) 1 1] Wv fun e w'=>e=.returned (.bool true)∧Keep Wv w'):=by
  refine(zli nA (some ⟨bv,0,none⟩) 1 1 nc 1 (zn 7) (zn 7) Wv (RN.out.keep kv.out) (zmb Bv.out (by omega))).mono ?_
  rintro e w' ⟨h3,h4⟩;rw[zhb rfl fun _ _=>rfl] at h3
  exact⟨h3,h4.keep⟩
 have cc:=Lib.hid (eqc.out);try unfold zaa.val lq at cc
 try simp only at cc
 go_wp2_with fail;rw[← hWv,← hbv];replace hWv:=Lib.hid hWv;replace hbv:=Lib.hid hbv;refine cc.out.mono ?_;rintro e w9 ⟨rfl,kk⟩;clear cc;have K9:Hid (Keep Wp w9):=K8.out.trans (kv.out.trans kk);replace RR:Hid (w9.cell? ⟨rb,ro,none⟩=some (.int .i64 3)∧w9.cell? ⟨rb,ro+1,none⟩=some (.int .i64 ((0:Nat):Int))):=⟨Keep.cell (kv.out.trans kk) RR.out.1,Keep.cell (kv.out.trans kk) RR.out.2⟩;replace kk:=Lib.hid kk;obtain⟨r0,r1⟩:=RR.out;have eqp:=zrt w9;have X0:=zah (x:=(lq 1 0 4 (some ⟨br,0,none⟩) 1)) (Keep.block K9.out Bp.out);have x0:=X0.e0;have x1:=X0.e1;have x2:=X0.e2;have x3:=X0.e3;have x4:=X0.e4;have x5:=X0.e5;have x6:=X0.e6;have x7:=X0.e7;have x8:=X0.e8;clear X0;unfold lq at x0 x1 x2 x3 x4 x5 x6 x7 x8;simp only at x0 x1 x2 x3 x4 x5 x6 x7 x8;have cc:=Lib.hid (zys F (lq 1 0 4 (some ⟨br,0,none⟩) 1) (C.keep oWp.out K9.out) (hg0.out.keep (KWp.out.trans K9.out)) (pis.out w9 K9.out) (by omega) (by show(1:Nat)≤1000;omega) (by decide) (by decide) (abu _ _))
 try unfold zaa.val lq at cc
 try simp only at cc
 go_wp2_with fail;refine cc.out.mono ?_;rintro e w10 ⟨rfl,kk⟩;clear cc;clear x0 x1 x2 x3 x4 x5 x6 x7 x8;have K10:Hid (Keep Wp w10):=K9.out.trans kk;replace kk:=Lib.hid kk;clear r0 r1 eqp;have X0:=zah (x:=(lq 1 0 4 (some ⟨br,0,none⟩) 1)) (Keep.block K10.out Bp.out);have x0:=X0.e0;have x1:=X0.e1;have x2:=X0.e2;have x3:=X0.e3;have x4:=X0.e4;have x5:=X0.e5;have x6:=X0.e6;have x7:=X0.e7;have x8:=X0.e8;clear X0;unfold lq at x0 x1 x2 x3 x4 x5 x6 x7 x8;simp only at x0 x1 x2 x3 x4 x5 x6 x7 x8;have cc:=Lib.hid (F.none (lq 1 0 4 (some ⟨br,0,none⟩) 1) w10 (pis.out w10 K10.out));try unfold zaa.val lq at cc
 try simp only at cc
 go_wp2_with fail;refine cc.out.mono ?_;rintro e w11 ⟨rfl,kk⟩;clear cc;clear x0 x1 x2 x3 x4 x5 x6 x7 x8;have K11:Hid (Keep Wp w11):=K10.out.trans kk;replace kk:=Lib.hid kk;go_wp2;go_ret
 exact⟨rfl,KWp.out.trans K11.out⟩
end Go.Proofs.YtihjgcibpfajkaaGreatDoor.T17
