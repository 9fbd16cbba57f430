/-
  The reference's On and With. Condition: at most 1000 pods.
  Where a node stands in a list of nodes. No condition, no walk.
  The reference's cluster as a value; its Find. No condition.
  The reference's Pods of layer 15, its has of layer 16. Condition: at most 1000 pods.
  The reference's Used: what the pods of a node hold. Conditions: at most 100 pods, whose requests are of the dimension and in the limits; the dimension is at most 64.
  The reference's Sum of layer 15. Conditions: at most 100 pods, whose requests are of the dimension and in the limits; the dimension is at most 64.
  The law's operations, its few, its code; the reference's list behind an operation. Conditions: errors.errorType holds its own; at most 1000 pods.
-/
import Derived.Test.YtihjgcibpfajkaaGreatDoorD9
import Derived.Test.YtihjgcibpfajkaaGreatDoorD7
import Derived.Test.YtihjgcibpfajkaaGreatDoorD2
import Derived.Test.YtihjgcibpfajkaaGreatDoorD6
namespace Go.Proofs.YtihjgcibpfajkaaGreatDoor.T13
open Go.RowKit Go.Sort Go.Lib V12
theorem ado{w:World}{base n c:Nat}{B:Option Addr}{Q:Nat→zaa}(h:w.ownsRow base 26 9 (.slice B n c) n (zaq Q n))(hn:n≤9223372036854775807)(hi:∀ j,j<n→zaf w (Q j)):zax w B n Q :=
 ⟨hn,fun hp=>by
  obtain⟨g,cap,e,_,_⟩:=h.form hp;simp only[Value.slice.injEq] at e;obtain⟨rfl,_,rfl⟩:=e
  exact⟨g,0,rfl,fun t ht=>zbz h ht⟩,hi⟩
end Go.Proofs.YtihjgcibpfajkaaGreatDoor.T13
namespace Go.Proofs.YtihjgcibpfajkaaGreatDoor.C14
open Go.RowKit Go.Lib V12
def keys(L:List NdC):List Int:=L.map (·.k)
def zai(L:List NdC)(id:Int):NdC:=(L.find? fun y=>decide (y.k=id)).getD zp
def findN(P:Nat→NdC)(id:Int):Nat→Int
 | 0=>-1
 | n+1=>if 0≤findN P id n then findN P id n else if (P n).k=id then(n:Int) else -1
theorem find_no{P:Nat→NdC}{id:Int}:∀ {n},(∀ t,t<n→(P t).k≠id)→findN P id n = -1
 | 0,_=>rfl
 | n+1,h=>by
   rw[findN,find_no (fun t ht=>h t (by omega)),if_neg (by omega),if_neg (h n (by omega))]
theorem find_at{P:Nat→NdC}{id:Int}{j:Nat}(hj:(P j).k=id)(h:∀ t,t<j→(P t).k≠id):∀ {n},j<n→findN P id n=(j:Int)
 | n+1,hn=>by
   by_cases e:j=n
   ·subst e
    rw[findN,find_no h,if_neg (by omega),if_pos hj]
   ·rw[findN,find_at hj h (n:=n) (by omega),if_pos (by omega)]
theorem find_cases(P:Nat→NdC)(id:Int)(n:Nat):(findN P id n = -1∧id∉keys (lst P n))∨∃ j,j<n∧findN P id n=(j:Int)∧(P j).k=id∧id∈keys (lst P n)∧zai (lst P n) id=P j:=by
 by_cases h:∃ j,j<n∧(P j).k=id
 ·right
  obtain⟨j,hj,hk,hm⟩:∃ j,j<n∧(P j).k=id∧∀ t,t<j→(P t).k≠id:=by
   induction n with
   | zero=>obtain⟨j,hj,_⟩:=h;exact absurd hj (Nat.not_lt_zero _)
   | succ n ih =>
     by_cases h2:∃ j,j<n∧(P j).k=id
     ·obtain⟨j,a,b,c⟩:=ih h2
      exact⟨j,by omega,b,c⟩
     ·obtain⟨j,hj,hk⟩:=h
      refine⟨j,hj,hk,fun t ht e=>h2 ⟨t,by omega,e⟩⟩
  refine⟨j,hj,find_at hk hm hj,hk,?_,?_⟩
  ·unfold keys
   rw[← hk];exact List.mem_map_of_mem (lst_mem.2 ⟨j,hj,rfl⟩)
  ·unfold zai
   have e:(lst P n).find? (fun y=>decide (y.k=id))=some (P j):=by
    rw[List.find?_eq_some_iff_getElem];refine⟨by simpa using hk,j,by rw[lst_len];exact hj,?_,fun t ht=>?_⟩
    ·have:=zav (Q:=P) hj
     rw[List.getElem?_eq_getElem (by rw[lst_len];exact hj)] at this
     exact Option.some.inj this
    ·have h1:=zav (Q:=P) (n:=n) (j:=t) (by omega)
     rw[List.getElem?_eq_getElem (by rw[lst_len];omega)] at h1
     rw[Option.some.inj h1]
     simpa using hm t ht
   rw[e];rfl
 ·left
  refine⟨find_no fun t ht e=>h ⟨t,ht,e⟩,fun hk=>?_⟩
  obtain⟨y,hy,e⟩:=List.mem_map.1 hk;obtain⟨j,hj,rfl⟩:=lst_mem.1 hy;exact h ⟨j,hj,e⟩
theorem find_iff{P:Nat→NdC}{id:Int}{n:Nat}:0≤findN P id n↔id∈keys (lst P n):=by
 rcases find_cases P id n with ⟨h1,h2⟩ | ⟨j,_,h1,_,h2,_⟩
 ·rw[h1];exact⟨fun h=>absurd h (by decide),fun h=>absurd h h2⟩
 ·rw[h1];exact⟨fun _=>h2,fun _=>by omega⟩
end Go.Proofs.YtihjgcibpfajkaaGreatDoor.C14
namespace Go.Proofs.YtihjgcibpfajkaaGreatDoor.T14
open Go.RowKit Go.Sort Go.Lib V12 T13
structure RcV where
 d:Int
 A:Option Addr
 n:Nat
 c:Nat
 B:Option Addr
 m:Nat
 e:Nat
def RcV.val(x:RcV):Value:=.agg #[.int .i64 x.d,.slice x.A x.n x.c,.slice x.B x.m x.e]
def RcV.arr(x:RcV):Array Value:=#[.int .i64 x.d,.slice x.A x.n x.c,.slice x.B x.m x.e]
theorem zac{w:World}{b:Nat}{x:RcV}{T:TypeId}(h:w.heap[b]?=some (.cells x.arr T (0,0))):w.cell? ⟨b,0,none⟩=some (.int .i64 x.d)∧w.cell? ⟨b,1,none⟩=some (.slice x.A x.n x.c)∧w.cell? ⟨b,2,none⟩=some (.slice x.B x.m x.e)∧∀ i,w.frozen? ⟨b,i,none⟩=false:=by
 refine⟨?_,?_,?_,fun i=>frozen_of_row w b i _ _ h⟩<;>rw[cell_of_row w b _ _ _ _ h]<;>rfl
def zan(w:World)(s:Nat)(x:RcV):World:=((w.setCell ⟨s,0,none⟩ (.int .i64 x.d)).setCell ⟨s,1,none⟩ (.slice x.A x.n x.c)).setCell ⟨s,2,none⟩ (.slice x.B x.m x.e)
theorem zhv{w:World}{s:Nat}{a0 a1 a2 u:Value}{T:TypeId}(h:w.heap[s]?=some (.cells #[a0,a1,a2] T (0,0))):
  (w.setCell ⟨s,0,none⟩ u).heap[s]?=some (.cells #[u,a1,a2] T (0,0))∧(w.setCell ⟨s,1,none⟩ u).heap[s]?=some (.cells #[a0,u,a2] T (0,0))∧(w.setCell ⟨s,2,none⟩ u).heap[s]?=some (.cells #[a0,a1,u] T (0,0)):=by
 have hlt:=lt_of_block h;have h':w.heap[s]=.cells #[a0,a1,a2] T (0,0):=by simpa [Array.getElem?_eq_getElem hlt] using h
 refine⟨?_,?_,?_⟩
 all_goals
  show(w.heap.modify s _)[s]?=_
  rw[Array.getElem?_eq_getElem (by simpa using hlt),Array.getElem_modify_self,h']
  rfl
theorem zbm{w:World}{s:Nat}(x y:RcV){T:TypeId}(h:w.heap[s]?=some (.cells y.arr T (0,0))):(zan w s x).heap[s]?=some (.cells x.arr T (0,0)):=
 (zhv (zhv (zhv h).1).2.1).2.2
theorem zbh{w0 w:World}{s:Nat}(x:RcV)(k:Keep w0 w)(hs:w0.heap.size≤s):Keep w0 (zan w s x):=((k.set hs _).set hs _).set hs _
theorem zar{w:World}{s k:Nat}(x:RcV)(h:k≠s):(zan w s x).heap[k]?=w.heap[k]?:=by
 unfold zan
 repeat rw[Below.heap_setCell _ _ _ _ h]
theorem zct(w:World)(s:Nat)(x:RcV):(zan w s x).heap.size=w.heap.size:=by unfold zan;simp
def zrc:RcV:=⟨0,none,0,0,none,0,0⟩
def RcV.with(x:RcV)(B:Option Addr)(m e:Nat):RcV:=⟨x.d,x.A,x.n,x.c,B,m,e⟩
theorem zlq(L:List C14.NdC):nk (L.map nv)=C14.keys L:=by unfold nk G.keys C14.keys;rw[List.map_map];rfl
set_option maxRecDepth 100000 in
set_option maxHeartbeats 4000000 in
theorem zht(x:RcV)(P:Nat→C14.NdC)(id:Int)(w:World)(hR:C14.RdN w x.A x.n P):Calls Tryz.prog 47 #[x.val,.int .i64 id] w fun e w'=>e=.returned (.int .i64 (C14.findN P id x.n))∧w'=w.alloc (.cells x.arr 30):=by
 obtain⟨xd,A,n,c,B,m,e⟩:=x;simp only at hR ⊢;have hX:=heap_alloc_new w (.cells (RcV.arr ⟨xd,A,n,c,B,m,e⟩) 30);have KW:Keep w (w.alloc (.cells (RcV.arr ⟨xd,A,n,c,B,m,e⟩) 30)):=Keep.one _ _;have RW:=Lib.hid (hR.keep KW);obtain⟨c0,c1,c2,cf⟩:=zac hX;have hn:=hR.small;unfold RcV.arr at *;unfold RcV.val;simp only at c0 c1 c2 cf RW;obtain⟨r,hr⟩:∃ r,r=C14.findN P id n:=⟨_,rfl⟩;rw[← hr];replace hr:=Lib.hid hr;replace hX:=Lib.hid hX;replace KW:=Lib.hid KW;clear hR
 go_enter Tryz.func47,Tryz.ntmps47
 go_wp2
 go_loopg [5] n (fun gx s5 wr=>∃ j:Nat,j≤n∧gx=n - j∧s5=.int .i64 j∧wr=w.alloc (.cells #[.int .i64 xd,.slice A n c,.slice B m e] 30)∧Hid (∀ t,t<j→(P t).k≠id))
 case atStart=>exact⟨0,Nat.zero_le _,rfl,rfl,rfl,fun t h=>absurd h (Nat.not_lt_zero _)⟩
 case round =>
  obtain⟨j,hj,rfl,rfl,rfl,NO⟩:=hrel
  by_cases hlt:j<n
  ·obtain⟨g,off,hA,ca⟩:=RW.out.adr (by omega)
   subst hA;have q1:=C14.atN g off n c j hlt;have x0:=(ca j hlt).e0;clear ca
   by_cases hk:(P j).k=id
   ·have e:r=(j:Int):=by rw[hr.out];exact C14.find_at hk NO.out hlt
    obtain⟨k,hkk⟩:∃ k,k=(P j).k:=⟨_,rfl⟩;rw[← hkk] at x0 hk;replace hkk:=Lib.hid hkk;subst hk;subst e;go_wp2;go_ret
    exact⟨rfl,rfl⟩
   ·have NO2:Hid (∀ t,t<j+1→(P t).k≠id):=fun t ht=>by
     by_cases e:t=j
     ·rw[e];exact hk
     ·exact NO.out t (by omega)
    obtain⟨k,hkk⟩:∃ k,k=(P j).k:=⟨_,rfl⟩;rw[← hkk] at x0 hk;replace hkk:=Lib.hid hkk;go_wp2;go_roundg (n - (j+1))
    case measure=>omega
    case rel=>exact⟨j+1,hlt,rfl,by go_num,rfl,NO2⟩
  ·obtain rfl:j=n:=by omega
   have e:r = -1:=by rw[hr.out];exact C14.find_no NO.out
   subst e;go_wp2;go_ret
   exact⟨rfl,rfl⟩
end Go.Proofs.YtihjgcibpfajkaaGreatDoor.T14
namespace Go.Proofs.YtihjgcibpfajkaaGreatDoor.T16
open Go.RowKit Go.Sort Go.Lib V12 T13 T14 T15
theorem zcz{w w':World}{k:Nat}(h:Keep w w')(hk:k<w.heap.size):w'.heap[k]?=w.heap[k]?:=Below.block h k hk
end Go.Proofs.YtihjgcibpfajkaaGreatDoor.T16
namespace Go.Proofs.YtihjgcibpfajkaaGreatDoor.T14
open Go.RowKit Go.Sort Go.Lib V12 T13
theorem Tryz.infoU14:(Tryz.prog.info? 2).map (fun i=>(i.zero,i.size,i.bytes))=some (some (.int .i64 0),1,8):=by kernel_rfl
def zda(w:World)(g d:Nat)(Z:Nat→Int):Prop:=w.rowIs g 2 d fun k=>.int .i64 (Z k)
theorem zda.rd{w:World}{g d:Nat}{Z:Nat→Int}(h:zda w g d Z)(hd:d≤9223372036854775807)(hz:∀ k,k<d→-9223372036854775808≤Z k∧Z k≤9223372036854775807):Rd w (some ⟨g,0,none⟩) d Z:=zec h hd hz
theorem zda.set{w:World}{g d i:Nat}{Z:Nat→Int}(h:zda w g d Z)(u:Int):zda (w.setCell ⟨g,i,none⟩ (.int .i64 u)) g d (fun k=>if k=i then u else Z k):=by
 refine(World.rowIs.set h i _).congr fun k hk=>?_
 show(if k=i then Value.int .i64 u else .int .i64 (Z k))=.int .i64 (if k=i then u else Z k)
 split<;>rfl
theorem zpy(P:Nat→zaa)(n:Nat)(id:Int)(j:Nat):zaj (lst P (n+1)) id j=zaj (lst P n) id j+zaz id j (P n):=by
 rw[lst_succ,zfg];show _+(zaz id j (P n)+0)=_
 omega
theorem zkj{id:Int}{j:Nat}{y:zaa}(h:¬(y.d=id∧(y.h=3∨y.h=4))):zaz id j y=0:=by
 unfold zaz holds;rw[if_neg]
 simpa using h
theorem zsa{id:Int}{j:Nat}{y:zaa}(h:y.d=id∧(y.h=3∨y.h=4)):zaz id j y=y.Z j:=by
 unfold zaz holds;rw[if_pos (decide_eq_true h)]
theorem at64(g n cp j:Nat)(hj:j<n)(W:World):(Instr.indexAt 24 (.slice (some ⟨g,0,none⟩) n cp) (.int .i64 j)).run Tryz.prog W=.ok (.pointer (some ⟨g,j,none⟩)) W:=by
 go_simp
theorem aeu(g o n cp j:Nat)(hj:j<n)(W:World):(Instr.indexAt 24 (.slice (some ⟨g,o,none⟩) n cp) (.int .i64 j)).run Tryz.prog W=.ok (.pointer (some ⟨g,o+j,none⟩)) W:=by
 go_simp
set_option maxRecDepth 100000 in
set_option maxHeartbeats 8000000 in
theorem zwk(x:RcV)(d:Nat)(hd:x.d=d)(hd64:d≤64)(P:Nat→zaa)(id:Int)(w:World)(hR:zax w x.B x.m P)(hm:x.m≤100)(hp:∀ j,j<x.m→(P j).m=d∧∀ k,k<d→Amt ((P j).Z k)):
  Calls Tryz.prog 81 #[x.val,.int .i64 id] w fun e w'=>∃ g,e=.returned (.slice (some ⟨g,0,none⟩) d d)∧w.heap.size≤g∧zda w' g d (zaj (lst P x.m) id)∧Keep w w':=by
 have mixed:Tryz.prog.follows .mixedOrders=true:=by kernel_rfl
 obtain⟨xd,A,n,c,B,m,e⟩:=x;simp only at hd hR hm hp ⊢;subst hd;have hmk:=run_make_row' (P:=Tryz.prog) 24 2 (.int .i64 0) 8 Tryz.underlying24 Tryz.infoU14 rfl .i64 .i64 d (by omega) (by omega)
 have R0:Hid (zda ((w.alloc (.cells #[.int .i64 d,.slice A n c,.slice B m e] 30)).alloc (.cells (madeCells #[.int .i64 0] d) 2)) (w.heap.size+1) d (zaj (lst P 0) id)):=by
  have:=World.rowIs_made (w.alloc (.cells #[.int .i64 d,.slice A n c,.slice B m e] 30)) (.int .i64 0) d 2;rw[World.size_alloc] at this;exact this
 have X0:Hid (((w.alloc (.cells #[.int .i64 d,.slice A n c,.slice B m e] 30)).alloc (.cells (madeCells #[.int .i64 0] d) 2)).heap[w.heap.size]?=some (.cells (RcV.arr ⟨d,A,n,c,B,m,e⟩) 30 (0,0))):=(Keep.one _ _).block (heap_alloc_new _ _);have K0:Hid (Keep w ((w.alloc (.cells #[.int .i64 d,.slice A n c,.slice B m e] 30)).alloc (.cells (madeCells #[.int .i64 0] d) 2))):=(Keep.one _ _).alloc _;have hm1:max (d:Int) 0=d:=by omega
 have hb1:decide (0≤(d:Int))=true:=decide_eq_true (by omega)
 have hb2:decide ((d:Int)<0)=false:=decide_eq_false (by omega)
 have hm63:m≤9223372036854775807:=by omega
 replace hR:=Lib.hid hR;replace hp:=Lib.hid hp;unfold RcV.val
 go_enter Tryz.func81,Tryz.ntmps81
 go_wp2;try simp only[hm1]
 go_loopg [6] m (fun gx s6 wr=>∃ j:Nat,j≤m∧gx=m - j∧s6=.int .i64 j∧Hid (Keep w wr)∧Hid (wr.heap[w.heap.size]?=some (.cells (RcV.arr ⟨d,A,n,c,B,m,e⟩) 30 (0,0)))∧Hid (zda wr (w.heap.size+1) d (zaj (lst P j) id)))
 case atStart=>exact⟨0,Nat.zero_le _,rfl,rfl,K0,X0,R0⟩
 case round =>
  obtain⟨j,hj,rfl,rfl,KR,BR,RR⟩:=hrel
  by_cases hlt:j<m
  ·have hU:=hp.out j hlt
   obtain⟨gp,off,hA,ca⟩:=(hR.out.keep KR.out).adr (by omega)
   subst hA;have q1:=zbe gp off m e j hlt;have Y:=ca j hlt;have yi:=hR.out.is j hlt;clear ca;obtain⟨y,hy⟩:∃ y,y=P j:=⟨_,rfl⟩;have us:Hid (∀ k,zaj (lst P (j+1)) id k=zaj (lst P j) id k+zaz id k y):=fun k=>by rw[hy];exact zpy P j id k
   rw[← hy] at Y hU yi;obtain⟨y0,y1,y2,y3,y4,y5,y6,y7,y8⟩:=Y;rw[hU.1] at y4;obtain⟨c0,c1,c2,cf⟩:=zac BR.out;have sz:=KR.out.size;have lb:w.heap.size+1<wr.heap.size:=RR.out.lt;have KA:Hid (Keep w (wr.alloc (.cells #[.int .i64 y.k,.int .i64 y.p,.bool y.f,.int .i64 y.g,.slice y.A d y.c,.int .i64 y.a,.int .i64 y.h,.int .i64 y.d,.int .i64 y.t] 26))):=KR.out.alloc _;have BA:Hid ((wr.alloc (.cells #[.int .i64 y.k,.int .i64 y.p,.bool y.f,.int .i64 y.g,.slice y.A d y.c,.int .i64 y.a,.int .i64 y.h,.int .i64 y.d,.int .i64 y.t] 26)).heap[w.heap.size]?=some (.cells (RcV.arr ⟨d,A,n,c,some ⟨gp,off,none⟩,m,e⟩) 30 (0,0))):=(Keep.one _ _).block BR.out;have RA:Hid (zda (wr.alloc (.cells #[.int .i64 y.k,.int .i64 y.p,.bool y.f,.int .i64 y.g,.slice y.A d y.c,.int .i64 y.a,.int .i64 y.h,.int .i64 y.d,.int .i64 y.t] 26)) (w.heap.size+1) d (zaj (lst P j) id)):=World.rowIs.alloc RR.out _;have SA:Hid ((wr.alloc (.cells #[.int .i64 y.k,.int .i64 y.p,.bool y.f,.int .i64 y.g,.slice y.A d y.c,.int .i64 y.a,.int .i64 y.h,.int .i64 y.d,.int .i64 y.t] 26)).heap[wr.heap.size]?=some (.cells #[.int .i64 y.k,.int .i64 y.p,.bool y.f,.int .i64 y.g,.slice y.A d y.c,.int .i64 y.a,.int .i64 y.h,.int .i64 y.d,.int .i64 y.t] 26 (0,0))):=heap_alloc_new _ _;have bd:Hid (∀ k,k<d→0≤zaj (lst P j) id k∧zaj (lst P j) id k≤109951162777600):=fun k hk=>by
    have hall:∀ z∈lst P j,Amt (z.Z k):=fun z hz=>by
     obtain⟨i,hi,rfl⟩:=lst_mem.1 hz;exact(hp.out i (by omega)).2 k hk
    refine⟨zfb hall,?_⟩;have:=zke (id:=id) hall;rw[lst_len] at this;omega
   replace hy:=Lib.hid hy;replace hU:=Lib.hid hU;replace yi:=Lib.hid yi;replace sz:=Lib.hid sz
   by_cases hh:y.d=id∧(y.h=3∨y.h=4)
   ·have zs:Hid (∀ k,zaj (lst P (j+1)) id k=zaj (lst P j) id k+y.Z k):=fun k=>by rw[us.out,zsa hh]
    have hc:y.d=id∧y.h=3∨y.d=id∧y.h=4:=by
     rcases hh with ⟨h1,h2 | h2⟩
     ·exact Or.inl ⟨h1,h2⟩
     ·exact Or.inr ⟨h1,h2⟩
    replace hh:=Lib.hid hh;rcases hc with ⟨h1,h2⟩ | ⟨h1,h2⟩
    all_goals
     rw[h1] at y7 KA BA RA SA;rw[h2] at y6 KA BA RA SA;replace h1:=Lib.hid h1;replace h2:=Lib.hid h2;go_wp2;obtain⟨sp,hsp⟩:∃ sp,sp=wr.heap.size:=⟨_,rfl⟩;rw[← hsp] at SA ⊢;replace hsp:=Lib.hid hsp
     go_loopg [8] d (fun gx s8 wq=>∃ k:Nat,k≤d∧gx=d - k∧s8=.int .i64 k∧Hid (Keep w wq)∧Hid (wq.heap[w.heap.size]?=some (.cells (RcV.arr ⟨d,A,n,c,some ⟨gp,off,none⟩,m,e⟩) 30 (0,0)))∧Hid (∃ a b',wq.heap[sp]?=some (.cells #[.int .i64 y.k,.int .i64 y.p,.bool y.f,.int .i64 y.g,.slice y.A d y.c,.int .i64 y.a,a,b',.int .i64 y.t] 26 (0,0)))∧Hid (zda wq (w.heap.size+1) d (fun t=>if t<k then zaj (lst P (j+1)) id t else zaj (lst P j) id t)))
     case atStart=>exact⟨0,Nat.zero_le _,rfl,rfl,KA,BA,⟨_,_,SA.out⟩,RA.out.congr fun t _=>by simp⟩
     case round =>
      obtain⟨k,hk,rfl,rfl,KQ,BQ,SQ,RQ⟩:=hrel
      by_cases hkd:k<d
      ·obtain⟨sa,sb,hs⟩:=SQ.out
       have s4:wr.cell? ⟨sp,4,none⟩=some (.slice y.A d y.c):=by rw[cell_of_row wr _ _ _ _ _ hs];rfl
       have yq:=(yi.out.rd.keep KQ.out);obtain⟨rb,ro,hA,cz⟩:=yq.adr (by rw[hU.out.1];omega)
       rw[hA] at s4;have z0:=cz k (by rw[hU.out.1];exact hkd)
       clear cz yq;have q2:=at64 (w.heap.size+1) d d k hkd;have q3:=aeu rb ro d y.c k hkd;have r0:wr.cell? ⟨w.heap.size+1,k,none⟩=some (.int .i64 (zaj (lst P j) id k)):=by
        have:=World.rowIs.cell RQ.out hkd;simp only[Nat.lt_irrefl,if_false] at this;exact this
       have r1:=World.rowIs.frozen RQ.out k;have bk:=bd.out k hkd;have ak:=hU.out.2 k hkd;unfold Amt at ak;obtain⟨uk,huk⟩:∃ uk,uk=zaj (lst P j) id k:=⟨_,rfl⟩;obtain⟨zk,hzk⟩:∃ zk,zk=y.Z k:=⟨_,rfl⟩;rw[← huk] at r0 bk;rw[← hzk] at z0 ak;have e1:wrap64 (uk+zk)=uk+zk:=by unfold wrap64;omega
       have R2:Hid (zda (wr.setCell ⟨w.heap.size+1,k,none⟩ (.int .i64 (uk+zk))) (w.heap.size+1) d (fun t=>if t<k+1 then zaj (lst P (j+1)) id t else zaj (lst P j) id t)):=by
        refine(zda.set RQ.out (uk+zk)).congr fun t _=>?_
        show Value.int .i64 (if t=k then uk+zk else if t<k then zaj (lst P (j+1)) id t else zaj (lst P j) id t)=Value.int .i64 (if t<k+1 then zaj (lst P (j+1)) id t else zaj (lst P j) id t)
        by_cases et:t=k
        ·subst et
         rw[if_pos rfl,if_pos (Nat.lt_succ_self _),zs.out,huk,hzk]
        ·rw[if_neg et]
         by_cases e2:t<k
         ·rw[if_pos e2,if_pos (by omega)]
         ·rw[if_neg e2,if_neg (by omega)]
       replace huk:=Lib.hid huk;replace hzk:=Lib.hid hzk;replace bk:=Lib.hid bk;replace ak:=Lib.hid ak;replace hs:=Lib.hid hs;go_wp2_with fail
       go_region
       all_goals
        have B2:Hid ((wr.setCell ⟨w.heap.size+1,k,none⟩ (.int .i64 (uk+zk))).heap[w.heap.size]?=some (.cells (RcV.arr ⟨d,A,n,c,some ⟨gp,off,none⟩,m,e⟩) 30 (0,0))):=(Below.heap_setCell _ _ _ _ (by show w.heap.size≠w.heap.size+1;omega)).trans BQ.out
        have S2:Hid (∃ a b',(wr.setCell ⟨w.heap.size+1,k,none⟩ (.int .i64 (uk+zk))).heap[sp]?=some (.cells #[.int .i64 y.k,.int .i64 y.p,.bool y.f,.int .i64 y.g,.slice y.A d y.c,.int .i64 y.a,a,b',.int .i64 y.t] 26 (0,0))):=⟨sa,sb,(Below.heap_setCell _ _ _ _ (by show sp≠w.heap.size+1;exact fun e=>absurd (hsp.out.symm.trans e) (by omega))).trans hs.out⟩
        have K2:Hid (Keep w (wr.setCell ⟨w.heap.size+1,k,none⟩ (.int .i64 (uk+zk)))):=KQ.out.set (by show w.heap.size≤w.heap.size+1;omega) _
        clear s4 z0 q2 q3 r0 r1 e1;go_wp2;go_roundg (d - (k+1))
        case measure=>omega
        case rel=>exact⟨k+1,hkd,rfl,by go_num,by first | exact K2.out | exact K2.out.drew | exact(KQ.out.drew).set (by show w.heap.size≤w.heap.size+1;omega) _,B2.out,S2.out,R2.out⟩
      ·obtain rfl:k=d:=by omega
       have R2:Hid (zda wr (w.heap.size+1) k (zaj (lst P (j+1)) id)):=RQ.out.congr fun t ht=>by simp only[ht,if_true]
       go_wp2;go_roundg (m - (j+1))
       case measure=>omega
       case rel=>exact⟨j+1,hlt,rfl,by go_num,KQ,BQ,R2⟩
   ·have zs:Hid (∀ k,zaj (lst P (j+1)) id k=zaj (lst P j) id k):=fun k=>by rw[us.out,zkj hh];omega
    have R2:Hid (zda (wr.alloc (.cells #[.int .i64 y.k,.int .i64 y.p,.bool y.f,.int .i64 y.g,.slice y.A d y.c,.int .i64 y.a,.int .i64 y.h,.int .i64 y.d,.int .i64 y.t] 26)) (w.heap.size+1) d (zaj (lst P (j+1)) id)):=RA.out.congr fun t _=>by
     show Value.int .i64 (zaj (lst P j) id t)=Value.int .i64 (zaj (lst P (j+1)) id t)
     rw[zs.out]
    by_cases h1:y.d=id
    ·have h3:¬y.h=3:=fun h=>hh ⟨h1,Or.inl h⟩
     have h4:¬y.h=4:=fun h=>hh ⟨h1,Or.inr h⟩
     rw[h1] at y7 KA BA R2;have hb3:(y.h != 3)=true:=by simpa using h3
     have hb4:(y.h != 4)=true:=by simpa using h4
     replace hh:=Lib.hid hh;replace h1:=Lib.hid h1;go_wp2;go_roundg (m - (j+1))
     case measure=>omega
     case rel=>exact⟨j+1,hlt,rfl,by go_num,KA,BA,R2⟩
    ·replace hh:=Lib.hid hh
     have hb5:(y.d != id)=true:=by simpa using h1
     go_wp2;go_roundg (m - (j+1))
     case measure=>omega
     case rel=>exact⟨j+1,hlt,rfl,by go_num,KA,BA,R2⟩
  ·obtain rfl:j=m:=by omega
   obtain⟨c0,c1,c2,cf⟩:=zac BR.out;go_wp2;go_ret
   exact⟨_,rfl,Nat.le_succ _,RR.out,KR.out⟩
end Go.Proofs.YtihjgcibpfajkaaGreatDoor.T14
namespace Go.Proofs.YtihjgcibpfajkaaGreatDoor.T16
open Go.RowKit Go.Sort Go.Lib V12 T13 T14 T15
theorem zra{L:List zaa}{t:Nat}(ht:t<L.length):row L t∈L:=by
 unfold row;rw[List.getD_eq_getElem?_getD,List.getElem?_eq_getElem ht];exact List.getElem_mem _
end Go.Proofs.YtihjgcibpfajkaaGreatDoor.T16
namespace Go.Proofs.YtihjgcibpfajkaaGreatDoor.T13
open Go.RowKit Go.Sort Go.Lib V12
structure OpV where
 ev:Int
 x:zaa
 nd:Int
 dl:Int
def OpV.val(o:OpV):Value:=.agg #[.int .i64 o.ev,.int .i64 o.x.k,.int .i64 o.x.p,.bool o.x.f,.int .i64 o.x.g,.slice o.x.A o.x.m o.x.c,.int .i64 o.x.a,.int .i64 o.x.h,.int .i64 o.x.d,.int .i64 o.x.t,.int .i64 o.nd,.int .i64 o.dl]
def OpV.arr(o:OpV):Array Value:=#[.int .i64 o.ev,.int .i64 o.x.k,.int .i64 o.x.p,.bool o.x.f,.int .i64 o.x.g,.slice o.x.A o.x.m o.x.c,.int .i64 o.x.a,.int .i64 o.x.h,.int .i64 o.x.d,.int .i64 o.x.t,.int .i64 o.nd,.int .i64 o.dl]
structure zyc(w:World)(o:OpV):Prop where
 e:I64 o.ev
 x:zaf w o.x
 n:I64 o.nd
 d:I64 o.dl
theorem zyc.keep{w w':World}{o:OpV}(h:zyc w o)(k:Keep w w'):zyc w' o:=⟨h.e,h.x.keep k,h.n,h.d⟩
structure ziy(w:World)(b o:Nat)(v:OpV):Prop where
 e:w.cell? ⟨b,o,none⟩=some (.int .i64 v.ev)
 x:zcf w b (o+1) v.x
 n:w.cell? ⟨b,o+10,none⟩=some (.int .i64 v.nd)
 d:w.cell? ⟨b,o+11,none⟩=some (.int .i64 v.dl)
theorem ziy.keep{w w':World}{b o:Nat}{v:OpV}(h:ziy w b o v)(k:Keep w w'):ziy w' b o v:=⟨k.cell h.e,h.x.keep k,k.cell h.n,k.cell h.d⟩
theorem ziy.same{w w':World}{b o:Nat}{v:OpV}(h:ziy w b o v)(e:w'.heap[b]?=w.heap[b]?):ziy w' b o v:=⟨zay h.e e,h.x.same e,zay h.n e,zay h.d e⟩
structure RdO(w:World)(A:Option Addr)(n:Nat)(P:Nat→OpV):Prop where
 small:n≤9223372036854775807
 adr:0<n→∃ b off,A=some ⟨b,off,none⟩∧∀ j,j<n→ziy w b (off+j * 12) (P j)
 is:∀ j,j<n→zyc w (P j)
theorem RdO.keep{w w':World}{A:Option Addr}{n:Nat}{P:Nat→OpV}(h:RdO w A n P)(k:Keep w w'):RdO w' A n P :=
 ⟨h.small,fun hn=>by
  obtain⟨b,off,e,c⟩:=h.adr hn
  exact⟨b,off,e,fun j hj=>(c j hj).keep k⟩,fun j hj=>(h.is j hj).keep k⟩
def zya(x:zaa):Prop:=aen (fun _=>x) 1
theorem zgq(x:zaa):∃ b,b=true↔zya x:=⟨@decide (zya x) (Classical.propDecidable _),by simp⟩
theorem zya.m{x:zaa}(h:zya x):x.m≤20:=(h.2 0 (by omega)).2.2
theorem zfa{w:World}{b:Nat}{x:zaa}{T:TypeId}(h:w.heap[b]?=some (.cells (zab x) T (0,0)))(hx:zaf w x):zax w (some ⟨b,0,none⟩) 1 (fun _=>x):=by
 obtain⟨e0,e1,e2,e3,e4,e5,e6,e7,e8,_⟩:=zah h;refine⟨by omega,fun _=>⟨b,0,rfl,fun j hj=>?_⟩,fun _ _=>hx⟩
 obtain rfl:j=0:=by omega
 exact⟨e0,e1,e2,e3,e4,e5,e6,e7,e8⟩
theorem ady{w:World}{X:Nat→Prop}{w1:World}{B:Option Addr}{c n:Nat}{P:Nat→zaa}{L:List zaa}(h:RL w X w1 B c n P)(hL:(lst P n).map nm=L)(s:Int)(x:zaa)(hx:zaf w x)(k:Keep w w1)(hn:n≤1000):
  Calls Tryz.prog 48 #[.slice B n c,.int .i64 s,x.val] w1 fun e w'=>∃ B' c' n' P',e=.returned (.tuple #[.slice B' n' c',.int .i64 (zdx L s x)])∧Keep w1 w'∧RL w (fun i=>X i∨(w1.heap.size≤i∧i<w'.heap.size)) w' B' c' n' P'∧(lst P' n').map nm=zek L s x∧(zdx L s x=0→∃ t,t<n'∧findN P' x.k n'=(t:Int)∧nm (P' t)=zcl x L.length):=by
 subst hL;have hB:B=none→n=0∧c=0:=fun e=>by
  rcases h.pl with ⟨_,h0⟩ | ⟨g,eg,_⟩
  ·exact h0
  ·rw[e] at eg;cases eg
 refine(aal B c n P s x w1 h.rd hB hn).mono ?_;rintro e w' ⟨B',c',n',P',he,kk,hp⟩;have hl:((lst P n).map nm).length=n:=by rw[List.length_map,lst_len]
 rcases hp with ⟨h0,rfl,rfl,rfl,rfl⟩ | ⟨h0,rfl,rfl,ho⟩
 ·refine⟨B',c',n',P',he,kk,(h.keep kk).less fun i=>Or.inl,?_,fun h1=>absurd h1 h0⟩
  unfold zek;rw[if_neg h0]
 ·have hk:x.k∉keys ((lst P n).map nm):=fun hk=>by
   unfold zdx at h0;rw[if_pos hk] at h0;exact absurd h0 (by decide)
  have no:∀ t,t<n→(P t).k≠x.k:=fun t ht e=>hk (by
   rw[zcq];unfold keys;rw[← e]
   exact List.mem_map_of_mem (lst_mem.2 ⟨t,ht,rfl⟩))
  refine⟨B',c',n+1,put P n (aeh x n),he,kk,⟨ado ho (by omega) fun j hj=>?_,zdg ho,Or.inr ?_,fun j hj=>?_⟩,?_,fun _=>⟨n,by omega,find_at (by rw[put_at];rfl) (fun t ht=>by rw[put_ne _ _ _ (by omega)];exact no t ht) (by omega),by rw[put_at,hl];rfl⟩⟩
  ·by_cases e:j=n
   ·rw[e,put_at]
    exact⟨(hx.keep (k.trans kk)).rd,hx.nil,hx.rng.1,hx.rng.2.1,hx.rng.2.2.1,by unfold I64;show _≤(n:Int)∧(n:Int)≤_;omega,by unfold I64;show _≤(1:Int)∧(1:Int)≤_;omega,by unfold I64;show _≤(-1:Int)∧(-1:Int)≤_;omega,by unfold I64;show _≤(-1:Int)∧(-1:Int)≤_;omega⟩
   ·rw[put_ne _ _ _ e]
    exact(h.is j (by omega)).keep (k.trans kk)
  ·obtain⟨g,cap,e,_,hb⟩:=ho.form (by omega)
   simp only[Value.slice.injEq] at e;exact⟨g,e.1,Or.inr (ho.lt g (by rw[e.1];rfl))⟩
  ·by_cases e:j=n
   ·rw[e,put_at]
    exact⟨hx.rd,hx.nil,hx.rng.1,hx.rng.2.1,hx.rng.2.2.1,by unfold I64;show _≤(n:Int)∧(n:Int)≤_;omega,by unfold I64;show _≤(1:Int)∧(1:Int)≤_;omega,by unfold I64;show _≤(-1:Int)∧(-1:Int)≤_;omega,by unfold I64;show _≤(-1:Int)∧(-1:Int)≤_;omega⟩
   ·rw[put_ne _ _ _ e]
    exact h.is j (by omega)
  ·unfold zek
   rw[if_pos h0,zft,List.map_append,List.map_singleton,hl];rfl
theorem zux{P:Nat→zaa}{n i:Nat}{y:zaa}(hd:∀ t,t<n→t≠i→(P t).k≠(P i).k)(f:zaa→zaa)(hf:f (P i)=y):lst (put P i y) n=(lst P n).map fun z=>if z.k=(P i).k then f z else z:=by
 refine List.ext_getElem? fun j=>?_
 by_cases hj:j<n
 ·rw[zav hj,List.getElem?_map,zav hj]
  show some _=some (if (P j).k=(P i).k then f (P j) else P j)
  by_cases e:j=i
  ·rw[e,put_at,if_pos rfl,hf]
  ·rw[put_ne _ _ _ e,if_neg (hd j hj e)]
 ·rw[List.getElem?_eq_none (by rw[lst_len];omega),List.getElem?_eq_none (by rw[List.length_map,lst_len];omega)]
theorem zwb{w:World}{X:Nat→Prop}{w1:World}{B:Option Addr}{c n:Nat}{P:Nat→zaa}{L:List zaa}(h:RL w X w1 B c n P)(hL:(lst P n).map nm=L)(hok:LOk L)(id ev nd dl:Int)(hnd:I64 nd)(hdl:I64 dl)(hn:n≤1000):
  Calls Tryz.prog 83 #[.slice B n c,.int .i64 id,.int .i64 ev,.int .i64 nd,.int .i64 dl] w1 fun e w'=>∃ B' c' n' P',e=.returned (.tuple #[.slice B' n' c',.int .i64 (zbi L id ev)])∧Keep w1 w'∧RL w (fun i=>X i∨(w1.heap.size≤i∧i<w'.heap.size)) w' B' c' n' P'∧(lst P' n').map nm=zcn L id ev nd dl∧(zbi L id ev=0→∃ t,t<n'∧findN P' id n'=(t:Int)∧nm (P' t)=zao (zai L id) ev nd dl):=by
 subst hL;refine(aad B c n P id ev nd dl w1 h.rd hn hnd hdl).mono ?_;rintro e w' ⟨B',c',P',he,kk,hp⟩;rcases hp with ⟨h0,rfl,rfl,rfl⟩ | ⟨h0,hc,g,i,hi,hk,hm,rfl,hg,rfl,hr⟩
 ·refine⟨B',c',n,P',he,kk,(h.keep kk).less fun i=>Or.inl,?_,fun h1=>absurd h1 h0⟩
  unfold zcn;rw[if_neg h0]
 ·have hin:id∈keys ((lst P n).map nm):=by
   rw[zcq];unfold keys;rw[← hk];exact List.mem_map_of_mem (lst_mem.2 ⟨i,hi,rfl⟩)
  have hget:zai ((lst P n).map nm) id=nm (P i):=by rw[← zfl,zhm hi hk hm]
  have hdis:∀ t,t<n→t≠i→(P t).k≠(P i).k:=fun t ht hne e=>by
   have hnd:=hok.nod;rw[zcq] at hnd;unfold keys at hnd;refine hne ((List.getElem_inj (h₀:=by rw[List.length_map,lst_len];exact ht) (h₁:=by rw[List.length_map,lst_len];exact hi) hnd).1 ?_)
   rw[List.getElem_map,List.getElem_map];have a1:=zav (Q:=P) ht;have a2:=zav (Q:=P) hi;rw[List.getElem?_eq_getElem (by rw[lst_len];exact ht)] at a1
   rw[List.getElem?_eq_getElem (by rw[lst_len];exact hi)] at a2
   rw[Option.some.inj a1,Option.some.inj a2];exact e
  have his:∀ j,j<n→zaf w (put P i (zao (P i) ev nd dl) j):=fun j hj=>by
   have h1:=hr.is j hj
   by_cases e:j=i
   ·have h2:=h.is i hi
    rw[e,put_at] at h1 ⊢;exact⟨h2.rd,h2.nil,h1.rng⟩
   ·rw[put_ne _ _ _ e]
    exact h.is j hj
  refine⟨_,c',n,_,he,kk,⟨hr,hc,Or.inr ⟨g,rfl,Or.inr ⟨hg,?_⟩⟩,his⟩,?_,fun _=>⟨i,hi,find_at (by rw[put_at];exact hk) (fun t ht=>by rw[put_ne _ _ _ (by omega)];exact hm t ht) hi,by rw[put_at,zlw,hget]⟩⟩
  ·obtain⟨b2,off2,e2,c2⟩:=hr.adr (by omega)
   have e3:=Option.some.inj e2;simp only[Addr.mk.injEq,and_true] at e3;rw[e3.1];exact zbd (c2 0 (by omega)).e0
  ·unfold zcn
   rw[if_pos h0,zux hdis (fun z=>zao z ev nd dl) rfl,List.map_map,List.map_map]
   refine List.map_congr_left fun z _=>?_
   show nm (if z.k=(P i).k then zao z ev nd dl else z)=if (nm z).k=id then zao (nm z) ev nd dl else nm z
   rw[ade,← hk]
   split
   ·exact zlw _ _ _ _
   ·rfl
end Go.Proofs.YtihjgcibpfajkaaGreatDoor.T13
