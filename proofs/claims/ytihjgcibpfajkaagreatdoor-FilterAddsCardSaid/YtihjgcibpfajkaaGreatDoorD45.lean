/-
  The landed filter: First. Conditions: at most 100 nodes and pods, the dimension is at most 64.
  The landed filter: Reason. Conditions: at most 100 nodes and pods, the dimension is at most 64.
  The landed filter: Reasons. Conditions: at most 100 nodes and pods, the dimension is at most 64.
-/
import Derived.Test.YtihjgcibpfajkaaGreatDoorD44
import Derived.Test.YtihjgcibpfajkaaGreatDoorD18
import Derived.Test.YtihjgcibpfajkaaGreatDoorD43
namespace Go.Proofs.YtihjgcibpfajkaaGreatDoor.T17
open Go.RowKit Go.Maps Go.Sort Go.Lib Go.Shelf V12 T13 T14 T15 T16
structure zgc(w1 W:World)(b:Nat)(x:Int)(s:Bool):Prop where
 r0:Boxed W b 3 (.int .i64 x)
 r1:Boxed W (b+1) 4 (.bool s)
 kp:Keep w1 W
theorem zgc.own{w1 X Y:World}{b B:Nat}{x:Int}{s:Bool}{row:Option Nat}(h:zgc w1 X b x s)(hB:w1.heap.size≤B)(hg:X.grownBy Y row)(hr:∀ r,row=some r→B≤r∧∃ o:Obj,X.heap[r]?=some o∧o.isCells=false):zgc w1 Y b x s:=by
 have ne:∀ {k:Nat} {t:TypeId} {v:Value},Boxed X k t v→some k≠row:=fun hb e=>by
  obtain⟨o,ho,hc⟩:=(hr _ e.symm).2;rw[show X.heap[_]?=_ from hb] at ho
  cases ho
  cases hc
 exact⟨h.r0.kept hg (ne h.r0),h.r1.kept hg (ne h.r1),Below.grown h.kp hg h.kp.size fun k e=>Nat.le_trans hB (hr k e).1⟩
theorem zgc.store{w1 W:World}{b:Nat}{x:Int}{s:Bool}(h:zgc w1 W b x s)(hb:w1.heap.size≤b)(y:Int)(t:Bool):zgc w1 ((W.setCell ⟨b,0,none⟩ (.int .i64 y)).setCell ⟨b+1,0,none⟩ (.bool t)) b y t :=
 ⟨(h.r0.set _).other (by omega) _,(h.r1.other (by omega) _).set _,(h.kp.set hb _).set (by show _≤b+1;omega) _⟩
theorem zgc.put{w1 W:World}{b D:Nat}{x:Int}{s:Bool}{o:Obj}(h:zgc w1 W b x s)(hD:w1.heap.size≤D)(o':Obj)(ho:W.heap[D]?=some o)(hc:o.isCells=false):zgc w1 (W.putObj D o') b x s :=
 h.own (B:=D) hD (grownBy_putObj' W D o') fun r e=>by cases e;exact⟨Nat.le_refl _,o,ho,hc⟩
section
variable{CS:zba}{w w1 W0:World}{bl b1 b2 d q:Nat}{M:List NV}{L:List zaa}{X:Nat→Prop}{p:zaa}
attribute [local go_sem] Oper.semAt_some
set_option maxRecDepth 100000 in
set_option maxHeartbeats 8000000 in
theorem zoy(C:Con CS)(FL:zmi CS)(NT:zfj CS)(h:CS w d q M L X w1)(hg:zaw w1)(hp:zaf w1 p)(hd:d≤64)(hm:p.m≤1000)(hM:M.length≤100)(hl:L.length≤100):
  Calls Tryz.prog 18 #[.pointer (some ⟨q,0,none⟩),p.val] w1 fun e w'=>e=.returned (.tuple #[.int .i64 (zbq (zbk p M L d) 0),.bool (decide (zbk p M L d≠[]))])∧Keep w1 w':=by
 refine(callsIn_wide (n:=6)).1 ?_;have h1:1≤6:=by omega
 obtain⟨W,hW,kW,bP⟩:=zdf w1 p;obtain⟨b,hb⟩:∃ b,b=w1.heap.size:=⟨_,rfl⟩;have zW:W.heap.size=b+1:=by rw[hW,World.size_alloc,hb]
 obtain⟨W3,hW3⟩:∃ W3,W3=(W.alloc (.cells #[.int .i64 0] 3)).alloc (.cells #[.bool false] 4):=⟨_,rfl⟩;have z3:W3.heap.size=b+3:=by rw[hW3,World.size_alloc,World.size_alloc,zW]
 have k3:Keep w1 W3:=by rw[hW3];exact(kW.out.alloc _).alloc _
 obtain⟨W5,hW5⟩:∃ W5,W5=(W3.alloc (.cells #[.pointer (some ⟨q,0,none⟩)] 27)).alloc (.cells (zab p) 26):=⟨_,rfl⟩;have z5:W5.heap.size=b+5:=by rw[hW5,World.size_alloc,World.size_alloc,z3]
 have k5:Keep w1 W5:=by rw[hW5];exact(k3.alloc _).alloc _
 have c1:Boxed W5 (b+3) 27 (.pointer (some ⟨q,0,none⟩)):=by rw[hW5,← z3];exact(Boxed.new _ _ _).alloc _
 have c2:W5.heap[b+4]?=some (.cells (zab p) 26 (0,0)):=by
  have z4:(W3.alloc (.cells #[.pointer (some ⟨q,0,none⟩)] 27)).heap.size=b+4:=by rw[World.size_alloc,z3]
  rw[hW5,← z4];exact heap_alloc_new _ _
 have T0:Hid (zgc w1 W5 (b+1) 0 false):=by
  have zA:(W.alloc (.cells #[.int .i64 0] 3)).heap.size=b+1+1:=by rw[World.size_alloc,zW]
  refine⟨?_,?_,k5⟩
  ·rw[hW5,hW3,← zW]
   exact(((Boxed.new _ _ _).alloc _).alloc _).alloc _
  ·rw[hW5,hW3,← zA]
   exact((Boxed.new _ _ _).alloc _).alloc _
 have sq:=zki FL NT 5 (by omega) (zul (bl:=b+1) C h hg hp k5 (by omega) (by omega) c1.cell (by omega) c2 (by omega)) hd hm hM hl
 have cF:=zjk (some ⟨q,0,none⟩) p W3;rw[← hW5,z3] at cF;have k5':=Lib.hid k5;clear h hg hp c1 c2 k5;have kWW:Keep W W3:=by rw[hW3];exact((Keep.one _ _).alloc _:Keep W _)
 have P0:=zah (kWW.block bP.out);have c0:=P0.e0;have c1:=P0.e1;have c2:=P0.e2;have c3:=P0.e3;have c4:=P0.e4;have c5:=P0.e5;have c6:=P0.e6;have c7:=P0.e7;have c8:=P0.e8;clear P0 kWW;rw[hW3,hW] at c0 c1 c2 c3 c4 c5 c6 c7 c8;unfold zab at hW c0 c1 c2 c3 c4 c5 c6 c7 c8;have hW3':W3=((w1.alloc (.cells #[.int .i64 p.k,.int .i64 p.p,.bool p.f,.int .i64 p.g,.slice p.A p.m p.c,.int .i64 p.a,.int .i64 p.h,.int .i64 p.d,.int .i64 p.t] 26)).alloc (.cells #[.int .i64 0] 3)).alloc (.cells #[.bool false] 4):=by rw[hW3,hW]
 unfold zaa.val at cF;unfold zaa.val;replace cF:=Lib.hid cF;replace hW5:=Lib.hid hW5;replace hW3:=Lib.hid hW3;replace zW:=Lib.hid zW;replace z3:=Lib.hid z3;replace z5:=Lib.hid z5;replace k3:=Lib.hid k3;replace hb:=Lib.hid hb;refine callsIn_of_wp_marks Tryz.func18 rfl trivial ?_ rfl;simp only[Tryz.ntmps18,List.size_toArray,List.length_cons,List.length_nil,Nat.reduceAdd,Nat.reduceSub,Array.replicate_succ,Array.replicate_zero,List.push_toArray,List.append_toArray,List.nil_append,List.cons_append]
 gi_wp2_with fail
 refine⟨trivial,?_⟩;rw[← hW3'];refine(callsIn_wide.2 cF.out).mono ?_;rintro e w2 ⟨rfl,rfl⟩;clear c0 c1 c2 c3 c4 c5 c6 c7 c8;replace hW3':=Lib.hid hW3'
 gi_wp2_with fail
 obtain rfl:b=w1.heap.size:=hb.out;have sz:w1.heap.size≤w2.heap.size:=k5'.out.size;have sz:=Lib.hid sz;refine wpIn_rangeFunc_ownF (α:=Int) rfl h1 (gf:=57) (lb:=#[.pointer (some ⟨w1.heap.size+3,0,none⟩),.pointer (some ⟨w1.heap.size+4,0,none⟩)]) rfl trivial (enters_of Tryz.func57 (by kernel_rfl) rfl) sq (fun h k=>KF.trans h k) (fun W l o o' hl h hc _=>KF.put o' hl h hc) (Below.refl _ _) (fun _=>rfl)
  (fun pre W=>pre=[]∧zgc w1 W (w1.heap.size+1) 0 false)
  (fun c pre W=>c=.ret∧∃ x,pre=[x]∧zgc w1 W (w1.heap.size+1) x true)
  (fun s X Y row ⟨e,hT⟩ hg hr=>⟨e,hT.own sz.out hg hr⟩)
  (fun c s X Y row ⟨e,x,e2,hT⟩ hg hr=>⟨e,x,e2,hT.own sz.out hg hr⟩)
  ⟨rfl,T0.out⟩
  (fun x=>{ tmps:=#[.pointer (some ⟨q,0,none⟩),.agg #[.int .i64 p.k,.int .i64 p.p,.bool p.f,.int .i64 p.g,.slice p.A p.m p.c,.int .i64 p.a,.int .i64 p.h,.int .i64 p.d,.int .i64 p.t],undef,.pointer (some ⟨w1.heap.size,0,none⟩),.pointer (some ⟨w1.heap.size+1,0,none⟩),.pointer (some ⟨w1.heap.size+1+1,0,none⟩),.int .i64 x,.pointer (some ⟨q,0,none⟩),.agg #[.int .i64 p.k,.int .i64 p.p,.bool p.f,.int .i64 p.g,.slice p.A p.m p.c,.int .i64 p.a,.int .i64 p.h,.int .i64 p.d,.int .i64 p.t],.func (.func 57) #[] #[.pointer (some ⟨w1.heap.size+3,0,none⟩),.pointer (some ⟨w1.heap.size+4,0,none⟩)],.int .i64 x,undef],defers:=[] }) ?assign ?body ?done ?stop
 case assign =>
  intro l x W K hK
  gi_wp2
  exact hK
 case body =>
  rintro l2 pre x W ⟨rfl,hT⟩ hlt;have f0:=hT.r0.cell;have g0:=hT.r0.frozen;have f1:=((hT.r1.other (B':=w1.heap.size+1) (by omega) (.int .i64 x))).cell
  have g1:=((hT.r1.other (B':=w1.heap.size+1) (by omega) (.int .i64 x))).frozen
  have fin:Hid (zgc w1 ((W.setCell ⟨w1.heap.size+1,0,none⟩ (.int .i64 x)).setCell ⟨w1.heap.size+1+1,0,none⟩ (.bool true)) (w1.heap.size+1) x true):=hT.store (by omega) x true
  replace hT:=Lib.hid hT
  gi_wp2
  exact⟨(KeepsOthers.setCell _ _ _).trans (KeepsOthers.setCell _ _ _),rfl,x,rfl,fin.out⟩
 case done =>
  rintro D ys W hD rfl ⟨e,hT⟩ hK;have f0:=hT.r0.cell;have g0:=hT.r0.frozen;have f1:=((hT.r1.other (B':=w1.heap.size+1) (by omega) (.int .i64 0))).cell
  have g1:=((hT.r1.other (B':=w1.heap.size+1) (by omega) (.int .i64 0))).frozen
  have hK2:((W.setCell ⟨w1.heap.size+1,0,none⟩ (.int .i64 0)).setCell ⟨w1.heap.size+1+1,0,none⟩ (.bool false)).heap[D]?=some (.deferred (some [])):=by
   have:=sz.out;have:=z5.out;rw[Below.heap_setCell _ _ _ _ (by show D≠w1.heap.size+1+1;omega),Below.heap_setCell _ _ _ _ (by show D≠w1.heap.size+1;omega)]
   exact hK
  have fin:Hid (zgc w1 (((W.setCell ⟨w1.heap.size+1,0,none⟩ (.int .i64 0)).setCell ⟨w1.heap.size+1+1,0,none⟩ (.bool false)).putObj D (.deferred none)) (w1.heap.size+1) 0 false):=(hT.store (by omega) 0 false).put (Nat.le_trans sz.out hD) _ hK2 rfl
  have z0:=fin.out.r0.cell;have z1:=fin.out.r1.cell;replace hT:=Lib.hid hT;replace e:=Lib.hid e
  gi_wp2
  refine⟨by simp,.inl ⟨_,_,rfl,run_takeDeferred hK2,?_⟩⟩
  exact⟨.tuple #[.int .i64 0,.bool false],by simp[results,Tryz.results18,go_sem,z0,z1],by rw[e.out];rfl,fin.out.kp⟩
 case stop =>
  rintro D c pre W hD ⟨t,ht⟩ ⟨rfl,x,rfl,hT⟩ hK;have fin:Hid (zgc w1 (W.putObj D (.deferred none)) (w1.heap.size+1) x true):=hT.put (Nat.le_trans sz.out hD) _ hK rfl;have z0:=fin.out.r0.cell;have z1:=fin.out.r1.cell;replace hT:=Lib.hid hT;have e1:zbq (zbk p M L d) 0=x:=by rw[ht];rfl
  have e2:decide (zbk p M L d=[])=false:=decide_eq_false (by rw[ht];exact List.cons_ne_nil _ _)
  replace ht:=Lib.hid ht;replace e1:=Lib.hid e1;replace e2:=Lib.hid e2
  gi_wp2
  refine⟨by simp,.inl ⟨_,_,rfl,run_takeDeferred hK,?_⟩⟩
  exact⟨.tuple #[.int .i64 x,.bool true],by simp[results,Tryz.results18,go_sem,z0,z1],by rw[e1.out,e2.out];rfl,fin.out.kp⟩
end
end Go.Proofs.YtihjgcibpfajkaaGreatDoor.T17
namespace Go.Proofs.YtihjgcibpfajkaaGreatDoor.T17
open Go.RowKit Go.Sort Go.Lib V12 T13 T14 T15 T16
theorem atL(b off n cp j:Nat)(hj:j<n)(W:World):(Instr.indexAt 24 (.slice (some ⟨b,off,none⟩) n cp) (.int .i64 j)).run Tryz.prog W=.ok (.pointer (some ⟨b,off+j,none⟩)) W:=by
 go_simp
theorem zpl(x:Int)(w:World):Calls Tryz.prog 55 #[.int .i64 x] w fun e w'=>e=.returned (.bool (decide (x≠0)))∧w=w':=by
 by_cases h:x=0
 ·subst h
  go_enter Tryz.func55,Tryz.ntmps55
  go_wp2;go_ret
  exact⟨rfl,rfl⟩
 ·have e:decide (x≠0)=true:=decide_eq_true h
  have h2:(x != 0)=true:=bne_iff_ne.2 h;rw[e];replace h:Hid (x≠0):=h;replace e:=Lib.hid e
  go_enter Tryz.func55,Tryz.ntmps55
  go_wp2;go_ret
  exact⟨rfl,rfl⟩
set_option maxRecDepth 100000 in
set_option maxHeartbeats 4000000 in
theorem zwn{w:World}{A:Option Addr}{n c:Nat}{Z:Nat→Int}(hR:Rd w A n Z):
  Calls Tryz.prog 53 #[.slice A n c,.func (.func 55) #[] #[]] w fun e w'=>∃ r:Int,e=.returned (.int .i64 r)∧Keep w w'∧((r = -1∧∀ t,t<n→Z t=0)∨∃ j,j<n∧r=(j:Int)∧Z j≠0∧∀ t,t<j→Z t=0):=by
 have hn:=hR.small;have eg:=enters_of Tryz.func55 (by kernel_rfl) rfl
 replace hR:=Lib.hid hR
 go_enter Tryz.func53,Tryz.ntmps53
 go_wp2
 go_loopg [5,8] n (fun gx _ s8 wr=>∃ j:Nat,j≤n∧gx=n - j∧s8=.int .i64 j∧Hid (Keep w wr)∧Hid (∀ t,t<j→Z t=0))
 case atStart=>exact⟨0,Nat.zero_le _,rfl,rfl,Keep.refl _,fun t h=>absurd h (Nat.not_lt_zero _)⟩
 case round =>
  obtain⟨j,hj,rfl,rfl,K1,NO⟩:=hrel
  by_cases hlt:j<n
  ·have R2:=hR.out.keep K1.out
   obtain⟨b,off,hA,ca⟩:=R2.adr (by omega)
   subst hA;have q1:=atL b off n c j hlt;have x0:=ca j hlt;clear ca;have hc:=Lib.hid (fun W=>zpl (Z j) W)
   obtain⟨z,hz⟩:∃ z,z=Z j:=⟨_,rfl⟩;rw[← hz] at x0 hc;obtain⟨r,hr⟩:∃ r,r=decide (z≠0):=⟨_,rfl⟩;rw[← hr] at hc;rw[hz] at hr;replace hr:=Lib.hid hr;replace hz:=Lib.hid hz;replace R2:=Lib.hid R2;go_wp2_with fail;refine(hc.out _).mono ?_;rintro e w1 ⟨rfl,rfl⟩;cases r with
   | true =>
     go_wp2;go_ret
     exact⟨j,rfl,K1.out,Or.inr ⟨j,hlt,rfl,of_decide_eq_true hr.out.symm,NO.out⟩⟩
   | false =>
     have NO2:Hid (∀ t,t<j+1→Z t=0):=fun t ht=>by
      by_cases e:t=j
      ·rw[e]
       have h0:=of_decide_eq_false hr.out.symm;omega
      ·exact NO.out t (by omega)
     go_wp2;go_roundg (n - (j+1))
     case measure=>omega
     case rel=>exact⟨j+1,hlt,rfl,by go_num,K1,NO2⟩
  ·obtain rfl:j=n:=by omega
   go_wp2;go_ret
   exact⟨-1,rfl,K1.out,Or.inl ⟨rfl,NO.out⟩⟩
theorem zzc{Z:Nat→Int}{d j:Nat}(hj:j<d)(h:Z j≠0)(no:∀ t,t<j→Z t=0):zlo Z d=some j:=by
 cases e:zlo Z d with
 | none=>exact absurd (zhl.1 e j hj) h
 | some k =>
   obtain⟨_,h2⟩:=zfr e;unfold zlo at e;obtain⟨_,l1,l2,h3,h4⟩:=List.find?_eq_some_iff_append.1 e
   by_cases h5:k<j
   ·exact absurd (no k h5) h2
   ·by_cases h6:k=j
    ·rw[h6]
    ·have hjm:j∈l1:=by
      have e1:l1=List.range k:=by
       have h7:l1.length<d:=by have:=congrArg List.length h3;rw[List.length_range,List.length_append,List.length_cons] at this;omega
       have h8:(List.range d)[l1.length]?=some k:=by rw[h3,List.getElem?_append_right (Nat.le_refl _)];simp
       rw[List.getElem?_range h7] at h8;have h9:l1.length=k:=Option.some.inj h8;have e2:l1=(List.range d).take l1.length:=by rw[h3,List.take_left]
       rw[e2,h9,List.take_range,Nat.min_eq_left (by omega)]
      rw[e1];exact List.mem_range.2 (by omega)
     have:=h4 j hjm;rw[decide_eq_true h] at this;cases this
theorem adz{p:zaa}{nd:Int}{M:List NV}{L:List zaa}{d n:Nat}(h1:zcw p nd M d=true→n=d)(h2:zcw p nd M d=false→n=0):
  ((∀ t,t<n→zeh p nd M L t=0)→zdq p nd M L d=none)∧∀ j,j<n→zeh p nd M L j≠0→(∀ t,t<j→zeh p nd M L t=0)→zdq p nd M L d=some j:=by
 unfold zdq;cases e:zcw p nd M d with
 | false =>
   rw[if_neg (by decide)]
   obtain rfl:=h2 e;exact⟨fun _=>rfl,fun j hj=>absurd hj (Nat.not_lt_zero _)⟩
 | true =>
   rw[if_pos rfl];obtain rfl:=h1 e;exact⟨fun h=>zhl.2 h,fun j hj hz no=>zzc hj hz no⟩
section
variable{CS:zba}{w w1:World}{d q:Nat}{M:List NV}{L:List zaa}{X:Nat→Prop}
set_option maxRecDepth 100000 in
set_option maxHeartbeats 4000000 in
theorem zhz(C:Con CS)(FL:zmi CS)(h:CS w d q M L X w1)(hg:zaw w1)(p:zaa)(hp:zaf w1 p)(nd:Int)(hnd:I64 nd)(hd:d≤64)(hm:p.m≤1000)(hM:M.length≤100)(hl:L.length≤100):
  Calls Tryz.prog 27 #[.pointer (some ⟨q,0,none⟩),p.val,.int .i64 nd] w1 fun e w'=>e=.returned (.tuple #[.int .i64 (zci p nd M L d),.bool (zdq p nd M L d).isSome])∧Keep w1 w':=by
 obtain⟨W,hW,kW,bP⟩:=zdf w1 p;have cS:=Lib.hid (FL.short p nd (C.keep h kW.out) (hg.keep kW.out) (hp.keep kW.out) hnd hd hm hM hl);clear h hg hp;have P0:=zah bP.out;have c0:=P0.e0;have c1:=P0.e1;have c2:=P0.e2;have c3:=P0.e3;have c4:=P0.e4;have c5:=P0.e5;have c6:=P0.e6;have c7:=P0.e7;have c8:=P0.e8;clear P0;rw[hW] at c0 c1 c2 c3 c4 c5 c6 c7 c8;unfold zab at hW c0 c1 c2 c3 c4 c5 c6 c7 c8;unfold zaa.val at cS;unfold zaa.val;obtain⟨ra,hra⟩:∃ r,r=zci p nd M L d:=⟨_,rfl⟩;obtain⟨rb,hrb⟩:∃ r,r=(zdq p nd M L d).isSome:=⟨_,rfl⟩;rw[← hra,← hrb];replace hra:=Lib.hid hra;replace hrb:=Lib.hid hrb;replace hnd:=Lib.hid hnd
 go_enter Tryz.func27,Tryz.ntmps27
 go_wp2_with fail;rw[← hW];refine cS.out.mono ?_;rintro e w2 ⟨v,n,rfl,n1,n2,⟨A,c,rfl,hR⟩,k2⟩;have RS:=adz (L:=L) n1 n2;have cI:=Lib.hid (zwn (c:=c) hR);replace RS:=Lib.hid RS;have K2:Hid (Keep w1 w2):=kW.out.trans k2;clear n1 n2 hR k2 cS c0 c1 c2 c3 c4 c5 c6 c7 c8;replace hW:=Lib.hid hW;go_wp2_with fail;refine cI.out.mono ?_;rintro e w3 ⟨r,rfl,k3,⟨rfl,NO⟩ | ⟨j,hj,rfl,hz,NO⟩⟩
 ·have K3:Hid (Keep w1 w3):=K2.out.trans k3
  have e1:=RS.out.1 NO;obtain rfl:ra=0:=by rw[hra.out];unfold zci;rw[e1];rfl
  obtain rfl:rb=false:=by rw[hrb.out,e1];rfl
  clear NO k3 e1;go_wp2;go_ret2
  exact⟨rfl,K3.out⟩
 ·have K3:Hid (Keep w1 w3):=K2.out.trans k3
  have e1:=RS.out.2 j hj hz NO;obtain rfl:ra=j:=by rw[hra.out];unfold zci;rw[e1];rfl
  obtain rfl:rb=true:=by rw[hrb.out,e1];rfl
  clear NO k3 e1 hz;replace hj:=Lib.hid hj;go_wp2;go_ret2
  exact⟨rfl,K3.out⟩
end
end Go.Proofs.YtihjgcibpfajkaaGreatDoor.T17
namespace Go.Proofs.YtihjgcibpfajkaaGreatDoor.T17
open Go.RowKit Go.Sort Go.Lib V12 T13 T14 T15 T16
theorem Tryz.infoP17:(Tryz.prog.info? 42).map (fun i=>(i.zero,i.size,i.bytes))=some (some (.agg #[.int .i64 0,.int .i64 0]),2,16):=by kernel_rfl
theorem Tryz.undP17:Tryz.prog.underlying 38=some (.slice 42):=by kernel_rfl
def prC(f:Int→Int)(l:List Int):List Value:=l.flatMap fun k=>[.int .i64 k,.int .i64 (f k)]
theorem zvn(f:Int→Int)(l:List Int)(k:Int):prC f (l++[k])=prC f l++[.int .i64 k,.int .i64 (f k)]:=by
 unfold prC;rw[List.flatMap_append];rfl
theorem zqy(f:Int→Int):∀ (l:List Int) (j:Nat),j<l.length→(prC f l)[j * 2]?=some (.int .i64 (zbq l j))∧(prC f l)[j * 2+1]?=some (.int .i64 (f (zbq l j)))
 | [],j,h=>absurd h (Nat.not_lt_zero _)
 | y :: l,0,_=>⟨rfl,rfl⟩
 | y :: l,j+1,h=>by
   have:=zqy f l j (by simpa using h)
   rw[show(j+1) * 2=j * 2+1+1 by omega]
   exact this
theorem adu{w:World}{base c:Nat}{A:Option Addr}{f:Int→Int}{l:List Int}(h:w.ownsRow base 42 2 (.slice A l.length c) l.length (prC f l))(hl:l.length≤100)(hi:∀ k∈l,I64 k)(hf:∀ k∈l,I64 (f k)):RdP w A l.length (zbq l) (fun j=>f (zbq l j)):=by
 refine⟨by omega,fun k hk=>⟨hi _ (zdo hk),hf _ (zdo hk)⟩,fun hp=>?_⟩
 obtain⟨g,cap,e,_,_⟩:=h.form hp;have e':=e;simp only[Value.slice.injEq] at e';obtain⟨rfl,_,rfl⟩:=e';refine⟨g,0,rfl,fun j hj=>?_⟩
 obtain⟨h1,h2⟩:=zqy f l j hj;rw[Nat.zero_add,h.cellAt (j * 2) (by omega),h.cellAt (j * 2+1) (by omega)]
 exact⟨h1,h2⟩
theorem zwh{p:zaa}{nd:Int}{M:List NV}{L:List zaa}{d:Nat}(hd:d≤64):zci p nd M L d≤64:=by
 unfold zci zdq
 split
 ·cases e:zlo (zeh p nd M L) d with
  | none=>exact Nat.zero_le _
  | some j =>
    have:=(zfr e).1;show j≤64
    omega
 ·exact Nat.zero_le _
section
variable{ops:Array Oper}{rest:List Oper}{o:Oper}{a:Act}{w:World}{K:Act→World→Prop}{Q:Exit→Act→World→Prop}{E:Prop}
theorem zxt(hgd:o.guard=none)(s x:Operand)(ho:o.op=.call { callee:=.builtin .append,args:=#[s,x],argTypes:=#[38,38] })
  (base:Nat) (v:Value) (n:Nat) (xs:List Value) (hs:a.eval s=v) (hown:w.ownsRow base 42 2 v n xs) (g:Nat) (i j:Int) (hx:a.eval x=.slice (some ⟨g,0,none⟩) 1 1) (hg:∃ T,w.heap[g]?=some (.cells #[.int .i64 i,.int .i64 j] T (0,0)))
  (hlim:n≤1048576) (hbase:base≤w.heap.size)
  (h:∀ v' w',w'.ownsRow base 42 2 v' (n+1) (xs++[.int .i64 i,.int .i64 j])→w.grownBy w' v.ownBlock→wpList Tryz.prog ops Q rest (a.put o.dst v') w'):wpList Tryz.prog ops Q (o :: rest) a w:=by
 obtain⟨i0,hi0,hz0,hz1,hz2⟩:=info_parts Tryz.infoP17;obtain⟨T,hb⟩:=hg;refine wpList_append_own (P:=Tryz.prog) w hgd s x 38 ho base 42 i0 _ 2 16 Tryz.undP17 hi0 hz0 hz1 hz2 rfl (by decide) v n xs hs hown ⟨g,0,none⟩ 1 1 [.int .i64 i,.int .i64 j] hx rfl (fun k u hu=>?_) (fun u hu=>?_) (by unfold maxLen;omega) (by omega) hbase fun v' w' h2 h3 _=>h v' w' h2 h3
 ·rw[WideShapes.add_plain,Nat.zero_add,cell_of_row w g k _ _ _ hb,List.getElem?_toArray]
  exact hu
 ·simp only[List.mem_cons,List.not_mem_nil,or_false] at hu
  rcases hu with rfl | rfl<;>rfl
end
theorem zzj{Q:Nat→C14.NdC}{f:Int→Bool}{j:Nat}(hf:f (Q j).k=true):(((C14.lst Q (j+1)).map C14.NdC.k).filter f)=((C14.lst Q j).map C14.NdC.k).filter f++[(Q j).k]:=by
 rw[C14.lst_succ,List.map_append,List.filter_append,List.map_singleton,List.filter_cons,if_pos hf,List.filter_nil]
theorem zzl{Q:Nat→C14.NdC}{f:Int→Bool}{j:Nat}(hf:f (Q j).k=false):(((C14.lst Q (j+1)).map C14.NdC.k).filter f)=((C14.lst Q j).map C14.NdC.k).filter f:=by
 rw[C14.lst_succ,List.map_append,List.filter_append,List.map_singleton,List.filter_cons,if_neg (by rw[hf];decide),List.filter_nil,List.append_nil]
theorem zzi{Q:Nat→C14.NdC}{M:List NV}(h:(C14.lst Q M.length).map nv=M)(p:zaa)(L:List zaa)(d:Nat):zfe p M L d=((C14.lst Q M.length).map C14.NdC.k).filter fun k=>(zdq p k M L d).isSome:=by
 have e:nk M=(C14.lst Q M.length).map C14.NdC.k:=by
  conv=>lhs;rw[← h]
  show((C14.lst Q M.length).map nv).map NV.k=_
  rw[List.map_map];rfl
 unfold zfe;rw[e]
theorem zzk{Q:Nat→C14.NdC}{f:Int→Bool}{j:Nat}:(((C14.lst Q j).map C14.NdC.k).filter f).length≤j:=by
 refine Nat.le_trans (List.length_filter_le _ _) ?_;rw[List.length_map,C14.lst_len];exact Nat.le_refl _
section
variable{CS:zba}{w w1:World}{d q:Nat}{M:List NV}{L:List zaa}{X:Nat→Prop}
set_option maxRecDepth 100000 in
set_option maxHeartbeats 8000000 in
theorem zln(C:Con CS)(FL:zmi CS)(h:CS w d q M L X w1)(hg:zaw w1)(p:zaa)(hp:zaf w1 p)(hki0:∀ k∈nk M,I64 k)(hd:d≤64)(hm:p.m≤1000)(hM:M.length≤100)(hl:L.length≤100):
  Calls Tryz.prog 12 #[.pointer (some ⟨q,0,none⟩),p.val] w1 fun e w'=>∃ A c,e=.returned (.slice A (zfe p M L d).length c)∧RdP w' A (zfe p M L d).length (zbq (zfe p M L d)) (fun j=>zci p (zbq (zfe p M L d) j) M L d)∧Keep w1 w':=by
 have hki:=Lib.hid hki0;clear hki0;obtain⟨W,hW,kW,bP⟩:=zdf w1 p;obtain⟨bp,hbp⟩:∃ b,b=w1.heap.size:=⟨_,rfl⟩;rw[← hbp] at bP;have cN:=Lib.hid (C.nodes (C.keep h kW.out) hM);have cR:Hid (∀ Wz (nd:Int),Keep w1 Wz→I64 nd→Calls Tryz.prog 27 #[.pointer (some ⟨q,0,none⟩),p.val,.int .i64 nd] Wz fun e w'=>e=.returned (.tuple #[.int .i64 (zci p nd M L d),.bool (zdq p nd M L d).isSome])∧Keep Wz w'):=fun Wz nd k hnd=>zhz C FL (C.keep h k) (hg.keep k) p (hp.keep k) nd hnd hd hm hM hl
 obtain⟨n,hn⟩:∃ n,n=M.length:=⟨_,rfl⟩;have hn1:n≤100:=by omega
 rw[← hn] at cN;clear h hg hp;unfold zab at hW;unfold zaa.val at cR;unfold zaa.val
 go_enter Tryz.func12,Tryz.ntmps12
 go_wp2_with fail;rw[← hW];try rw[← hbp]
 replace hW:=Lib.hid hW;replace hbp:=Lib.hid hbp;refine cN.out.mono ?_;rintro e wo ⟨A,c,rfl,⟨Q,RQ,EQ,_⟩,k1⟩;have KW:Hid (Keep w1 wo):=kW.out.trans k1;have BP:Hid (wo.heap[bp]?=some (.cells (zab p) 26 (0,0))):=Keep.block k1 bP.out;have EA:Hid (zfe p M L d=((C14.lst Q n).map C14.NdC.k).filter fun k=>(zdq p k M L d).isSome):=by rw[hn];exact zzi EQ p L d
 rw[← hn] at RQ;have R1:Hid (C14.RdN wo A n Q):=RQ.row;clear cN RQ EQ k1 bP kW;replace hn:=Lib.hid hn;go_wp2
 go_loopg [5,13] n (fun gx s5 s13 wr=>∃ (j:Nat) (A2:Option Addr) (d2:Nat) (ks:List Int),j≤n∧gx=n - j∧s13=.int .i64 j∧s5=.slice A2 ks.length d2∧Hid (ks=((C14.lst Q j).map C14.NdC.k).filter fun k=>(zdq p k M L d).isSome)∧Hid (Keep wo wr)∧Hid (wr.ownsRow wo.heap.size 42 2 (.slice A2 ks.length d2) ks.length (prC (fun k=>(zci p k M L d:Int)) ks)))
 case atStart=>exact⟨0,none,0,[],Nat.zero_le _,rfl,rfl,rfl,rfl,Keep.refl _,World.ownsRow_nil _ _ _ _⟩
 case round =>
  obtain⟨j,A2,d2,ks,hj,rfl,rfl,rfl,EK,G,RW⟩:=hrel
  by_cases hlt:j<n
  ·obtain⟨g,off,hA,ca⟩:=(R1.out.keep G.out).adr (by omega)
   have q1:=C14.atN g off n c j hlt;obtain⟨x0,x1⟩:=ca j hlt;have ck:=(R1.out.ok j hlt).k;have hkl:Hid (ks.length≤100):=by
    show _≤_
    rw[EK.out];exact Nat.le_trans zzk (by omega)
   obtain⟨x,hx⟩:∃ x,x=Q j:=⟨_,rfl⟩;rw[← hx] at x0 x1 ck;obtain⟨W1,hW1⟩:∃ W1,W1=wr.alloc (.cells #[.int .i64 x.k,.slice x.A x.n x.c] 55):=⟨_,rfl⟩;obtain⟨bn,hbn⟩:∃ b,b=wr.heap.size:=⟨_,rfl⟩;have kW1:Hid (Keep wr W1):=by rw[hW1];exact Keep.one _ _
   have nb:Hid (W1.heap[bn]?=some (.cells #[.int .i64 x.k,.slice x.A x.n x.c] 55 (0,0))):=by rw[hW1,hbn];exact heap_alloc_new _ _
   have n0:W1.cell? ⟨bn,0,none⟩=some (.int .i64 x.k):=by rw[cell_of_row W1 _ _ _ _ _ nb.out];rfl
   have y0:=zah ((G.out.trans kW1.out).block BP.out);have c0:=y0.e0;have c1:=y0.e1;have c2:=y0.e2;have c3:=y0.e3;have c4:=y0.e4;have c5:=y0.e5;have c6:=y0.e6;have c7:=y0.e7;have c8:=y0.e8;clear y0;have cF:=Lib.hid (cR.out W1 x.k (KW.out.trans (G.out.trans kW1.out)) ck);obtain⟨s,hs⟩:∃ s,s=(zdq p x.k M L d).isSome:=⟨_,rfl⟩;obtain⟨ra,hra⟩:∃ r:Int,r=(zci p x.k M L d:Int):=⟨_,rfl⟩;rw[← hs,← hra] at cF;rw[hx] at hs;replace hs:=Lib.hid hs;replace hra:=Lib.hid hra;rw[hW1] at n0 c0 c1 c2 c3 c4 c5 c6 c7 c8;try rw[hbn] at n0
   replace hx:=Lib.hid hx;subst hA;replace ck:=Lib.hid ck;clear ca;go_wp2_with fail;rw[← hW1];try rw[← hbn]
   refine cF.out.mono ?_;rintro e w3 ⟨rfl,k3⟩;have K3:Hid (Keep wr w3):=kW1.out.trans k3;have G3:Hid (Keep wo w3):=G.out.trans K3.out;have RW3:=Lib.hid (own_keep RW.out K3.out);have m0:=k3.cell (show W1.cell? ⟨bn,0,none⟩=some (.int .i64 x.k) by rw[cell_of_row W1 _ _ _ _ _ nb.out];rfl)
   have hxk:Hid (x.k=(Q j).k):=by show _=_;rw[hx.out]
   have hrk:Hid ((zdq p (Q j).k M L d).isSome=s):=hs.out.symm;replace hW1:=Lib.hid hW1;replace hbn:=Lib.hid hbn;replace k3:=Lib.hid k3;clear n0 c0 c1 c2 c3 c4 c5 c6 c7 c8 q1 x0 x1 cF;cases s with
   | false =>
     have EK2:Hid (ks=((C14.lst Q (j+1)).map C14.NdC.k).filter fun k=>(zdq p k M L d).isSome):=by
      show _=_
      rw[zzl (f:=fun k=>(zdq p k M L d).isSome) hrk.out]
      exact EK.out
     go_wp2;go_roundg (n - (j+1))
     case measure=>omega
     case rel=>exact⟨j+1,A2,d2,ks,hlt,rfl,by go_num,rfl,EK2,G3,RW3⟩
   | true =>
     have EK2:Hid (ks++[x.k]=((C14.lst Q (j+1)).map C14.NdC.k).filter fun k=>(zdq p k M L d).isSome):=by
      show _=_
      rw[zzj (f:=fun k=>(zdq p k M L d).isSome) hrk.out,← EK.out,hxk.out]
     obtain⟨W5,hW5⟩:∃ W5,W5=w3.alloc (.cells #[.int .i64 x.k,.int .i64 ra] 42):=⟨_,rfl⟩;have K5:Hid (Keep w3 W5):=by rw[hW5];exact Keep.one _ _
     have pb:Hid (W5.heap[w3.heap.size]?=some (.cells #[.int .i64 x.k,.int .i64 ra] 42 (0,0))):=by rw[hW5];exact heap_alloc_new _ _
     have RW5:=Lib.hid (own_keep RW3.out K5.out);have z5:Hid (wo.heap.size≤W5.heap.size):=Nat.le_trans G3.out.size K5.out.size;rw[hW5] at pb RW5 z5;have hkl2:=hkl.out;go_wp2_with (at_builtin;refine zxt rfl _ _ rfl wo.heap.size (.slice A2 ks.length d2) ks.length (prC (fun k=>(zci p k M L d:Int)) ks) (by simp[Act.eval]) RW5.out w3.heap.size x.k ra (by simp[Act.eval]) ⟨_,pb.out⟩ (by omega) z5.out ?_;intro v7 w7 hr7 hg7)
     have K7:Hid (Keep wo w7):=C14.keep_grown (G3.out.trans (Keep.one w3 (.cells #[.int .i64 x.k,.int .i64 ra] 42))) hg7 (fun g hg=>(RW5.out.lt g hg).1)
     obtain⟨A7,c7,hv7,_⟩:=own_form hr7;subst hv7;have e7:prC (fun k=>(zci p k M L d:Int)) ks++[.int .i64 x.k,.int .i64 ra]=prC (fun k=>(zci p k M L d:Int)) (ks++[x.k]):=by rw[zvn,hra.out]
     rw[e7] at hr7;have hr7:Hid (w7.ownsRow wo.heap.size 42 2 (.slice A7 (ks++[x.k]).length c7) (ks++[x.k]).length (prC (fun k=>(zci p k M L d:Int)) (ks++[x.k]))):=by rw[List.length_append];exact hr7
     replace hg7:=Lib.hid hg7;replace hW5:=Lib.hid hW5;replace e7:=Lib.hid e7;clear m0;go_wp2;go_roundg (n - (j+1))
     case measure=>omega
     case rel=>exact⟨j+1,A7,c7,ks++[x.k],hlt,rfl,by go_num,by simp,EK2,K7,hr7⟩
  ·obtain rfl:j=n:=by omega
   go_wp2;go_ret
   have e1:ks=zfe p M L d:=by rw[EK.out,EA.out]
   have hr:=RW.out;rw[e1] at hr;rw[e1];exact⟨A2,d2,rfl,adu hr (znx hM) (fun k hk=>hki.out k (List.mem_filter.1 hk).1) (fun k _=>(by have:=zwh (p:=p) (nd:=k) (M:=M) (L:=L) hd;refine⟨?_,?_⟩<;>omega)),KW.out.trans G.out⟩
end
end Go.Proofs.YtihjgcibpfajkaaGreatDoor.T17
