/-
  The landed cluster: AddNode. Condition: errors.errorType holds its own.
  The landed cluster: Node, Pod. No condition.
  The landed cluster: check: the pod to which an event with a node applies, or the first error. No condition.
  The landed store's Apply. No condition.
-/
import Derived.Test.YtinndaolcaehiaaGreatDoorD27
namespace Go.Proofs.YtinndaolcaehiaaGreatDoor.T14
open Go.RowKit Go.Sort Go.Lib V12 T13
section
variable {w w1 w2:World} {d q:Nat} {M:List NV} {L:List PodV} {X Z:Nat→Prop} {qn qp:Nat} {N:List T12.NodeV} {Xn Xp:Nat→Prop}
set_option maxRecDepth 100000 in
set_option maxHeartbeats 4000000 in
theorem cadd_fn (h:CsAt w d q M L X w1 qn qp N Xn Xp) (hg:ErrT w1) (k:Int) (A:Option Addr) (n c:Nat) (Y:Nat→Int) (hv:Rd w1 A n Y) (nilA:A = none→n = 0∧c = 0) (hk:I64 k):Calls Tryz.prog 15 #[.pointer (some ⟨q,0,none⟩),.agg #[.int .i64 k,.slice A n c]] w1 fun e w'=>e = .returned (fltA (adC M d k n Y) (wrI d n Y))∧CSd w d q (adL M d k n Y) L X w'∧SameX X w1 w':=by
  have mixed:Tryz.prog.follows .mixedOrders = true:=by kernel_rfl
  obtain ⟨W,hW⟩:∃ W,W = w1.alloc (.cells #[.int .i64 k,.slice A n c] 48):=⟨_,rfl⟩
  have KW:Hid (Keep w1 W):=by rw [hW];exact Keep.one _ _
  obtain ⟨b,hb⟩:∃ b,b = w1.heap.size:=⟨_,rfl⟩
  have Y0:W.heap[b]? = some (.cells #[.int .i64 k,.slice A n c] 48 (0,0)):=by rw [hW,hb];exact heap_alloc_new _ _
  obtain ⟨y0,y1,yf⟩:=T12.cel2 Y0
  obtain ⟨fv,hfv⟩:∃ fv,fv = fltA (adC M d k n Y) (wrI d n Y):=⟨_,rfl⟩
  have h1:=h.keep KW.out
  have hb1:newB w1 W b:=⟨by omega,lt_of_block Y0⟩
  have cA:Hid (∀ W',Keep W W'→Calls Tryz.prog 36 #[.pointer (some ⟨qn,0,none⟩),.agg #[.int .i64 k,.slice A n c]] W' fun e w'=>e = .returned fv∧(∀ w2,Keep w' w2→CSd w d q (adL M d k n Y) L X w2∧SameX X w1 w2)∧∀ w2,Keep w' w2→w2.cell? ⟨b,0,none⟩ = some (.int .i64 k)∧w2.cell? ⟨b,1,none⟩ = some (.slice A n c)):=fun W' k2=>by
    have h2:=h1.keep k2
    refine (on_add h2.on (hg.keep (KW.out.trans k2)) k A n c Y (hv.keep (KW.out.trans k2)) nilA hk).mono ?_
    rintro e w' ⟨he,o,sx,hs⟩
    obtain ⟨a1,a2⟩:=h2.added k n Y
    have h3:=h2.nodes o sx hs a1 a2 (adL_ok h2.ok)
    have hq:w'.heap[b]? = W.heap[b]?:=(sx b (Or.inl (Or.inr hb1))).trans (Below.block k2 b hb1.2)
    refine ⟨by rw [he,hfv,h2.adc];rfl,fun w2 k3=>⟨((h3.less fun i hi=>Or.inl (Or.inl hi)).cs).keep k3,fun i hi=>?_⟩,fun w2 k3=>⟨k3.cell (cell_same y0 hq),k3.cell (cell_same y1 hq)⟩⟩
    have h4:=h.lt i hi
    have h5:=h3.lt i (Or.inl (Or.inl hi))
    rw [Below.block k3 i h5,sx i (Or.inl (Or.inl (h.sub i hi).1)),Below.block k2 i (Nat.lt_of_lt_of_le h4 KW.out.size),Below.block KW.out i h4]
  have HC:Hid (∀ W',Keep W W'→W'.cell? ⟨q,0,none⟩ = some (.pointer (some ⟨qn,0,none⟩))∧W'.cell? ⟨q,1,none⟩ = some (.pointer (some ⟨qp,0,none⟩))):=fun W' k2=>(h1.keep k2).c2
  rw [← hfv]
  replace hfv:=Lib.hid hfv
  replace h1:=Lib.hid h1
  replace Y0:=Lib.hid Y0
  replace hb1:=Lib.hid hb1
  clear h hg hv nilA hk
  have fs0:∀ W,(Instr.field 73 (.agg #[.pointer (some ⟨qn,0,none⟩),.pointer (some ⟨qp,0,none⟩)]) 0).run Tryz.prog W = .ok (.agg #[.pointer (some ⟨qn,0,none⟩)]) W:=fun _=>by kernel_rfl
  have fs1:∀ W,(Instr.field 73 (.agg #[.pointer (some ⟨qn,0,none⟩),.pointer (some ⟨qp,0,none⟩)]) 1).run Tryz.prog W = .ok (.agg #[.pointer (some ⟨qp,0,none⟩)]) W:=fun _=>by kernel_rfl
  have fn0:∀ W,(Instr.field 68 (.agg #[.pointer (some ⟨qn,0,none⟩)]) 0).run Tryz.prog W = .ok (.pointer (some ⟨qn,0,none⟩)) W:=fun _=>by kernel_rfl
  have fp0:∀ W,(Instr.field 71 (.agg #[.pointer (some ⟨qp,0,none⟩)]) 0).run Tryz.prog W = .ok (.pointer (some ⟨qp,0,none⟩)) W:=fun _=>by kernel_rfl
  go_enter Tryz.func15,Tryz.ntmps15
  go_wp2_with fail
  rw [← hW,← hb]
  replace hW:=Lib.hid hW
  replace hb:=Lib.hid hb
  have HELD:∀ Wz,Keep W Wz→(Wz.cell? ⟨b,0,none⟩ = some (.int .i64 k)∧Wz.cell? ⟨b,1,none⟩ = some (.slice A n c)):=fun Wz KK=>⟨KK.cell y0,KK.cell y1⟩
  refine wp_region_held_drew (S:=fun w'=>w'.cell? ⟨b,0,none⟩ = some (.int .i64 k)∧w'.cell? ⟨b,1,none⟩ = some (.slice A n c)) (by kernel_rfl) ?_ (fun hHeld=>?_)
  · exact HELD _ (by repeat (with_reducible first | exact Keep.refl W | apply Keep.alloc | apply Keep.drew | apply Keep.drewN))
  refine wpAnyH_take (i:=0) (v:=.pointer (some ⟨q,0,none⟩)) rfl (by kernel_rfl) (by kernel_rfl) (by kernel_rfl) (fun _ _ _ h=>h) (Or.inl ⟨by rfl,fun Wz hW=>by obtain ⟨p0,p1⟩:=hW;go_simp⟩) hHeld ?_
  simp only [Act.put,List.getElem_toArray,List.getElem_cons_zero,List.setIfInBounds_toArray,List.set_cons_zero,List.set_cons_succ]
  refine wpAnyH_take (i:=4) (v:=.agg #[.int .i64 k,.slice A n c]) rfl (by kernel_rfl) (by kernel_rfl) (by kernel_rfl) (fun _ _ _ h=>h) (Or.inl ⟨by rfl,fun Wz hW=>by obtain ⟨p0,p1⟩:=hW;go_simp⟩) hHeld ?_
  simp only [Act.put,List.getElem_toArray,List.getElem_cons_succ,List.getElem_cons_zero,List.setIfInBounds_toArray,List.set_cons_zero,List.set_cons_succ]
  refine wpAnyH_ready (rs:=[1]) (by kernel_rfl) (by simp) ?_
  refine AllReadyH.cons rfl (fun K hK=>?_) AllReadyH.nil
  simp only [List.getElem_toArray,List.getElem_cons_succ,List.getElem_cons_zero]
  rw [if_pos (by rfl)]
  go_simp
  refine ((both_fn (HC.out _ (by repeat (with_reducible first | exact Keep.refl W | apply Keep.alloc | apply Keep.drew | apply Keep.drewN))).1 (HC.out _ (by repeat (with_reducible first | exact Keep.refl W | apply Keep.alloc | apply Keep.drew | apply Keep.drewN))).2)).mono ?_
  rintro e w2 ⟨rfl,k2⟩
  have K2:Hid (Keep W w2):=((Keep.refl _).drew:Keep W _).trans k2
  replace k2:=Lib.hid k2
  go_wp2_with fail
  refine hK.out _ _ ?_ (fun hHeld=>?_)
  · exact HELD _ K2.out
  clear hK K
  try simp only [Act.put,List.getElem_toArray,List.getElem_cons_succ,List.getElem_cons_zero,List.setIfInBounds_toArray,List.set_cons_zero,List.set_cons_succ]
  refine wpAnyH_take (i:=2) (v:=.agg #[.pointer (some ⟨qn,0,none⟩)]) rfl (by kernel_rfl) (by kernel_rfl) (by kernel_rfl) (fun _ _ _ h=>h) (Or.inl ⟨by rfl,fun Wz hW=>by obtain ⟨p0,p1⟩:=hW;go_simp⟩) hHeld ?_
  simp only [Act.put,List.getElem_toArray,List.getElem_cons_succ,List.getElem_cons_zero,List.setIfInBounds_toArray,List.set_cons_zero,List.set_cons_succ]
  refine wpAnyH_take (i:=3) (v:=.pointer (some ⟨qn,0,none⟩)) rfl (by kernel_rfl) (by kernel_rfl) (by kernel_rfl) (fun _ _ _ h=>h) (Or.inl ⟨by rfl,fun Wz hW=>by obtain ⟨p0,p1⟩:=hW;go_simp⟩) hHeld ?_
  simp only [Act.put,List.getElem_toArray,List.getElem_cons_succ,List.getElem_cons_zero,List.setIfInBounds_toArray,List.set_cons_zero,List.set_cons_succ]
  refine wpAnyH_ready (rs:=[5]) (by kernel_rfl) (by simp) ?_
  refine AllReadyH.cons rfl (fun K hK=>?_) AllReadyH.nil
  simp only [List.getElem_toArray,List.getElem_cons_succ,List.getElem_cons_zero]
  rw [if_pos (by rfl)]
  go_simp
  refine (cA.out w2 K2.out).mono ?_
  rintro e w3 ⟨rfl,F3,H3⟩
  replace F3:=Lib.hid F3
  replace H3:=Lib.hid H3
  go_wp2_with fail
  refine hK.out _ _ ?_ (fun hHeld=>?_)
  · exact H3.out _ (Keep.refl _)
  clear hK K
  try simp only [Act.put,List.getElem_toArray,List.getElem_cons_succ,List.getElem_cons_zero,List.setIfInBounds_toArray,List.set_cons_zero,List.set_cons_succ]
  refine wpAnyH_take (i:=6) (v:=fv) rfl (by kernel_rfl) (by kernel_rfl) (by kernel_rfl) (fun _ _ _ h=>h) (Or.inl ⟨by rfl,fun Wz hW=>by obtain ⟨p0,p1⟩:=hW;go_simp⟩) hHeld ?_
  simp only [Act.put,List.getElem_toArray,List.getElem_cons_succ,List.getElem_cons_zero,List.setIfInBounds_toArray,List.set_cons_zero,List.set_cons_succ]
  refine wpAnyH_done (by kernel_rfl) ?_ _
  go_wp2
  go_ret
  exact ⟨rfl,F3.out _ (by repeat (with_reducible first | exact Keep.refl _ | apply Keep.drew | apply Keep.drewN))⟩
end
end Go.Proofs.YtinndaolcaehiaaGreatDoor.T14

namespace Go.Proofs.YtinndaolcaehiaaGreatDoor.T14
open Go.RowKit Go.Sort Go.Lib V12 T13
theorem req_off {w w':World} {base b:Nat} {r:PodV} (h:Req w base r) (hb:b < base) (f:∀ k,k≠b→w'.heap[k]? = w.heap[k]?):Req w' base r :=
  own_blocks1 h fun g hg=>f g (by have:=(World.ownsRow.lt h g hg).1;omega)
theorem req_put {w:World} {base b:Nat} {r:PodV} (h:Req w base r) (hb:b < base) (x:PodV):Req (put9 w b x) base r:=req_off h hb fun _ hk=>put9_block x hk
section
variable {w w1 w2:World} {d q:Nat} {M:List NV} {L:List PodV} {X Z:Nat→Prop} {qn qp:Nat} {N:List T12.NodeV} {Xn Xp:Nat→Prop}
set_option maxRecDepth 100000 in
set_option maxHeartbeats 4000000 in
theorem cpod_fn (h:CsAt w d q M L X w1 qn qp N Xn Xp) (id:Int) (hid:I64 id):Calls Tryz.prog 27 #[.pointer (some ⟨q,0,none⟩),.int .i64 id] w1 fun e w'=>∃ r,e = .returned (.tuple #[r.val,.bool (decide (id ∈ keys L))])∧nm r = getL L id∧PodIs w' r∧Req w' w1.heap.size r∧Keep w1 w':=by
  obtain ⟨W,hW⟩:∃ W,W = w1.alloc (.cells (podB zpod) 24):=⟨_,rfl⟩
  have KW:Hid (Keep w1 W):=by rw [hW];exact Keep.one _ _
  obtain ⟨b,hb⟩:∃ b,b = w1.heap.size:=⟨_,rfl⟩
  have Y:Hid (W.heap[b]? = some (.cells (podB zpod) 24 (0,0))):=by show _ = _;rw [hW,hb];exact heap_alloc_new _ _
  have h1:=h.keep KW.out
  have hB:=Lib.hid (both_fn h1.c2.1 h1.c2.2)
  obtain ⟨v,hv⟩:∃ v,v = decide (id ∈ keys L):=⟨_,rfl⟩
  have cG:Hid (∀ W',Keep W W'→Calls Tryz.prog 29 #[.pointer (some ⟨qp,0,none⟩),.int .i64 id] W' fun e w'=>∃ r,e = .returned (.tuple #[r.val,.bool v])∧nm r = getL L id∧PodIs w' r∧Req w' W.heap.size r∧Keep W w'):=fun W' k2=>by
    have h2:=h1.keep k2
    rw [hv]
    exact (con13.get id h2.os hid h2.m1000).mono fun _ _ ⟨r,he,h3,h4,h5,h6⟩=>⟨r,he,h3,h4,own_base' h5 k2.size,k2.trans h6⟩
  have FIN:Hid (∀ w' r,Keep W w'→PodIs w' r→Req w' W.heap.size r→(put9 w' b r).heap[b]? = some (.cells (podB r) 24 (0,0))∧PodIs (put9 w' b r) r∧Req (put9 w' b r) w1.heap.size r∧Keep w1 (put9 w' b r)):=fun w' r k2 hi hr=>by
    have h3:=req_put hr (lt_of_block Y.out) r
    exact ⟨put9_heap _ zpod (k2.block Y.out),h3.is hi.ok,own_base' h3 KW.out.size,put9_keep _ (KW.out.trans k2) (by omega)⟩
  have YC:Hid (∀ w',Keep W w'→w'.heap[b]? = some (.cells (podB zpod) 24 (0,0))):=fun w' k=>k.block Y.out
  rw [← hv]
  replace hv:=Lib.hid hv
  replace h1:=Lib.hid h1
  unfold podB zpod at hW
  clear h
  have fs0:∀ W,(Instr.field 73 (.agg #[.pointer (some ⟨qn,0,none⟩),.pointer (some ⟨qp,0,none⟩)]) 0).run Tryz.prog W = .ok (.agg #[.pointer (some ⟨qn,0,none⟩)]) W:=fun _=>by kernel_rfl
  have fs1:∀ W,(Instr.field 73 (.agg #[.pointer (some ⟨qn,0,none⟩),.pointer (some ⟨qp,0,none⟩)]) 1).run Tryz.prog W = .ok (.agg #[.pointer (some ⟨qp,0,none⟩)]) W:=fun _=>by kernel_rfl
  have fn0:∀ W,(Instr.field 68 (.agg #[.pointer (some ⟨qn,0,none⟩)]) 0).run Tryz.prog W = .ok (.pointer (some ⟨qn,0,none⟩)) W:=fun _=>by kernel_rfl
  have fp0:∀ W,(Instr.field 71 (.agg #[.pointer (some ⟨qp,0,none⟩)]) 0).run Tryz.prog W = .ok (.pointer (some ⟨qp,0,none⟩)) W:=fun _=>by kernel_rfl
  go_enter Tryz.func27,Tryz.ntmps27
  go_wp2_with fail
  rw [← hW,← hb]
  replace hW:=Lib.hid hW
  replace hb:=Lib.hid hb
  refine hB.out.mono ?_
  rintro e w2 ⟨rfl,k2⟩
  replace k2:=Lib.hid k2
  go_wp2_with fail
  refine (cG.out w2 k2.out).mono ?_
  rintro e w3 ⟨r,rfl,hn,hi,hr,k3⟩
  have F:=Lib.hid (FIN.out w3 r k3 hi hr)
  obtain ⟨d0,d1,d2,d3,d4,d5,d6,d7,d8,g0⟩:=blk9 (YC.out w3 k3)
  unfold zpod at d0 d1 d2 d3 d4 d5 d6 d7 d8
  replace hn:=Lib.hid hn
  replace hi:=Lib.hid hi
  replace hr:=Lib.hid hr
  replace k3:=Lib.hid k3
  unfold PodV.val
  go_wp2
  obtain ⟨e0,e1,e2,e3,e4,e5,e6,e7,e8,_⟩:=blk9 F.out.1
  have E:=F.out.2
  unfold put9 at *
  refine bodyPost_ret (v:=.tuple #[.agg #[.int .i64 r.k,.int .i64 r.p,.bool r.f,.int .i64 r.g,.slice r.A r.m r.c,.int .i64 r.a,.int .i64 r.h,.int .i64 r.d,.int .i64 r.t],.bool v]) (by simp [results,Tryz.results27,go_sem,e0,e1,e2,e3,e4,e5,e6,e7,e8]) rfl ⟨r,rfl,hn.out,E.1,E.2.1,E.2.2⟩
end
end Go.Proofs.YtinndaolcaehiaaGreatDoor.T14

namespace Go.Proofs.YtinndaolcaehiaaGreatDoor.T14
open Go.RowKit Go.Sort Go.Lib V12 T13
def ckC (M:List NV) (L:List PodV) (id nd ev:Int):Int:=if id ∉ keys L then 5 else if nd ∉ nk M then 5 else if nx (getL L id).h ev = 0 then 8 else 0
section
variable {w w1 w2:World} {d q:Nat} {M:List NV} {L:List PodV} {X Z:Nat→Prop} {qn qp:Nat} {N:List T12.NodeV} {Xn Xp:Nat→Prop}
set_option maxRecDepth 100000 in
set_option maxHeartbeats 8000000 in
theorem check_fn (h:CsAt w d q M L X w1 qn qp N Xn Xp) (id nd ev:Int) (hid:I64 id):Calls Tryz.prog 40 #[.agg #[.pointer (some ⟨qn,0,none⟩),.pointer (some ⟨qp,0,none⟩)],.int .i64 id,.int .i64 nd,.int .i64 ev] w1 fun e w'=>∃ r,e = .returned (.tuple #[r.val,fltA (ckC M L id nd ev) (plI M L id nd)])∧(ckC M L id nd ev = 0→nm r = getL L id)∧(ckC M L id nd ev≠0→nm r = zpod)∧PodIs w' r∧Req w' w1.heap.size r∧Keep w1 w':=by
  obtain ⟨W0,hW0⟩:∃ W0,W0 = w1.alloc (.cells #[.pointer (some ⟨qn,0,none⟩),.pointer (some ⟨qp,0,none⟩)] 73):=⟨_,rfl⟩
  obtain ⟨W,hW⟩:∃ W,W = W0.alloc (.cells (podB zpod) 24):=⟨_,rfl⟩
  obtain ⟨bx,hbx⟩:∃ bx,bx = w1.heap.size:=⟨_,rfl⟩
  obtain ⟨b,hb⟩:∃ b,b = w1.heap.size + 1:=⟨_,rfl⟩
  have s0:W0.heap.size = b:=by rw [hW0,World.size_alloc,hb]
  have KW:Hid (Keep w1 W):=by rw [hW,hW0];exact (Keep.one _ _:Keep w1 _).alloc _
  have BX:Hid (W.heap[bx]? = some (.cells #[.pointer (some ⟨qn,0,none⟩),.pointer (some ⟨qp,0,none⟩)] 73 (0,0))):=by show _ = _;rw [hW,hW0,hbx];exact (Keep.one _ _).block (heap_alloc_new _ _)
  have Y:Hid (W.heap[b]? = some (.cells (podB zpod) 24 (0,0))):=by show _ = _;rw [hW,← s0];exact heap_alloc_new _ _
  have h1:=h.keep KW.out
  have cG:Hid (Calls Tryz.prog 29 #[.pointer (some ⟨qp,0,none⟩),.int .i64 id] W fun e w'=>∃ r,e = .returned (.tuple #[r.val,.bool (decide (id ∈ keys L))])∧nm r = getL L id∧PodIs w' r∧Req w' W.heap.size r∧Keep W w'):=con13.get id h1.os hid h1.m1000
  have cN:Hid (∀ W',Keep W W'→Calls Tryz.prog 71 #[.pointer (some ⟨qn,0,none⟩),.int .i64 nd] W' fun e w'=>∃ k A n c,e = .returned (.tuple #[.agg #[.int .i64 k,.slice A n c],.bool (decide (nd ∈ nk M))])∧Keep W w'∧Keep W' w'):=fun W' k2=>by
    have h2:=h1.keep k2
    by_cases hk:nd ∈ nk M
    · rw [decide_eq_true hk]
      refine (on_get_in h2.on nd (by rw [h2.keys];exact hk)).mono ?_
      rintro e w' ⟨A,c,he,r,k3⟩
      exact ⟨nd,A,d,c,he,k2.trans k3,k3⟩
    · rw [decide_eq_false hk]
      refine (on_get_out h2.on nd (by rw [h2.keys];exact hk)).mono ?_
      rintro e w' ⟨he,k3⟩
      exact ⟨0,none,0,0,he,k2.trans k3,k3⟩
  have cE:Hid (∀ c n W,Calls Tryz.prog 30 #[.int .i64 c,.int .i64 n] W fun e w'=>e = .returned (.iface 102 (.agg #[.int .i64 c,.int .i64 n]))∧W = w'):=fun c n W=>new_fn c n W
  have cFin:Hid (∀ W',Keep W W'→(put9 W' b zpod).heap[b]? = some (.cells (podB zpod) 24 (0,0))∧Keep w1 (put9 W' b zpod)):=fun W' k2=>⟨put9_heap _ zpod (k2.block Y.out),put9_keep _ (KW.out.trans k2) (by omega)⟩
  have FIN:Hid (∀ w' r,Keep W w'→PodIs w' r→Req w' W.heap.size r→(put9 w' b r).heap[b]? = some (.cells (podB r) 24 (0,0))∧PodIs (put9 w' b r) r∧Req (put9 w' b r) w1.heap.size r∧Keep w1 (put9 w' b r)):=fun w' r k2 hi hr=>by
    have h3:=req_put hr (lt_of_block Y.out) r
    exact ⟨put9_heap _ zpod (k2.block Y.out),h3.is hi.ok,own_base' h3 KW.out.size,put9_keep _ (KW.out.trans k2) (by omega)⟩
  have YC:Hid (∀ w',Keep W w'→w'.heap[b]? = some (.cells (podB zpod) 24 (0,0))):=fun w' k=>k.block Y.out
  obtain ⟨cx0,cx1,_⟩:=T12.cel2 BX.out
  have hbW:b < W.heap.size:=lt_of_block Y.out
  unfold podB zpod at hW
  clear h
  replace h1:=Lib.hid h1
  have cx0':=Lib.hid cx0
  by_cases hk:id ∉ keys L
  · have hc:ckC M L id nd ev = 5:=by
      unfold ckC
      rw [if_pos hk]
    have hi1:plI M L id nd = 0:=if_neg fun hh=>hk hh.1
    rw [hc,hi1]
    replace hc:=Lib.hid hc
    replace hi1:=Lib.hid hi1
    unfold fltA
    rw [if_neg (by decide)]
    unfold flt Base.val
    rw [decide_eq_false hk] at cG
    replace hk:=Lib.hid hk
    go_enter Tryz.func40,Tryz.ntmps40
    go_wp2_with fail
    rw [← hW0,← hW]
    try rw [← hb]
    try rw [← hbx]
    replace hW0:=Lib.hid hW0
    replace hW:=Lib.hid hW
    replace hb:=Lib.hid hb
    replace hbx:=Lib.hid hbx
    replace s0:=Lib.hid s0
    replace hbW:=Lib.hid hbW
    refine cG.out.mono ?_
    rintro e w2 ⟨r,rfl,hn,hi,hr,k2⟩
    obtain ⟨W2,hW2⟩:∃ W2,W2 = w2.alloc (.cells (podB r) 24):=⟨_,rfl⟩
    have K2:Hid (Keep W W2):=by rw [hW2];exact k2.alloc _
    have KA:Hid (Keep w2 W2):=by rw [hW2];exact Keep.one _ _
    have YP:Hid (W2.heap[w2.heap.size]? = some (.cells (podB r) 24 (0,0))):=by show _ = _;rw [hW2];exact heap_alloc_new _ _
    have HI:=Lib.hid (hi.keep KA.out)
    have HR:Hid (Req W2 W.heap.size r):=own_keep hr KA.out
    have x0:=K2.out.cell cx0'.out
    obtain ⟨d0,d1,d2,d3,d4,d5,d6,d7,d8,g0⟩:=blk9 (YC.out W2 K2.out)
    unfold zpod at d0 d1 d2 d3 d4 d5 d6 d7 d8
    unfold podB at hW2
    rw [hW2] at x0 d0 d1 d2 d3 d4 d5 d6 d7 d8 g0
    replace hn:=Lib.hid hn
    replace hi:=Lib.hid hi
    replace hr:=Lib.hid hr
    replace k2:=Lib.hid k2
    clear cx0 cx1
    unfold PodV.val
    go_wp2_with fail
    rw [← hW2] at *
    refine (cE.out 5 0 _).mono ?_
    rintro e w8 ⟨rfl,rfl⟩
    go_wp2
    obtain ⟨z,kz⟩:=cFin.out W2 K2.out
    obtain ⟨e0,e1,e2,e3,e4,e5,e6,e7,e8,_⟩:=blk9 z
    unfold put9 zpod at *
    refine bodyPost_ret (v:=.tuple #[.agg #[.int .i64 0,.int .i64 0,.bool false,.int .i64 0,.slice none 0 0,.int .i64 0,.int .i64 0,.int .i64 0,.int .i64 0],.iface 102 (.agg #[.int .i64 5,.int .i64 0])]) (by simp [results,Tryz.results40,go_sem,e0,e1,e2,e3,e4,e5,e6,e7,e8]) rfl ⟨zpod,rfl,fun h=>absurd h (by decide),fun _=>rfl,zpod_is _,zpod_req _ _,kz⟩
  replace hk:=Classical.not_not.1 hk
  by_cases hn0:nd ∉ nk M
  · have hc:ckC M L id nd ev = 5:=by
      unfold ckC
      rw [if_neg (not_not_intro hk),if_pos hn0]
    have hi1:plI M L id nd = 1:=if_pos ⟨hk,hn0⟩
    rw [hc,hi1]
    replace hc:=Lib.hid hc
    replace hi1:=Lib.hid hi1
    unfold fltA
    rw [if_neg (by decide)]
    unfold flt Base.val
    rw [decide_eq_true hk] at cG
    rw [decide_eq_false hn0] at cN
    replace hk:=Lib.hid hk
    replace hn0:=Lib.hid hn0
    go_enter Tryz.func40,Tryz.ntmps40
    go_wp2_with fail
    rw [← hW0,← hW]
    try rw [← hb]
    try rw [← hbx]
    replace hW0:=Lib.hid hW0
    replace hW:=Lib.hid hW
    replace hb:=Lib.hid hb
    replace hbx:=Lib.hid hbx
    replace s0:=Lib.hid s0
    replace hbW:=Lib.hid hbW
    refine cG.out.mono ?_
    rintro e w2 ⟨r,rfl,hn,hi,hr,k2⟩
    obtain ⟨W2,hW2⟩:∃ W2,W2 = w2.alloc (.cells (podB r) 24):=⟨_,rfl⟩
    have K2:Hid (Keep W W2):=by rw [hW2];exact k2.alloc _
    have KA:Hid (Keep w2 W2):=by rw [hW2];exact Keep.one _ _
    have YP:Hid (W2.heap[w2.heap.size]? = some (.cells (podB r) 24 (0,0))):=by show _ = _;rw [hW2];exact heap_alloc_new _ _
    have HI:=Lib.hid (hi.keep KA.out)
    have HR:Hid (Req W2 W.heap.size r):=own_keep hr KA.out
    have x0:=K2.out.cell cx0'.out
    obtain ⟨d0,d1,d2,d3,d4,d5,d6,d7,d8,g0⟩:=blk9 (YC.out W2 K2.out)
    unfold zpod at d0 d1 d2 d3 d4 d5 d6 d7 d8
    unfold podB at hW2
    rw [hW2] at x0 d0 d1 d2 d3 d4 d5 d6 d7 d8 g0
    replace hn:=Lib.hid hn
    replace hi:=Lib.hid hi
    replace hr:=Lib.hid hr
    replace k2:=Lib.hid k2
    clear cx0 cx1
    unfold PodV.val
    go_wp2_with fail
    rw [← hW2] at *
    refine (cN.out W2 K2.out).mono ?_
    rintro e w3 ⟨nk3,nA3,nn3,nc3,rfl,k3,k23⟩
    obtain ⟨W3,hW3⟩:∃ W3,W3 = w3.alloc (.cells #[.int .i64 nk3,.slice nA3 nn3 nc3] 48):=⟨_,rfl⟩
    have K3:Hid (Keep W W3):=by rw [hW3];exact k3.alloc _
    have K23:Hid (Keep W2 W3):=by rw [hW3];exact k23.alloc _
    clear d0 d1 d2 d3 d4 d5 d6 d7 d8 g0 x0
    obtain ⟨d0,d1,d2,d3,d4,d5,d6,d7,d8,g0⟩:=blk9 (YC.out W3 K3.out)
    unfold zpod at d0 d1 d2 d3 d4 d5 d6 d7 d8
    have x6:=(blk9 (K23.out.block YP.out)).e6
    rw [hW3] at x6 d0 d1 d2 d3 d4 d5 d6 d7 d8 g0
    replace k3:=Lib.hid k3
    replace k23:=Lib.hid k23
    go_wp2_with fail
    rw [← hW3] at *
    refine (cE.out 5 1 _).mono ?_
    rintro e w8 ⟨rfl,rfl⟩
    go_wp2
    obtain ⟨z,kz⟩:=cFin.out W3 K3.out
    obtain ⟨e0,e1,e2,e3,e4,e5,e6,e7,e8,_⟩:=blk9 z
    unfold put9 zpod at *
    refine bodyPost_ret (v:=.tuple #[.agg #[.int .i64 0,.int .i64 0,.bool false,.int .i64 0,.slice none 0 0,.int .i64 0,.int .i64 0,.int .i64 0,.int .i64 0],.iface 102 (.agg #[.int .i64 5,.int .i64 1])]) (by simp [results,Tryz.results40,go_sem,e0,e1,e2,e3,e4,e5,e6,e7,e8]) rfl ⟨zpod,rfl,fun h=>absurd h (by decide),fun _=>rfl,zpod_is _,zpod_req _ _,kz⟩
  replace hn0:=Classical.not_not.1 hn0
  by_cases hx:nx (getL L id).h ev = 0
  · have hc:ckC M L id nd ev = 8:=by
      unfold ckC
      rw [if_neg (not_not_intro hk),if_neg (not_not_intro hn0),if_pos hx]
    have hi1:plI M L id nd = 0:=if_neg fun hh=>hh.2 hn0
    rw [hc,hi1]
    replace hc:=Lib.hid hc
    replace hi1:=Lib.hid hi1
    unfold fltA
    rw [if_neg (by decide)]
    unfold flt Base.val
    rw [decide_eq_true hk] at cG
    rw [decide_eq_true hn0] at cN
    replace hk:=Lib.hid hk
    replace hn0:=Lib.hid hn0
    have cX:Hid (∀ (r:PodV) W',nm r = getL L id→Calls Tryz.prog 57 #[.int .i64 r.h,.int .i64 ev] W' fun e w'=>e = .returned (.tuple #[.int .i64 0,.bool false])∧Keep W' w'):=fun r W' hn=>by
      have e:nx r.h ev = 0:=by rw [← hx,← hn];rfl
      have:=pdnext_fn r.h ev W'
      rw [e] at this
      exact this
    replace hx:=Lib.hid hx
    go_enter Tryz.func40,Tryz.ntmps40
    go_wp2_with fail
    rw [← hW0,← hW]
    try rw [← hb]
    try rw [← hbx]
    replace hW0:=Lib.hid hW0
    replace hW:=Lib.hid hW
    replace hb:=Lib.hid hb
    replace hbx:=Lib.hid hbx
    replace s0:=Lib.hid s0
    replace hbW:=Lib.hid hbW
    refine cG.out.mono ?_
    rintro e w2 ⟨r,rfl,hn,hi,hr,k2⟩
    obtain ⟨W2,hW2⟩:∃ W2,W2 = w2.alloc (.cells (podB r) 24):=⟨_,rfl⟩
    have K2:Hid (Keep W W2):=by rw [hW2];exact k2.alloc _
    have KA:Hid (Keep w2 W2):=by rw [hW2];exact Keep.one _ _
    have YP:Hid (W2.heap[w2.heap.size]? = some (.cells (podB r) 24 (0,0))):=by show _ = _;rw [hW2];exact heap_alloc_new _ _
    have HI:=Lib.hid (hi.keep KA.out)
    have HR:Hid (Req W2 W.heap.size r):=own_keep hr KA.out
    have x0:=K2.out.cell cx0'.out
    obtain ⟨d0,d1,d2,d3,d4,d5,d6,d7,d8,g0⟩:=blk9 (YC.out W2 K2.out)
    unfold zpod at d0 d1 d2 d3 d4 d5 d6 d7 d8
    unfold podB at hW2
    rw [hW2] at x0 d0 d1 d2 d3 d4 d5 d6 d7 d8 g0
    replace hn:=Lib.hid hn
    replace hi:=Lib.hid hi
    replace hr:=Lib.hid hr
    replace k2:=Lib.hid k2
    clear cx0 cx1
    unfold PodV.val
    go_wp2_with fail
    rw [← hW2] at *
    refine (cN.out W2 K2.out).mono ?_
    rintro e w3 ⟨nk3,nA3,nn3,nc3,rfl,k3,k23⟩
    obtain ⟨W3,hW3⟩:∃ W3,W3 = w3.alloc (.cells #[.int .i64 nk3,.slice nA3 nn3 nc3] 48):=⟨_,rfl⟩
    have K3:Hid (Keep W W3):=by rw [hW3];exact k3.alloc _
    have K23:Hid (Keep W2 W3):=by rw [hW3];exact k23.alloc _
    clear d0 d1 d2 d3 d4 d5 d6 d7 d8 g0 x0
    obtain ⟨d0,d1,d2,d3,d4,d5,d6,d7,d8,g0⟩:=blk9 (YC.out W3 K3.out)
    unfold zpod at d0 d1 d2 d3 d4 d5 d6 d7 d8
    have x6:=(blk9 (K23.out.block YP.out)).e6
    rw [hW3] at x6 d0 d1 d2 d3 d4 d5 d6 d7 d8 g0
    replace k3:=Lib.hid k3
    replace k23:=Lib.hid k23
    go_wp2_with fail
    rw [← hW3] at *
    refine (cX.out r W3 hn.out).mono ?_
    rintro e w4 ⟨rfl,k4⟩
    have K4:Hid (Keep W w4):=K3.out.trans k4
    replace k4:=Lib.hid k4
    clear d0 d1 d2 d3 d4 d5 d6 d7 d8 g0 x6
    obtain ⟨d0,d1,d2,d3,d4,d5,d6,d7,d8,g0⟩:=blk9 (YC.out w4 K4.out)
    unfold zpod at d0 d1 d2 d3 d4 d5 d6 d7 d8
    go_wp2_with fail
    refine (cE.out 8 0 _).mono ?_
    rintro e w8 ⟨rfl,rfl⟩
    go_wp2
    obtain ⟨z,kz⟩:=cFin.out w4 K4.out
    obtain ⟨e0,e1,e2,e3,e4,e5,e6,e7,e8,_⟩:=blk9 z
    unfold put9 zpod at *
    refine bodyPost_ret (v:=.tuple #[.agg #[.int .i64 0,.int .i64 0,.bool false,.int .i64 0,.slice none 0 0,.int .i64 0,.int .i64 0,.int .i64 0,.int .i64 0],.iface 102 (.agg #[.int .i64 8,.int .i64 0])]) (by simp [results,Tryz.results40,go_sem,e0,e1,e2,e3,e4,e5,e6,e7,e8]) rfl ⟨zpod,rfl,fun h=>absurd h (by decide),fun _=>rfl,zpod_is _,zpod_req _ _,kz⟩
  · have hc:ckC M L id nd ev = 0:=by
      unfold ckC
      rw [if_neg (not_not_intro hk),if_neg (not_not_intro hn0),if_neg hx]
    have hi1:plI M L id nd = 0:=if_neg fun hh=>hh.2 hn0
    rw [hc,hi1]
    replace hc:=Lib.hid hc
    replace hi1:=Lib.hid hi1
    unfold fltA
    rw [if_pos rfl]
    rw [decide_eq_true hk] at cG
    rw [decide_eq_true hn0] at cN
    replace hk:=Lib.hid hk
    replace hn0:=Lib.hid hn0
    have cX:Hid (∀ (r:PodV) W',nm r = getL L id→Calls Tryz.prog 57 #[.int .i64 r.h,.int .i64 ev] W' fun e w'=>∃ z,e = .returned (.tuple #[.int .i64 z,.bool true])∧Keep W' w'):=fun r W' hn=>by
      have e:¬ nx r.h ev = 0:=by
        have e2:r.h = (getL L id).h:=by rw [← hn];rfl
        rw [e2]
        exact hx
      have:=pdnext_fn r.h ev W'
      rw [decide_eq_true e] at this
      exact this.mono fun _ _ h=>⟨_,h⟩
    replace hx:=Lib.hid hx
    go_enter Tryz.func40,Tryz.ntmps40
    go_wp2_with fail
    rw [← hW0,← hW]
    try rw [← hb]
    try rw [← hbx]
    replace hW0:=Lib.hid hW0
    replace hW:=Lib.hid hW
    replace hb:=Lib.hid hb
    replace hbx:=Lib.hid hbx
    replace s0:=Lib.hid s0
    replace hbW:=Lib.hid hbW
    refine cG.out.mono ?_
    rintro e w2 ⟨r,rfl,hn,hi,hr,k2⟩
    obtain ⟨W2,hW2⟩:∃ W2,W2 = w2.alloc (.cells (podB r) 24):=⟨_,rfl⟩
    have K2:Hid (Keep W W2):=by rw [hW2];exact k2.alloc _
    have KA:Hid (Keep w2 W2):=by rw [hW2];exact Keep.one _ _
    have YP:Hid (W2.heap[w2.heap.size]? = some (.cells (podB r) 24 (0,0))):=by show _ = _;rw [hW2];exact heap_alloc_new _ _
    have HI:=Lib.hid (hi.keep KA.out)
    have HR:Hid (Req W2 W.heap.size r):=own_keep hr KA.out
    have x0:=K2.out.cell cx0'.out
    obtain ⟨d0,d1,d2,d3,d4,d5,d6,d7,d8,g0⟩:=blk9 (YC.out W2 K2.out)
    unfold zpod at d0 d1 d2 d3 d4 d5 d6 d7 d8
    unfold podB at hW2
    rw [hW2] at x0 d0 d1 d2 d3 d4 d5 d6 d7 d8 g0
    replace hn:=Lib.hid hn
    replace hi:=Lib.hid hi
    replace hr:=Lib.hid hr
    replace k2:=Lib.hid k2
    clear cx0 cx1
    unfold PodV.val
    go_wp2_with fail
    rw [← hW2] at *
    refine (cN.out W2 K2.out).mono ?_
    rintro e w3 ⟨nk3,nA3,nn3,nc3,rfl,k3,k23⟩
    obtain ⟨W3,hW3⟩:∃ W3,W3 = w3.alloc (.cells #[.int .i64 nk3,.slice nA3 nn3 nc3] 48):=⟨_,rfl⟩
    have K3:Hid (Keep W W3):=by rw [hW3];exact k3.alloc _
    have K23:Hid (Keep W2 W3):=by rw [hW3];exact k23.alloc _
    clear d0 d1 d2 d3 d4 d5 d6 d7 d8 g0 x0
    obtain ⟨d0,d1,d2,d3,d4,d5,d6,d7,d8,g0⟩:=blk9 (YC.out W3 K3.out)
    unfold zpod at d0 d1 d2 d3 d4 d5 d6 d7 d8
    have x6:=(blk9 (K23.out.block YP.out)).e6
    rw [hW3] at x6 d0 d1 d2 d3 d4 d5 d6 d7 d8 g0
    replace k3:=Lib.hid k3
    replace k23:=Lib.hid k23
    go_wp2_with fail
    rw [← hW3] at *
    refine (cX.out r W3 hn.out).mono ?_
    rintro e w4 ⟨z,rfl,k4⟩
    have K4:Hid (Keep W w4):=K3.out.trans k4
    have K24:Hid (Keep W2 w4):=K23.out.trans k4
    replace k4:=Lib.hid k4
    clear d0 d1 d2 d3 d4 d5 d6 d7 d8 g0 x6
    obtain ⟨d0,d1,d2,d3,d4,d5,d6,d7,d8,g0⟩:=blk9 (YC.out w4 K4.out)
    unfold zpod at d0 d1 d2 d3 d4 d5 d6 d7 d8
    obtain ⟨x0,x1,x2,x3,x4,x5,x6,x7,x8,xg⟩:=blk9 (K24.out.block YP.out)
    go_wp2
    obtain ⟨zb,zi,zr,kz⟩:=FIN.out w4 r K4.out (HI.out.keep K24.out) (own_keep HR.out K24.out)
    obtain ⟨e0,e1,e2,e3,e4,e5,e6,e7,e8,_⟩:=blk9 zb
    unfold put9 at *
    refine bodyPost_ret (v:=.tuple #[.agg #[.int .i64 r.k,.int .i64 r.p,.bool r.f,.int .i64 r.g,.slice r.A r.m r.c,.int .i64 r.a,.int .i64 r.h,.int .i64 r.d,.int .i64 r.t],.nilIface]) (by simp [results,Tryz.results40,go_sem,e0,e1,e2,e3,e4,e5,e6,e7,e8]) rfl ⟨r,rfl,fun _=>hn.out,fun h=>absurd rfl h,zi,zr,kz⟩
end
end Go.Proofs.YtinndaolcaehiaaGreatDoor.T14

namespace Go.Proofs.YtinndaolcaehiaaGreatDoor.T13
open Go.RowKit Go.Sort Go.Lib V12
def ownB (r:PodV) (i:Nat):Prop:=(Value.slice r.A r.m r.c).ownBlock = some i
theorem apply0:∀ {w s q L X w1} (id e nd dl:Int),OSd w s q L X w1→I64 id→I64 e→I64 nd→I64 dl→(∀ y ∈ L,y.m≤1000)→L.length≤1000 →
    Calls Tryz.prog 31 #[.pointer (some ⟨q,0,none⟩),.int .i64 id,.int .i64 e,.int .i64 nd,.int .i64 dl] w1 fun e' w'=>∃ r,e' = .returned (.tuple #[r.val,fltC (appC L id e)])∧(appC L id e = 0→nm r = appP (getL L id) e nd dl)∧(appC L id e≠0→nm r = zpod)∧PodIs w' r∧Req w' w1.heap.size r∧OSd w s q (appL L id e nd dl) (fun i=>X i∨ownB r i) w'∧∀ i,X i→w'.heap[i]? = w1.heap[i]?:=by
  rintro w s q L X w1 id e nd dl ⟨t,m,A,c,P,h,hL,k0,hX⟩ hid he hnd hdl hm hl
  have hk:=keys_of hL
  by_cases h1:id ∈ keys L
  · obtain ⟨j,hj,rfl⟩:=key_at (by rw [← hk];exact h1)
    have eg:(getL L (P j).k).h = (P j).h:=by
      rw [← hL,← get_nm,h.get hj]
      rfl
    by_cases h2:nx (P j).h e = 0
    · have e8:appC L (P j).k e = 8:=by unfold appC;rw [if_neg (not_not_intro h1),eg,if_pos h2]
      refine (pdapply_bad h hj e nd dl h2).mono ?_
      rintro e' w' ⟨rfl,k⟩
      rw [e8]
      refine ⟨zpod,rfl,fun h=>absurd h (by decide),fun _=>rfl,zpod_is _,zpod_req _ _,?_,fun i hi=>Below.block k i (hX i hi).1⟩
      unfold appL
      rw [e8,if_neg (by decide)]
      refine OSd.more ⟨t,m,A,c,P,h,hL,k0,hX⟩ k ?_
      intro i h0
      exact absurd h0 (by simp [ownB,zpod,Value.ownBlock])
    · have e0:appC L (P j).k e = 0:=by unfold appC;rw [if_neg (not_not_intro h1),eg,if_neg h2]
      have ea:=lst_app h hj (nd:=nd) (dl:=dl) h2
      rw [hL] at ea
      refine (pdapply_in h hj e nd dl hnd hdl h2 (m_of hL hm j hj)).mono ?_
      rintro e' w' ⟨B,d,rfl,R,ok,S,f⟩
      rw [e0]
      refine ⟨(appP (P j) e nd dl).at B d,rfl,fun _=>?_,fun h=>absurd rfl h,R.is ok,R,?_,fun i hi=>f.block i (hX i hi).1 fun h3=>(hX i hi).2 (Or.inr (Or.inr (Or.inr (Or.inl h3))))⟩
      · rw [← hL,← get_nm,h.get hj]
        rfl
      · have hFE:∀ i,FE q t m A c L.length (put P j (appP (P j) e nd dl)) i→FE q t m A c L.length P i:=by
          rintro i (h3 | h3 | h3 | h3 | ⟨i2,hi2,h3⟩)
          · exact Or.inl h3
          · exact Or.inr (Or.inl h3)
          · exact Or.inr (Or.inr (Or.inl h3))
          · exact Or.inr (Or.inr (Or.inr (Or.inl h3)))
          · refine Or.inr (Or.inr (Or.inr (Or.inr ⟨i2,hi2,?_⟩)))
            by_cases e3:i2 = j
            · rw [e3,put_at] at h3
              rw [e3]
              exact h3
            · rw [put_ne _ _ _ e3] at h3
              exact h3
        refine ⟨t,m,A,c,put P j (appP (P j) e nd dl),by rw [appL_len];exact S,by rw [appL_len];exact ea.1,Fr.low k0 f fun i hi=>(h.lt i (Or.inr (Or.inr (Or.inr (Or.inl hi))))).1,?_⟩
        rw [appL_len]
        rintro i (hi | hi)
        · exact ⟨Nat.lt_of_lt_of_le (hX i hi).1 f.size,fun hf=>(hX i hi).2 (hFE i hf)⟩
        · have h3:=R.lt i hi
          exact ⟨h3.2,fun hf=>by have:=(h.lt i (hFE i hf)).2;omega⟩
  · have e5:appC L id e = 5:=if_pos h1
    refine (pdapply_out h (by rw [← hk];exact h1) e nd dl).mono ?_
    rintro e' w' ⟨rfl,k⟩
    rw [e5]
    refine ⟨zpod,rfl,fun h=>absurd h (by decide),fun _=>rfl,zpod_is _,zpod_req _ _,?_,fun i hi=>Below.block k i (hX i hi).1⟩
    unfold appL
    rw [e5,if_neg (by decide)]
    refine OSd.more ⟨t,m,A,c,P,h,hL,k0,hX⟩ k ?_
    intro i h0
    exact absurd h0 (by simp [ownB,zpod,Value.ownBlock])
end Go.Proofs.YtinndaolcaehiaaGreatDoor.T13

