/-
  The landed cluster: the usages behind Bind, Claim, Change; a pod as the result. No walk.
  The landed cluster: Claim. Condition: errors.errorType holds its own.
-/
import Derived.Test.YtclfbplbccehkaaGreatDoorD36
namespace Go.Proofs.YtclfbplbccehkaaGreatDoor.T14
open Go.RowKit Go.Sort Go.Lib V12 T13
section
variable {w w1 wc w5:World} {d q:Nat} {M:List NV} {L:List PodV} {X Z:Nat→Prop} {qn qp:Nat} {N:List T12.NodeV} {Xn Xp:Nat→Prop}
theorem plC_ck (id nd e:Int):plC M L d id nd e = if ckC M L id nd e = 0 then (if e = 1∧fitU M L d id nd = false then 10 else 0) else ckC M L id nd e:=by
  unfold plC ckC
  by_cases h1:id ∉ keys L
  · rw [if_pos h1,if_pos h1,if_neg (by decide)]
  · rw [if_neg h1,if_neg h1]
    by_cases h2:nd ∉ nk M
    · rw [if_pos h2,if_pos h2,if_neg (by decide)]
    · rw [if_neg h2,if_neg h2]
      by_cases h3:nx (getL L id).h e = 0
      · rw [if_pos h3,if_pos h3,if_neg (by decide)]
      · rw [if_neg h3,if_neg h3,if_pos rfl]
theorem ck_zero {id nd e:Int} (h:ckC M L id nd e = 0):id ∈ keys L∧nd ∈ nk M∧nx (getL L id).h e≠0:=by
  unfold ckC at h
  by_cases h1:id ∉ keys L
  · rw [if_pos h1] at h
    exact absurd h (by decide)
  · rw [if_neg h1] at h
    by_cases h2:nd ∉ nk M
    · rw [if_pos h2] at h
      exact absurd h (by decide)
    · rw [if_neg h2] at h
      by_cases h3:nx (getL L id).h e = 0
      · rw [if_pos h3] at h
        exact absurd h (by decide)
      · exact ⟨Classical.not_not.1 h1,Classical.not_not.1 h2,h3⟩
theorem CsAt.reqs (h:CsAt w d q M L X w1 qn qp N Xn Xp) {id:Int} (hk:id ∈ T13.keys L):(getL L id).m = d∧∀ j,j < d→Amt ((getL L id).Z j):=h.ok.req _ (get_some hk).1
theorem CsAt.fits (h:CsAt w d q M L X w1 qn qp N Xn Xp) {id nd:Int} (hk:id ∈ T13.keys L) (hn:nd ∈ nk M):T12.chC N d nd d (getL L id).Z false = if fitU M L d id nd = false then 10 else 0:=by
  obtain ⟨g1,g2,g3⟩:=h.nget hn
  have hr:=h.reqs hk
  unfold T12.chC
  rw [if_neg (not_not_intro (by rw [h.keys];exact hn)),if_neg (amts_ok hr.2)]
  have e:T12.chOk d (G.get T12.NodeV.k T12.zn N nd) false (getL L id).Z = fitU M L d id nd:=by
    have e0:G.get T12.NodeV.k T12.zn N nd = T12.nget N nd:=rfl
    rw [e0]
    unfold T12.chOk fitU
    rw [Bool.eq_iff_iff,List.all_eq_true,List.all_eq_true]
    have ee:∀ j,j < d→T12.chU false (T12.nget N nd).U (getL L id).Z j = usedL L nd j + (getL L id).Z j∧0≤usedL L nd j + (getL L id).Z j∧(T14.nget M nd).C j = (T12.nget N nd).C j:=fun j hj=>by
      have u:=h.use _ g1 j hj
      rw [g2] at u
      have a:=hr.2 j hj
      have l:=usedL_lo (id:=nd) (h.ok.amtL hj)
      unfold Amt at a
      refine ⟨?_,by omega,by rw [g3];rfl⟩
      unfold T12.chU
      rw [if_neg (by decide),u]
    constructor
    · intro hh j hj
      have hj2:=List.mem_range.1 hj
      have h1:=hh j hj
      obtain ⟨e1,e2,e3⟩:=ee j hj2
      rw [e1,← e3] at h1
      simp only [Bool.and_eq_true,decide_eq_true_eq] at h1
      exact decide_eq_true h1.2
    · intro hh j hj
      have hj2:=List.mem_range.1 hj
      have h1:=of_decide_eq_true (hh j hj)
      obtain ⟨e1,e2,e3⟩:=ee j hj2
      rw [e1,← e3]
      simp only [Bool.and_eq_true,decide_eq_true_eq]
      exact ⟨e2,h1⟩
  rw [e]
  by_cases hf:fitU M L d id nd = false
  · rw [if_pos hf,hf]
    rfl
  · rw [if_neg hf,if_pos (by simpa using hf)]
theorem CsAt.held (h:CsAt w d q M L X w1 qn qp N Xn Xp) {id nd:Int} (h0:plC M L d id nd 1 = 0):(T12.chL N d nd d (getL L id).Z false).map nvn = M∧∀ x ∈ T12.chL N d nd d (getL L id).Z false,∀ j,j < d→x.U j = usedL (plL M L d id nd 1) x.k j:=by
  obtain ⟨hk,hn,_,hf⟩:=plC_zero h0
  obtain ⟨g1,g2,g3⟩:=h.nget hn
  have hc:=h.fits hk hn
  rw [if_neg (by rw [hf rfl];decide)] at hc
  unfold T12.chL
  rw [if_pos hc]
  have e0:G.get T12.NodeV.k T12.zn N nd = T12.nget N nd:=rfl
  rw [e0]
  obtain ⟨x,hx⟩:∃ x,x = T12.nget N nd:=⟨_,rfl⟩
  rw [← hx] at g1 g2 ⊢
  subst g2
  refine ⟨(nds_rep h.on.srt g1).trans h.nds,use_rep (fun y hy hne j hj=>?_) fun j hj=>?_⟩
  · rw [plL_used h.ok.lok (Or.inl rfl) h0,if_neg (fun hh=>hne hh.2.symm),h.use y hy j hj]
    omega
  · rw [plL_used h.ok.lok (Or.inl rfl) h0,if_pos ⟨rfl,rfl⟩,← h.use x g1 j hj]
    rfl
theorem CsAt.freed (h:CsAt w d q M L X w1 qn qp N Xn Xp) {id dl:Int} (h0:cgC L id 5 = 0) (hh:(getL L id).h = 3∨(getL L id).h = 4):T12.chC N d (getL L id).d d (getL L id).Z true = 0∧(T12.chL N d (getL L id).d d (getL L id).Z true).map nvn = M∧∀ x ∈ T12.chL N d (getL L id).d d (getL L id).Z true,∀ j,j < d→x.U j = usedL (cgL L id 5 dl) x.k j:=by
  obtain ⟨h1,h2,hk⟩:=cgC_zero h0
  obtain ⟨nd,hnd⟩:∃ nd,nd = (getL L id).d:=⟨_,rfl⟩
  have hn:nd ∈ nk M:=by rw [hnd];exact h.ok.plc _ (get_some hk).1 (by omega) (by omega)
  rw [← hnd]
  obtain ⟨g1,g2,g3⟩:=h.nget hn
  have hr:=h.reqs hk
  have hz:∀ i j,heldZ i j (getL L id) = if nd = i then (getL L id).Z j else 0:=fun i j=>by rw [heldZ_on hh,← hnd]
  have hu:∀ i j,usedL (cgL L id 5 dl) i j = usedL L i j - if nd = i then (getL L id).Z j else 0:=fun i j=>by rw [cgL_used h.ok.lok h0,if_pos rfl,hz]
  have hok:=cgL_ok (h.ok) (id:=id) (e:=5) (dl:=dl)
  have hc:T12.chC N d nd d (getL L id).Z true = 0:=by
    unfold T12.chC
    rw [if_neg (not_not_intro (by rw [h.keys];exact hn)),if_neg (amts_ok hr.2),if_pos]
    have e0:G.get T12.NodeV.k T12.zn N nd = T12.nget N nd:=rfl
    rw [e0]
    unfold T12.chOk
    rw [List.all_eq_true]
    intro j hj
    have hj2:=List.mem_range.1 hj
    have u:=h.use _ g1 j hj2
    rw [g2] at u
    have a:=hr.2 j hj2
    unfold Amt at a
    have l:=usedL_lo (id:=nd) (hok.amtL hj2)
    rw [hu,if_pos rfl] at l
    have f:=h.ok.fit _ (getM hn).1 j hj2
    rw [(getM hn).2,g3] at f
    have f2:usedL L nd j≤(T12.nget N nd).C j:=f
    unfold T12.chU
    rw [if_pos rfl,u]
    simp only [Bool.and_eq_true,decide_eq_true_eq]
    omega
  refine ⟨hc,?_⟩
  unfold T12.chL
  rw [if_pos hc]
  have e0:G.get T12.NodeV.k T12.zn N nd = T12.nget N nd:=rfl
  rw [e0]
  obtain ⟨x,hx⟩:∃ x,x = T12.nget N nd:=⟨_,rfl⟩
  rw [← hx] at g1 g2 ⊢
  replace hnd:=Lib.hid hnd
  subst g2
  refine ⟨(nds_rep h.on.srt g1).trans h.nds,use_rep (fun y hy hne j hj=>?_) fun j hj=>?_⟩
  · rw [hu,if_neg (fun hh=>hne hh.symm),h.use y hy j hj]
    omega
  · rw [hu,if_pos rfl,← h.use x g1 j hj]
    rfl
theorem pod_fin {L2:List PodV} {b base:Nat} {r:PodV} (KW:Keep w1 wc) (hb:newB w1 wc b) (hw:w.heap.size≤w1.heap.size) (Yb:wc.heap[b]? = some (.cells (podB zpod) 26 (0,0))) (cs:CSd w d q M L2 (fun i=>X i∨newB w1 wc i) w5) (sx:SameX (fun i=>X i∨newB w1 wc i) wc w5) (hX:∀ i,X i→i < w1.heap.size) (hi:PodIs w5 r) (hr:Req w5 base r) (h1:wc.heap.size≤base) :
    w5.heap[b]? = some (.cells (podB zpod) 26 (0,0))∧(put9 w5 b r).heap[b]? = some (.cells (podB r) 26 (0,0))∧PodIs (put9 w5 b r) r∧Req (put9 w5 b r) w1.heap.size r∧CSd w d q M L2 X (put9 w5 b r)∧SameX X w1 (put9 w5 b r):=by
  have Y5:=(sx b (Or.inr hb)).trans Yb
  have hr2:=req_put hr (b:=b) (Nat.lt_of_lt_of_le hb.2 h1) r
  refine ⟨Y5,put9_heap _ zpod Y5,hr2.is hi.ok,own_base' hr2 (Nat.le_trans KW.size h1),(cs.put (Or.inr hb) (Nat.le_trans hw hb.1) r).less fun _ h=>Or.inl h,fun i h=>?_⟩
  have h2:=hX i h
  have h3:=hb.1
  rw [put9_block r (by omega),sx i (Or.inl h),Below.block KW i h2]
theorem zpod_fin {b:Nat} (cs:CSd w d q M L X w1) (KW:Keep w1 w5) (hb:w1.heap.size≤b) (Yb:w5.heap[b]? = some (.cells (podB zpod) 26 (0,0))):(put9 w5 b zpod).heap[b]? = some (.cells (podB zpod) 26 (0,0))∧CSd w d q M L X (put9 w5 b zpod)∧SameX X w1 (put9 w5 b zpod) :=
  have k:=put9_keep zpod KW hb
  ⟨put9_heap _ zpod Yb,cs.keep k,fun i hi=>Below.block k i (cs.lt i hi)⟩
end
end Go.Proofs.YtclfbplbccehkaaGreatDoor.T14

namespace Go.Proofs.YtclfbplbccehkaaGreatDoor.T14
open Go.RowKit Go.Sort Go.Lib V12 T13
section
variable {w w1 w2:World} {d q:Nat} {M:List NV} {L:List PodV} {X Z:Nat→Prop} {qn qp:Nat} {N:List T12.NodeV} {Xn Xp:Nat→Prop}
set_option maxRecDepth 100000 in
set_option maxHeartbeats 8000000 in
theorem cclaim_fn (h:CsAt w d q M L X w1 qn qp N Xn Xp) (id nd:Int) (hid:I64 id) (hnd:I64 nd) (hl:L.length≤100):Calls Tryz.prog 62 #[.pointer (some ⟨q,0,none⟩),.int .i64 id,.int .i64 nd] w1 fun e w'=>∃ r,e = .returned (.tuple #[r.val,fltA (plC M L d id nd 2) (plI M L id nd)])∧(plC M L d id nd 2 = 0→nm r = appP (getL L id) 2 nd (-1))∧(plC M L d id nd 2≠0→nm r = zpod)∧PodIs w' r∧Req w' w1.heap.size r∧CSd w d q M (plL M L d id nd 2) X w'∧SameX X w1 w':=by
  have hw0:=h.kp.size
  have hX:=h.lt
  obtain ⟨W,hW⟩:∃ W,W = w1.alloc (.cells (podB zpod) 26):=⟨_,rfl⟩
  have KW:Hid (Keep w1 W):=by rw [hW];exact Keep.one _ _
  obtain ⟨b,hb⟩:∃ b,b = w1.heap.size:=⟨_,rfl⟩
  have Y:Hid (W.heap[b]? = some (.cells (podB zpod) 26 (0,0))):=by show _ = _;rw [hW,hb];exact heap_alloc_new _ _
  have hbW:b < W.heap.size:=lt_of_block Y.out
  have cB:Hid (Calls Tryz.prog 47 #[.pointer (some ⟨q,0,none⟩)] W fun e w'=>e = .returned (.agg #[.pointer (some ⟨qn,0,none⟩),.pointer (some ⟨qp,0,none⟩)])∧Keep W w'):=both_fn (h.keep KW.out).c2.1 (h.keep KW.out).c2.2
  have YC:Hid (∀ w',Keep W w'→w'.heap[b]? = some (.cells (podB zpod) 26 (0,0))):=fun w' k=>k.block Y.out
  have ZF:Hid (∀ w',Keep W w'→(put9 w' b zpod).heap[b]? = some (.cells (podB zpod) 26 (0,0))∧CSd w d q M L X (put9 w' b zpod)∧SameX X w1 (put9 w' b zpod)):=fun w' k=>zpod_fin h.cs (KW.out.trans k) (by omega) (k.block Y.out)
  unfold podB zpod at hW
  have cC:Hid (∀ W',Keep W W'→Calls Tryz.prog 49 #[(.agg #[.pointer (some ⟨qn,0,none⟩),.pointer (some ⟨qp,0,none⟩)]),.int .i64 id,.int .i64 nd,.int .i64 2] W' fun e w'=>∃ r,e = .returned (.tuple #[r.val,fltA (ckC M L id nd 2) (plI M L id nd)])∧(ckC M L id nd 2 = 0→nm r = getL L id)∧PodIs w' r∧Req w' W'.heap.size r∧Keep W' w'):=fun W' k=>(check_fn (h.keep (KW.out.trans k)) id nd 2 hid).mono fun _ _ ⟨r,he,h1,_,h3,h4,h5⟩=>⟨r,he,h1,h3,h4,h5⟩
  obtain ⟨cc,hcc⟩:∃ cc,cc = ckC M L id nd 2:=⟨_,rfl⟩
  obtain ⟨ci,hci⟩:∃ ci,ci = plI M L id nd:=⟨_,rfl⟩
  rw [← hcc,← hci] at cC
  have hpc:=plC_ck (M:=M) (L:=L) (d:=d) id nd 2
  rw [← hcc] at hpc
  rw [← hci]
  by_cases hz:cc = 0
  · obtain ⟨hk,hnk,hx⟩:=ck_zero (hcc.symm.trans hz)
    have hzr:=h.reqs hk
    rw [if_pos hz] at hpc
    have e1:fltA cc ci = .nilIface:=if_pos hz
    rw [e1] at cC
    have h100:=h.m1000
    rw [if_neg fun hh=>absurd hh.1 (by decide)] at hpc
    have happ:appC L id 2 = 0:=plC_app hpc
    have hL2:plL M L d id nd 2 = appL L id 2 nd (-1):=if_pos hpc
    have hok:Ok d M (plL M L d id nd 2):=plL_ok h.ok (Or.inr rfl)
    have hci0:ci = 0:=by rw [hci];exact if_neg fun hh=>hh.2 hnk
    have huse:∀ x ∈ N,∀ j,j < d→x.U j = usedL (plL M L d id nd 2) x.k j:=fun x hx j hj=>by
      rw [plL_used h.ok.lok (Or.inr rfl) hpc,if_neg (fun hh=>absurd hh.1 (by decide)),h.use x hx j hj]
      omega
    have cA:Hid (∀ W',Keep W W'→W.heap.size < W'.heap.size→Calls Tryz.prog 51 #[.pointer (some ⟨qp,0,none⟩),.int .i64 id,.int .i64 2,.int .i64 nd,.int .i64 (-1)] W' fun e w5=>∃ r5,e = .returned (.tuple #[r5.val,.nilIface])∧nm r5 = appP (getL L id) 2 nd (-1)∧(w5.heap[b]? = some (.cells (podB zpod) 26 (0,0))∧(put9 w5 b r5).heap[b]? = some (.cells (podB r5) 26 (0,0))∧PodIs (put9 w5 b r5) r5∧Req (put9 w5 b r5) w1.heap.size r5∧CSd w d q M (plL M L d id nd 2) X (put9 w5 b r5)∧SameX X w1 (put9 w5 b r5))):=fun W' k hs=>by
      have kk:=KW.out.trans k
      have h2:=h.keep kk
      have hsz:w1.heap.size < W'.heap.size:=by have:=KW.out.size;omega
      refine (h2.m.apply (last_new _ hsz) id 2 nd (-1) hid (by unfold I64;omega) hnd (by unfold I64;omega) h100 (by omega)).mono ?_
      rintro e w5 ⟨r5,he,h3,_,h5,h6,⟨Yn,h7,_⟩,h8,h9,_⟩
      rw [← hL2] at h7
      refine ⟨r5,by rw [he];unfold T13.fltC;rw [if_pos happ],h3 happ,pod_fin kk ⟨by omega,by omega⟩ hw0 (k.block Y.out) (h7.at h.nds huse hok).cs h8 hX h5 h6 (Nat.le_refl _)⟩
    rw [hpc,hci0]
    have e2:fltA 0 0 = .nilIface:=rfl
    rw [e2]
    replace hpc:=Lib.hid hpc
    replace hL2:=Lib.hid hL2
    replace hcc:=Lib.hid hcc
    replace hci:=Lib.hid hci
    replace hz:=Lib.hid hz
    replace hx:=Lib.hid hx
    replace hnk:=Lib.hid hnk
    replace hk:=Lib.hid hk
    clear e1 e2 h happ huse hok hzr h100 hci0
    go_enter Tryz.func62,Tryz.ntmps62
    go_wp2_with fail
    rw [← hW]
    try rw [← hb]
    replace hW:=Lib.hid hW
    replace hb:=Lib.hid hb
    replace hbW:=Lib.hid hbW
    replace hX:=Lib.hid hX
    replace hw0:=Lib.hid hw0
    refine cB.out.mono ?_
    rintro e w2 ⟨rfl,k2⟩
    obtain ⟨W2,hW2⟩:∃ W2,W2 = w2.alloc (.cells #[.pointer (some ⟨qn,0,none⟩),.pointer (some ⟨qp,0,none⟩)] 96):=⟨_,rfl⟩
    obtain ⟨b8,hb8⟩:∃ b8,b8 = w2.heap.size:=⟨_,rfl⟩
    have K2:Hid (Keep W W2):=by rw [hW2];exact k2.alloc _
    have B8:Hid (W2.heap[b8]? = some (.cells #[.pointer (some ⟨qn,0,none⟩),.pointer (some ⟨qp,0,none⟩)] 96 (0,0))):=by show _ = _;rw [hW2,hb8];exact heap_alloc_new _ _
    obtain ⟨t0,t1,_⟩:=T12.cel2 B8.out
    rw [hW2,hb8] at t0 t1
    replace k2:=Lib.hid k2
    go_wp2_with fail
    rw [← hW2]
    try rw [← hb8]
    replace hW2:=Lib.hid hW2
    replace hb8:=Lib.hid hb8
    clear t0 t1
    refine (cC.out W2 K2.out).mono ?_
    rintro e w3 ⟨r,rfl,hn,hi,hr,k3⟩
    obtain ⟨W3,hW3⟩:∃ W3,W3 = w3.alloc (.cells (podB r) 26):=⟨_,rfl⟩
    obtain ⟨b9,hb9⟩:∃ b9,b9 = w3.heap.size:=⟨_,rfl⟩
    have K23:Hid (Keep W2 W3):=by rw [hW3];exact k3.alloc _
    have KA:Hid (Keep w3 W3):=by rw [hW3];exact Keep.one _ _
    have K3:Hid (Keep W W3):=K2.out.trans K23.out
    have B9:Hid (W3.heap[b9]? = some (.cells (podB r) 26 (0,0))):=by show _ = _;rw [hW3,hb9];exact heap_alloc_new _ _
    have HI:=Lib.hid (hi.keep KA.out)
    have u4:=(blk9 B9.out).e4
    obtain ⟨t0,t1,_⟩:=T12.cel2 (K23.out.block B8.out)
    obtain ⟨d0,d1,d2,d3,d4,d5,d6,d7,d8,g0⟩:=blk9 (YC.out W3 K3.out)
    unfold zpod at d0 d1 d2 d3 d4 d5 d6 d7 d8
    unfold podB at hW3
    rw [hW3,hb9] at u4
    rw [hW3] at t0 t1 d0 d1 d2 d3 d4 d5 d6 d7 d8 g0
    replace hn:=Lib.hid hn
    replace hi:=Lib.hid hi
    replace hr:=Lib.hid hr
    replace k3:=Lib.hid k3
    unfold PodV.val
    go_wp2_with fail
    rw [← hW3]
    refine (cA.out W3 K3.out (Nat.lt_of_lt_of_le (lt_of_block B9.out |> fun _=>by have:=lt_of_block B8.out;have:=k2.out.size;have:=hb8.out;omega) K23.out.size)).mono ?_
    rintro e w5 ⟨r5,rfl,hn5,F5⟩
    replace hn5:=Lib.hid hn5
    replace F5:=Lib.hid F5
    clear d0 d1 d2 d3 d4 d5 d6 d7 d8 g0 t0 t1 u4
    obtain ⟨d0,d1,d2,d3,d4,d5,d6,d7,d8,g0⟩:=blk9 F5.out.1
    unfold zpod at d0 d1 d2 d3 d4 d5 d6 d7 d8
    unfold PodV.val
    go_wp2
    obtain ⟨_,fb,fi,fr,fc,fx⟩:=F5.out
    obtain ⟨e0,e1,e2,e3,e4,e5,e6,e7,e8,_⟩:=blk9 fb
    unfold put9 at *
    refine bodyPost_ret (v:=.tuple #[.agg #[.int .i64 r5.k,.int .i64 r5.p,.bool r5.f,.int .i64 r5.g,.slice r5.A r5.m r5.c,.int .i64 r5.a,.int .i64 r5.h,.int .i64 r5.d,.int .i64 r5.t],.nilIface]) (by simp [results,Tryz.results62,go_sem,e0,e1,e2,e3,e4,e5,e6,e7,e8]) rfl ⟨r5,rfl,fun _=>hn5.out,fun h=>absurd rfl h,fi,fr,fc,fx⟩
  · have hne:Hid (cc≠0):=hz
    rw [if_neg hz] at hpc
    rw [hpc]
    have hL2:plL M L d id nd 2 = L:=by
      unfold plL
      rw [if_neg (by rw [hpc];exact hz)]
    rw [hL2]
    have e1:fltA cc ci = .iface 145 (.agg #[.int .i64 cc,.int .i64 ci]):=if_neg hz
    rw [e1] at cC ⊢
    replace hpc:=Lib.hid hpc
    replace hL2:=Lib.hid hL2
    replace hcc:=Lib.hid hcc
    replace hci:=Lib.hid hci
    replace hz:=Lib.hid hz
    clear e1 h
    go_enter Tryz.func62,Tryz.ntmps62
    go_wp2_with fail
    rw [← hW]
    try rw [← hb]
    replace hW:=Lib.hid hW
    replace hb:=Lib.hid hb
    replace hbW:=Lib.hid hbW
    replace hX:=Lib.hid hX
    replace hw0:=Lib.hid hw0
    refine cB.out.mono ?_
    rintro e w2 ⟨rfl,k2⟩
    obtain ⟨W2,hW2⟩:∃ W2,W2 = w2.alloc (.cells #[.pointer (some ⟨qn,0,none⟩),.pointer (some ⟨qp,0,none⟩)] 96):=⟨_,rfl⟩
    obtain ⟨b8,hb8⟩:∃ b8,b8 = w2.heap.size:=⟨_,rfl⟩
    have K2:Hid (Keep W W2):=by rw [hW2];exact k2.alloc _
    have B8:Hid (W2.heap[b8]? = some (.cells #[.pointer (some ⟨qn,0,none⟩),.pointer (some ⟨qp,0,none⟩)] 96 (0,0))):=by show _ = _;rw [hW2,hb8];exact heap_alloc_new _ _
    obtain ⟨t0,t1,_⟩:=T12.cel2 B8.out
    rw [hW2,hb8] at t0 t1
    replace k2:=Lib.hid k2
    go_wp2_with fail
    rw [← hW2]
    try rw [← hb8]
    replace hW2:=Lib.hid hW2
    replace hb8:=Lib.hid hb8
    clear t0 t1
    refine (cC.out W2 K2.out).mono ?_
    rintro e w3 ⟨r,rfl,hn,hi,hr,k3⟩
    obtain ⟨W3,hW3⟩:∃ W3,W3 = w3.alloc (.cells (podB r) 26):=⟨_,rfl⟩
    obtain ⟨b9,hb9⟩:∃ b9,b9 = w3.heap.size:=⟨_,rfl⟩
    have K23:Hid (Keep W2 W3):=by rw [hW3];exact k3.alloc _
    have KA:Hid (Keep w3 W3):=by rw [hW3];exact Keep.one _ _
    have K3:Hid (Keep W W3):=K2.out.trans K23.out
    have B9:Hid (W3.heap[b9]? = some (.cells (podB r) 26 (0,0))):=by show _ = _;rw [hW3,hb9];exact heap_alloc_new _ _
    have HI:=Lib.hid (hi.keep KA.out)
    have u4:=(blk9 B9.out).e4
    obtain ⟨t0,t1,_⟩:=T12.cel2 (K23.out.block B8.out)
    obtain ⟨d0,d1,d2,d3,d4,d5,d6,d7,d8,g0⟩:=blk9 (YC.out W3 K3.out)
    unfold zpod at d0 d1 d2 d3 d4 d5 d6 d7 d8
    unfold podB at hW3
    rw [hW3,hb9] at u4
    rw [hW3] at t0 t1 d0 d1 d2 d3 d4 d5 d6 d7 d8 g0
    replace hn:=Lib.hid hn
    replace hi:=Lib.hid hi
    replace hr:=Lib.hid hr
    replace k3:=Lib.hid k3
    unfold PodV.val
    go_wp2
    rw [← hW3]
    obtain ⟨z,cs,sx⟩:=ZF.out W3 K3.out
    obtain ⟨e0,e1,e2,e3,e4,e5,e6,e7,e8,_⟩:=blk9 z
    unfold put9 zpod at *
    refine bodyPost_ret (v:=.tuple #[.agg #[.int .i64 0,.int .i64 0,.bool false,.int .i64 0,.slice none 0 0,.int .i64 0,.int .i64 0,.int .i64 0,.int .i64 0],.iface 145 (.agg #[.int .i64 (cc),.int .i64 (ci)])]) (by simp [results,Tryz.results62,go_sem,e0,e1,e2,e3,e4,e5,e6,e7,e8]) rfl ⟨zpod,rfl,fun h=>absurd h (hne.out),fun _=>rfl,zpod_is _,zpod_req _ _,cs,sx⟩
end
end Go.Proofs.YtclfbplbccehkaaGreatDoor.T14

