/-
  The walk of NodeOthers. Conditions: errors.errorType holds its own; the slice takes at most 0x7ffffffff000 bytes.
-/
import Derived.Test.YtokopegffeablaaGreatDoorAppO12
namespace Go.Proofs.YtokopegffeablaaGreatDoor.T12
open Go.RowKit Go.Sort Go.Lib V12

set_option maxRecDepth 100000 in
set_option maxHeartbeats 4000000 in
theorem others_walk {SI : World → Nat → Int → Nat → (Nat → Prop) → List NodeV → Prop} (C : Con SI) (cE : EqC) (A : Option Addr) (n c : Nat) (P : Nat → OpV) (o : OpV) (w : World) (hR : RdO w A n P) (hA : A = none → n = 0 ∧ c = 0) (hc : n ≤ c) (hb : n * 40 ≤ 140737488351232) (ho : OpIs w o) (hg : ErrT w) : Calls Tryz.prog 4 #[.slice A n c, o.val] w fun e w' => e = .returned (.bool true) ∧ Keep w w' := by
  have mixed : Tryz.prog.follows .mixedOrders = true := by kernel_rfl
  have hs := hR.small
  obtain ⟨fb, hfb⟩ := few_or (putO P n o) (n + 1)
  have cF : Hid (∀ W A' c', RdO W A' (n + 1) (putO P n o) → Calls Tryz.prog 7 #[.slice A' (n + 1 : Nat) c'] W fun e w' => e = .returned (.bool fb) ∧ W = w') := fun W A' c' r => few_fn A' (n + 1) c' _ W r fb hfb
  replace hfb := Lib.hid hfb
  obtain ⟨W0, hW0⟩ : ∃ W, W = w.alloc (.cells #[.int .i64 o.kd, .int .i64 o.id, .slice o.A o.n o.c] 32) := ⟨_, rfl⟩
  have K0 : Hid (Keep w W0) := by rw [hW0]; exact Keep.one _ _
  have O0 : Hid (W0.heap[w.heap.size]? = some (.cells #[.int .i64 o.kd, .int .i64 o.id, .slice o.A o.n o.c] 32 (0, 0))) := by rw [hW0]; exact heap_alloc_new _ _
  have aw : Hid (∀ W, Keep W0 W → Calls Tryz.prog 6 #[] W fun e w' => e = .returned (.bool true) ∧ Keep W w') := fun W k => awake_true C cE W (hg.keep (K0.out.trans k))
  have cN : Hid (Calls Tryz.prog 5 #[.int .i64 2, .int .i64 5] W0 fun e w' => ∃ q, e = .returned (.pointer (some ⟨q, 0, none⟩)) ∧ Own SI W0 2 5 q [] w') := own_new C 2 5 W0 (Keep.refl W0) (by omega) (by omega) (by omega)
  replace hg := Lib.hid hg
  replace hR := Lib.hid hR
  replace ho := Lib.hid ho
  replace hA := Lib.hid hA
  unfold OpV.val
  go_enter Tryz.func4, Tryz.ntmps4
  go_wp2_with fail
  rw [← hW0]
  replace hW0 := Lib.hid hW0
  refine cN.out.mono ?_
  rintro e w1 ⟨q, rfl, o1⟩
  have K1 := Lib.hid o1.kp
  have B1 := Lib.hid (o1.kp.block O0.out)
  replace o1 := Lib.hid o1
  clear cN
  obtain ⟨ob, hob⟩ : ∃ ob, ob = w.heap.size := ⟨_, rfl⟩
  rw [← hob] at B1 O0 ⊢
  replace hob := Lib.hid hob
  have b0 : w1.cell? ⟨ob, 0, none⟩ = some (.int .i64 o.kd) := by rw [cell_of_row w1 _ _ _ _ _ B1.out]; rfl
  have b1 : w1.cell? ⟨ob, 1, none⟩ = some (.int .i64 o.id) := by rw [cell_of_row w1 _ _ _ _ _ B1.out]; rfl
  have b2 : w1.cell? ⟨ob, 2, none⟩ = some (.slice o.A o.n o.c) := by rw [cell_of_row w1 _ _ _ _ _ B1.out]; rfl
  go_upto_region 2 with fail
  go_cut [33] from 10 to 33 (fun s wx => ∃ bb : Bool, s = .bool bb ∧ Hid (Keep w1 wx) ∧ Hid (bb = false → n ≤ 59 ∧ (∀ j, j < n → (P j).n ≤ 20) ∧ o.n ≤ 20 ∧ ¬ o.kd < 2))
  case first =>
    have i0 : (0 : Int) ≤ (n : Int) := by omega
    have i1 : (n : Int) ≤ (c : Int) := by omega
    cases fb with
    | false =>
      have HELD : ∀ Wz, Keep w1 Wz → (Wz.cell? ⟨ob, 0, none⟩ = some (.int .i64 o.kd) ∧ Wz.cell? ⟨ob, 1, none⟩ = some (.int .i64 o.id) ∧ Wz.cell? ⟨ob, 2, none⟩ = some (.slice o.A o.n o.c)) := fun Wz KK => ⟨KK.cell b0, KK.cell b1, KK.cell b2⟩
      refine wp_region_held_drew (S := fun w' => w'.cell? ⟨ob, 0, none⟩ = some (.int .i64 o.kd) ∧ w'.cell? ⟨ob, 1, none⟩ = some (.int .i64 o.id) ∧ w'.cell? ⟨ob, 2, none⟩ = some (.slice o.A o.n o.c)) (by kernel_rfl) ?_ (fun hHeld => ?_)
      · exact HELD _ (by repeat (with_reducible first | exact Keep.refl w1 | apply Keep.alloc | apply Keep.drew | apply Keep.drewN | (refine Keep.trans ?_ k2.out) | (refine Keep.trans ?_ k3.out) | (refine Keep.trans ?_ k5.out)))
      refine wpAnyH_ready (rs := [0]) (by kernel_rfl) (by simp) ?_
      refine AllReadyH.cons rfl (fun K hK => ?_) AllReadyH.nil
      simp only [List.getElem_toArray, List.getElem_cons_zero]
      rw [if_pos (by rfl)]
      go_simp
      refine (aw.out _ (K1.out.trans (by repeat (with_reducible first | exact Keep.refl w1 | apply Keep.alloc | apply Keep.drew | apply Keep.drewN | (refine Keep.trans ?_ k2.out) | (refine Keep.trans ?_ k3.out) | (refine Keep.trans ?_ k5.out))))).mono ?_
      rintro e w2 ⟨rfl, k2⟩; replace k2 := Lib.hid k2
      go_wp2_with fail
      refine hK.out _ _ ?_ (fun hHeld => ?_)
      · exact HELD _ (by repeat (with_reducible first | exact Keep.refl w1 | apply Keep.alloc | apply Keep.drew | apply Keep.drewN | (refine Keep.trans ?_ k2.out) | (refine Keep.trans ?_ k3.out) | (refine Keep.trans ?_ k5.out)))
      clear hK K
      try simp only [Act.put, List.getElem_toArray, List.getElem_cons_succ, List.getElem_cons_zero, List.setIfInBounds_toArray, List.set_cons_zero, List.set_cons_succ]
      refine wpAnyH_take (i := 1) (v := .bool false) rfl (by kernel_rfl) (by kernel_rfl) (by kernel_rfl) (fun _ _ _ h => h) (Or.inl ⟨by rfl, fun Wz hW => by obtain ⟨p0, p1, p2⟩ := hW; go_simp⟩) hHeld ?_
      simp only [Act.put, List.getElem_toArray, List.getElem_cons_succ, List.getElem_cons_zero, List.setIfInBounds_toArray, List.set_cons_zero, List.set_cons_succ]
      refine wpAnyH_take (i := 2) (v := .bool false) rfl (by kernel_rfl) (by kernel_rfl) (by kernel_rfl) (fun _ _ _ h => h) (Or.inl ⟨by rfl, fun Wz hW => by obtain ⟨p0, p1, p2⟩ := hW; go_simp⟩) hHeld ?_
      simp only [Act.put, List.getElem_toArray, List.getElem_cons_succ, List.getElem_cons_zero, List.setIfInBounds_toArray, List.set_cons_zero, List.set_cons_succ]
      refine wpAnyH_take (i := 3) (v := .pointer (some ⟨q, 0, none⟩)) rfl (by kernel_rfl) (by kernel_rfl) (by kernel_rfl) (fun _ _ _ h => h) (Or.inl ⟨by rfl, fun Wz hW => by obtain ⟨p0, p1, p2⟩ := hW; go_simp⟩) hHeld ?_
      simp only [Act.put, List.getElem_toArray, List.getElem_cons_succ, List.getElem_cons_zero, List.setIfInBounds_toArray, List.set_cons_zero, List.set_cons_succ]
      refine wpAnyH_take (i := 4) (v := .bool false) rfl (by kernel_rfl) (by kernel_rfl) (by kernel_rfl) (fun _ _ _ h => h) (Or.inl ⟨by rfl, fun Wz hW => by obtain ⟨p0, p1, p2⟩ := hW; go_simp⟩) hHeld ?_
      simp only [Act.put, List.getElem_toArray, List.getElem_cons_succ, List.getElem_cons_zero, List.setIfInBounds_toArray, List.set_cons_zero, List.set_cons_succ]
      refine wpAnyH_take (i := 5) (v := .bool false) rfl (by kernel_rfl) (by kernel_rfl) (by kernel_rfl) (fun _ _ _ h => h) (Or.inl ⟨by rfl, fun Wz hW => by obtain ⟨p0, p1, p2⟩ := hW; go_simp⟩) hHeld ?_
      simp only [Act.put, List.getElem_toArray, List.getElem_cons_succ, List.getElem_cons_zero, List.setIfInBounds_toArray, List.set_cons_zero, List.set_cons_succ]
      refine wpAnyH_take (i := 6) (v := .bool false) rfl (by kernel_rfl) (by kernel_rfl) (by kernel_rfl) (fun _ _ _ h => h) (Or.inl ⟨by rfl, fun Wz hW => by obtain ⟨p0, p1, p2⟩ := hW; go_simp⟩) hHeld ?_
      simp only [Act.put, List.getElem_toArray, List.getElem_cons_succ, List.getElem_cons_zero, List.setIfInBounds_toArray, List.set_cons_zero, List.set_cons_succ]
      refine wpAnyH_take (i := 7) (v := .slice A n c) rfl (by kernel_rfl) (by kernel_rfl) (by kernel_rfl) (fun _ _ _ h => h) (Or.inl ⟨by rfl, fun Wz hW => by obtain ⟨p0, p1, p2⟩ := hW; go_simp⟩) hHeld ?_
      simp only [Act.put, List.getElem_toArray, List.getElem_cons_succ, List.getElem_cons_zero, List.setIfInBounds_toArray, List.set_cons_zero, List.set_cons_succ]
      refine wpAnyH_take (i := 8) (v := .slice A n c) rfl (by kernel_rfl) (by kernel_rfl) (by kernel_rfl) (fun _ _ _ h => h) (Or.inl ⟨by rfl, fun Wz hW => by obtain ⟨p0, p1, p2⟩ := hW; go_simp⟩) hHeld ?_
      simp only [Act.put, List.getElem_toArray, List.getElem_cons_succ, List.getElem_cons_zero, List.setIfInBounds_toArray, List.set_cons_zero, List.set_cons_succ]
      refine wpAnyH_take (i := 9) (v := .int .i64 n) rfl (by kernel_rfl) (by kernel_rfl) (by kernel_rfl) (fun _ _ _ h => h) (Or.inl ⟨by rfl, fun Wz hW => by obtain ⟨p0, p1, p2⟩ := hW; go_simp⟩) hHeld ?_
      simp only [Act.put, List.getElem_toArray, List.getElem_cons_succ, List.getElem_cons_zero, List.setIfInBounds_toArray, List.set_cons_zero, List.set_cons_succ]
      refine wpAnyH_take (i := 10) (v := .slice A n c) rfl (by kernel_rfl) (by kernel_rfl) (by kernel_rfl) (fun _ _ _ h => h) (Or.inl ⟨by rfl, fun Wz hW => by obtain ⟨p0, p1, p2⟩ := hW; go_simp⟩) hHeld ?_
      simp only [Act.put, List.getElem_toArray, List.getElem_cons_succ, List.getElem_cons_zero, List.setIfInBounds_toArray, List.set_cons_zero, List.set_cons_succ]
      refine wpAnyH_take (i := 11) (v := .int .i64 n) rfl (by kernel_rfl) (by kernel_rfl) (by kernel_rfl) (fun _ _ _ h => h) (Or.inl ⟨by rfl, fun Wz hW => by obtain ⟨p0, p1, p2⟩ := hW; go_simp⟩) hHeld ?_
      simp only [Act.put, List.getElem_toArray, List.getElem_cons_succ, List.getElem_cons_zero, List.setIfInBounds_toArray, List.set_cons_zero, List.set_cons_succ]
      refine wpAnyH_take (i := 12) (v := .slice A n n) rfl (by kernel_rfl) (by kernel_rfl) (by kernel_rfl) (fun _ _ _ h => h) (Or.inl ⟨by rfl, fun Wz hW => by obtain ⟨p0, p1, p2⟩ := hW; go_simp⟩) hHeld ?_
      simp only [Act.put, List.getElem_toArray, List.getElem_cons_succ, List.getElem_cons_zero, List.setIfInBounds_toArray, List.set_cons_zero, List.set_cons_succ]
      refine wpAnyH_take (i := 13) (v := .agg #[.int .i64 o.kd, .int .i64 o.id, .slice o.A o.n o.c]) rfl (by kernel_rfl) (by kernel_rfl) (by kernel_rfl) (fun _ _ _ h => h) (Or.inl ⟨by rfl, fun Wz hW => by obtain ⟨p0, p1, p2⟩ := hW; go_simp⟩) hHeld ?_
      simp only [Act.put, List.getElem_toArray, List.getElem_cons_succ, List.getElem_cons_zero, List.setIfInBounds_toArray, List.set_cons_zero, List.set_cons_succ]
      refine wpAnyH_ready (rs := [14]) (by kernel_rfl) (by simp) ?_
      refine AllReadyH.cons rfl (fun K hK => ?_) AllReadyH.nil
      simp only [List.getElem_toArray, List.getElem_cons_succ, List.getElem_cons_zero]
      rw [if_pos (by rfl)]
      go_simp
      obtain ⟨w3, hw3⟩ : ∃ W, W = w2.alloc (.cells #[.int .i64 o.kd, .int .i64 o.id, .slice o.A o.n o.c] 32) := ⟨_, rfl⟩
      have k3 : Hid (Keep w2 w3) := by rw [hw3]; exact Keep.one _ _
      have B3 : Hid (w3.heap[w2.heap.size]? = some (.cells #[.int .i64 o.kd, .int .i64 o.id, .slice o.A o.n o.c] 32 (0, 0))) := by rw [hw3]; exact heap_alloc_new _ _
      rw [← hw3]
      replace hw3 := Lib.hid hw3
      refine hK.out _ _ ?_ (fun hHeld => ?_)
      · exact HELD _ (by repeat (with_reducible first | exact Keep.refl w1 | apply Keep.alloc | apply Keep.drew | apply Keep.drewN | (refine Keep.trans ?_ k2.out) | (refine Keep.trans ?_ k3.out) | (refine Keep.trans ?_ k5.out)))
      clear hK K
      try simp only [Act.put, List.getElem_toArray, List.getElem_cons_succ, List.getElem_cons_zero, List.setIfInBounds_toArray, List.set_cons_zero, List.set_cons_succ]
      refine wpAnyH_ready (rs := [15]) (by kernel_rfl) (by simp) ?_
      refine AllReadyH.cons rfl (fun K hK => ?_) AllReadyH.nil
      simp only [List.getElem_toArray, List.getElem_cons_succ, List.getElem_cons_zero]
      rw [if_pos (by rfl)]
      have K3 : Hid (Keep w w3) := K0.out.trans (K1.out.trans (by repeat (with_reducible first | exact Keep.refl w1 | apply Keep.alloc | apply Keep.drew | apply Keep.drewN | (refine Keep.trans ?_ k2.out) | (refine Keep.trans ?_ k3.out) | (refine Keep.trans ?_ k5.out))))
      refine wp_growO (.tmp 22) (.tmp 24) rfl A n P (by simp [Act.eval]) (fun h => (hA.out h).1) (hR.out.keep K3.out) o w2.heap.size (by simp [Act.eval]) B3.out (ho.out.keep K3.out) hb ?_
      intro A5 c5 w5 r5 k5
      replace k5 := Lib.hid k5
      replace r5 := Lib.hid r5
      refine hK.out _ _ ?_ (fun hHeld => ?_)
      · exact HELD _ (by repeat (with_reducible first | exact Keep.refl w1 | apply Keep.alloc | apply Keep.drew | apply Keep.drewN | (refine Keep.trans ?_ k2.out) | (refine Keep.trans ?_ k3.out) | (refine Keep.trans ?_ k5.out)))
      clear hK K
      try simp only [Act.put, List.setIfInBounds_toArray, List.set_cons_zero, List.set_cons_succ]
      refine wpAnyH_ready (rs := [16]) (by kernel_rfl) (by simp) ?_
      refine AllReadyH.cons rfl (fun K hK => ?_) AllReadyH.nil
      simp only [List.getElem_toArray, List.getElem_cons_succ, List.getElem_cons_zero]
      rw [if_pos (by rfl)]
      go_simp
      refine (cF.out w5 A5 c5 r5.out).mono ?_
      rintro e w6 ⟨rfl, rfl⟩
      go_wp2_with fail
      refine hK.out _ _ ?_ (fun hHeld => ?_)
      · exact HELD _ (by repeat (with_reducible first | exact Keep.refl w1 | apply Keep.alloc | apply Keep.drew | apply Keep.drewN | (refine Keep.trans ?_ k2.out) | (refine Keep.trans ?_ k3.out) | (refine Keep.trans ?_ k5.out)))
      clear hK K
      try simp only [Act.put, List.getElem_toArray, List.getElem_cons_succ, List.getElem_cons_zero, List.setIfInBounds_toArray, List.set_cons_zero, List.set_cons_succ]
      refine wpAnyH_take (i := 17) (v := .bool true) rfl (by kernel_rfl) (by kernel_rfl) (by kernel_rfl) (fun _ _ _ h => h) (Or.inl ⟨by rfl, fun Wz hW => by obtain ⟨p0, p1, p2⟩ := hW; go_simp⟩) hHeld ?_
      simp only [Act.put, List.getElem_toArray, List.getElem_cons_succ, List.getElem_cons_zero, List.setIfInBounds_toArray, List.set_cons_zero, List.set_cons_succ]
      refine wpAnyH_take (i := 18) (v := .bool true) rfl (by kernel_rfl) (by kernel_rfl) (by kernel_rfl) (fun _ _ _ h => h) (Or.inl ⟨by rfl, fun Wz hW => by obtain ⟨p0, p1, p2⟩ := hW; go_simp⟩) hHeld ?_
      simp only [Act.put, List.getElem_toArray, List.getElem_cons_succ, List.getElem_cons_zero, List.setIfInBounds_toArray, List.set_cons_zero, List.set_cons_succ]
      refine wpAnyH_take (i := 19) (v := .bool true) rfl (by kernel_rfl) (by kernel_rfl) (by kernel_rfl) (fun _ _ _ h => h) (Or.inl ⟨by rfl, fun Wz hW => by obtain ⟨p0, p1, p2⟩ := hW; go_simp⟩) hHeld ?_
      simp only [Act.put, List.getElem_toArray, List.getElem_cons_succ, List.getElem_cons_zero, List.setIfInBounds_toArray, List.set_cons_zero, List.set_cons_succ]
      refine wpAnyH_take (i := 20) (v := undef) rfl (by kernel_rfl) (by kernel_rfl) (by kernel_rfl) (fun _ _ _ h => h) (Or.inr ⟨by rfl, rfl⟩) hHeld ?_
      simp only [Act.put, List.getElem_toArray, List.getElem_cons_succ, List.getElem_cons_zero, List.setIfInBounds_toArray, List.set_cons_zero, List.set_cons_succ]
      refine wpAnyH_take (i := 21) (v := undef) rfl (by kernel_rfl) (by kernel_rfl) (by kernel_rfl) (fun _ _ _ h => h) (Or.inr ⟨by rfl, rfl⟩) hHeld ?_
      simp only [Act.put, List.getElem_toArray, List.getElem_cons_succ, List.getElem_cons_zero, List.setIfInBounds_toArray, List.set_cons_zero, List.set_cons_succ]
      refine wpAnyH_take (i := 22) (v := undef) rfl (by kernel_rfl) (by kernel_rfl) (by kernel_rfl) (fun _ _ _ h => h) (Or.inr ⟨by rfl, rfl⟩) hHeld ?_
      simp only [Act.put, List.getElem_toArray, List.getElem_cons_succ, List.getElem_cons_zero, List.setIfInBounds_toArray, List.set_cons_zero, List.set_cons_succ]
      refine wpAnyH_take (i := 23) (v := .bool true) rfl (by kernel_rfl) (by kernel_rfl) (by kernel_rfl) (fun _ _ _ h => h) (Or.inl ⟨by rfl, fun Wz hW => by obtain ⟨p0, p1, p2⟩ := hW; go_simp⟩) hHeld ?_
      simp only [Act.put, List.getElem_toArray, List.getElem_cons_succ, List.getElem_cons_zero, List.setIfInBounds_toArray, List.set_cons_zero, List.set_cons_succ]
      have KE : Hid (Keep w1 w5) := by
        show Keep w1 w5
        repeat (with_reducible first | exact Keep.refl w1 | apply Keep.alloc | apply Keep.drew | apply Keep.drewN | (refine Keep.trans ?_ k2.out) | (refine Keep.trans ?_ k3.out) | (refine Keep.trans ?_ k5.out))
      refine wpAnyH_done (by kernel_rfl) ?_ _
      go_wp2_with fail
      go_meet
      case rel => exact ⟨true, rfl, KE, fun h => by cases h⟩
    | true =>
      have hF := Lib.hid (few_put.1 (hfb.out.1 rfl))
      by_cases hk : o.kd < 2
      · have HELD : ∀ Wz, Keep w1 Wz → (Wz.cell? ⟨ob, 0, none⟩ = some (.int .i64 o.kd) ∧ Wz.cell? ⟨ob, 1, none⟩ = some (.int .i64 o.id) ∧ Wz.cell? ⟨ob, 2, none⟩ = some (.slice o.A o.n o.c)) := fun Wz KK => ⟨KK.cell b0, KK.cell b1, KK.cell b2⟩
        refine wp_region_held_drew (S := fun w' => w'.cell? ⟨ob, 0, none⟩ = some (.int .i64 o.kd) ∧ w'.cell? ⟨ob, 1, none⟩ = some (.int .i64 o.id) ∧ w'.cell? ⟨ob, 2, none⟩ = some (.slice o.A o.n o.c)) (by kernel_rfl) ?_ (fun hHeld => ?_)
        · exact HELD _ (by repeat (with_reducible first | exact Keep.refl w1 | apply Keep.alloc | apply Keep.drew | apply Keep.drewN | (refine Keep.trans ?_ k2.out) | (refine Keep.trans ?_ k3.out) | (refine Keep.trans ?_ k5.out)))
        refine wpAnyH_ready (rs := [0]) (by kernel_rfl) (by simp) ?_
        refine AllReadyH.cons rfl (fun K hK => ?_) AllReadyH.nil
        simp only [List.getElem_toArray, List.getElem_cons_zero]
        rw [if_pos (by rfl)]
        go_simp
        refine (aw.out _ (K1.out.trans (by repeat (with_reducible first | exact Keep.refl w1 | apply Keep.alloc | apply Keep.drew | apply Keep.drewN | (refine Keep.trans ?_ k2.out) | (refine Keep.trans ?_ k3.out) | (refine Keep.trans ?_ k5.out))))).mono ?_
        rintro e w2 ⟨rfl, k2⟩; replace k2 := Lib.hid k2
        go_wp2_with fail
        refine hK.out _ _ ?_ (fun hHeld => ?_)
        · exact HELD _ (by repeat (with_reducible first | exact Keep.refl w1 | apply Keep.alloc | apply Keep.drew | apply Keep.drewN | (refine Keep.trans ?_ k2.out) | (refine Keep.trans ?_ k3.out) | (refine Keep.trans ?_ k5.out)))
        clear hK K
        try simp only [Act.put, List.getElem_toArray, List.getElem_cons_succ, List.getElem_cons_zero, List.setIfInBounds_toArray, List.set_cons_zero, List.set_cons_succ]
        refine wpAnyH_take (i := 1) (v := .bool false) rfl (by kernel_rfl) (by kernel_rfl) (by kernel_rfl) (fun _ _ _ h => h) (Or.inl ⟨by rfl, fun Wz hW => by obtain ⟨p0, p1, p2⟩ := hW; go_simp⟩) hHeld ?_
        simp only [Act.put, List.getElem_toArray, List.getElem_cons_succ, List.getElem_cons_zero, List.setIfInBounds_toArray, List.set_cons_zero, List.set_cons_succ]
        refine wpAnyH_take (i := 2) (v := .bool false) rfl (by kernel_rfl) (by kernel_rfl) (by kernel_rfl) (fun _ _ _ h => h) (Or.inl ⟨by rfl, fun Wz hW => by obtain ⟨p0, p1, p2⟩ := hW; go_simp⟩) hHeld ?_
        simp only [Act.put, List.getElem_toArray, List.getElem_cons_succ, List.getElem_cons_zero, List.setIfInBounds_toArray, List.set_cons_zero, List.set_cons_succ]
        refine wpAnyH_take (i := 3) (v := .pointer (some ⟨q, 0, none⟩)) rfl (by kernel_rfl) (by kernel_rfl) (by kernel_rfl) (fun _ _ _ h => h) (Or.inl ⟨by rfl, fun Wz hW => by obtain ⟨p0, p1, p2⟩ := hW; go_simp⟩) hHeld ?_
        simp only [Act.put, List.getElem_toArray, List.getElem_cons_succ, List.getElem_cons_zero, List.setIfInBounds_toArray, List.set_cons_zero, List.set_cons_succ]
        refine wpAnyH_take (i := 4) (v := .bool false) rfl (by kernel_rfl) (by kernel_rfl) (by kernel_rfl) (fun _ _ _ h => h) (Or.inl ⟨by rfl, fun Wz hW => by obtain ⟨p0, p1, p2⟩ := hW; go_simp⟩) hHeld ?_
        simp only [Act.put, List.getElem_toArray, List.getElem_cons_succ, List.getElem_cons_zero, List.setIfInBounds_toArray, List.set_cons_zero, List.set_cons_succ]
        refine wpAnyH_take (i := 5) (v := .bool false) rfl (by kernel_rfl) (by kernel_rfl) (by kernel_rfl) (fun _ _ _ h => h) (Or.inl ⟨by rfl, fun Wz hW => by obtain ⟨p0, p1, p2⟩ := hW; go_simp⟩) hHeld ?_
        simp only [Act.put, List.getElem_toArray, List.getElem_cons_succ, List.getElem_cons_zero, List.setIfInBounds_toArray, List.set_cons_zero, List.set_cons_succ]
        refine wpAnyH_take (i := 6) (v := .bool false) rfl (by kernel_rfl) (by kernel_rfl) (by kernel_rfl) (fun _ _ _ h => h) (Or.inl ⟨by rfl, fun Wz hW => by obtain ⟨p0, p1, p2⟩ := hW; go_simp⟩) hHeld ?_
        simp only [Act.put, List.getElem_toArray, List.getElem_cons_succ, List.getElem_cons_zero, List.setIfInBounds_toArray, List.set_cons_zero, List.set_cons_succ]
        refine wpAnyH_take (i := 7) (v := .slice A n c) rfl (by kernel_rfl) (by kernel_rfl) (by kernel_rfl) (fun _ _ _ h => h) (Or.inl ⟨by rfl, fun Wz hW => by obtain ⟨p0, p1, p2⟩ := hW; go_simp⟩) hHeld ?_
        simp only [Act.put, List.getElem_toArray, List.getElem_cons_succ, List.getElem_cons_zero, List.setIfInBounds_toArray, List.set_cons_zero, List.set_cons_succ]
        refine wpAnyH_take (i := 8) (v := .slice A n c) rfl (by kernel_rfl) (by kernel_rfl) (by kernel_rfl) (fun _ _ _ h => h) (Or.inl ⟨by rfl, fun Wz hW => by obtain ⟨p0, p1, p2⟩ := hW; go_simp⟩) hHeld ?_
        simp only [Act.put, List.getElem_toArray, List.getElem_cons_succ, List.getElem_cons_zero, List.setIfInBounds_toArray, List.set_cons_zero, List.set_cons_succ]
        refine wpAnyH_take (i := 9) (v := .int .i64 n) rfl (by kernel_rfl) (by kernel_rfl) (by kernel_rfl) (fun _ _ _ h => h) (Or.inl ⟨by rfl, fun Wz hW => by obtain ⟨p0, p1, p2⟩ := hW; go_simp⟩) hHeld ?_
        simp only [Act.put, List.getElem_toArray, List.getElem_cons_succ, List.getElem_cons_zero, List.setIfInBounds_toArray, List.set_cons_zero, List.set_cons_succ]
        refine wpAnyH_take (i := 10) (v := .slice A n c) rfl (by kernel_rfl) (by kernel_rfl) (by kernel_rfl) (fun _ _ _ h => h) (Or.inl ⟨by rfl, fun Wz hW => by obtain ⟨p0, p1, p2⟩ := hW; go_simp⟩) hHeld ?_
        simp only [Act.put, List.getElem_toArray, List.getElem_cons_succ, List.getElem_cons_zero, List.setIfInBounds_toArray, List.set_cons_zero, List.set_cons_succ]
        refine wpAnyH_take (i := 11) (v := .int .i64 n) rfl (by kernel_rfl) (by kernel_rfl) (by kernel_rfl) (fun _ _ _ h => h) (Or.inl ⟨by rfl, fun Wz hW => by obtain ⟨p0, p1, p2⟩ := hW; go_simp⟩) hHeld ?_
        simp only [Act.put, List.getElem_toArray, List.getElem_cons_succ, List.getElem_cons_zero, List.setIfInBounds_toArray, List.set_cons_zero, List.set_cons_succ]
        refine wpAnyH_take (i := 12) (v := .slice A n n) rfl (by kernel_rfl) (by kernel_rfl) (by kernel_rfl) (fun _ _ _ h => h) (Or.inl ⟨by rfl, fun Wz hW => by obtain ⟨p0, p1, p2⟩ := hW; go_simp⟩) hHeld ?_
        simp only [Act.put, List.getElem_toArray, List.getElem_cons_succ, List.getElem_cons_zero, List.setIfInBounds_toArray, List.set_cons_zero, List.set_cons_succ]
        refine wpAnyH_take (i := 13) (v := .agg #[.int .i64 o.kd, .int .i64 o.id, .slice o.A o.n o.c]) rfl (by kernel_rfl) (by kernel_rfl) (by kernel_rfl) (fun _ _ _ h => h) (Or.inl ⟨by rfl, fun Wz hW => by obtain ⟨p0, p1, p2⟩ := hW; go_simp⟩) hHeld ?_
        simp only [Act.put, List.getElem_toArray, List.getElem_cons_succ, List.getElem_cons_zero, List.setIfInBounds_toArray, List.set_cons_zero, List.set_cons_succ]
        refine wpAnyH_ready (rs := [14]) (by kernel_rfl) (by simp) ?_
        refine AllReadyH.cons rfl (fun K hK => ?_) AllReadyH.nil
        simp only [List.getElem_toArray, List.getElem_cons_succ, List.getElem_cons_zero]
        rw [if_pos (by rfl)]
        go_simp
        obtain ⟨w3, hw3⟩ : ∃ W, W = w2.alloc (.cells #[.int .i64 o.kd, .int .i64 o.id, .slice o.A o.n o.c] 32) := ⟨_, rfl⟩
        have k3 : Hid (Keep w2 w3) := by rw [hw3]; exact Keep.one _ _
        have B3 : Hid (w3.heap[w2.heap.size]? = some (.cells #[.int .i64 o.kd, .int .i64 o.id, .slice o.A o.n o.c] 32 (0, 0))) := by rw [hw3]; exact heap_alloc_new _ _
        rw [← hw3]
        replace hw3 := Lib.hid hw3
        refine hK.out _ _ ?_ (fun hHeld => ?_)
        · exact HELD _ (by repeat (with_reducible first | exact Keep.refl w1 | apply Keep.alloc | apply Keep.drew | apply Keep.drewN | (refine Keep.trans ?_ k2.out) | (refine Keep.trans ?_ k3.out) | (refine Keep.trans ?_ k5.out)))
        clear hK K
        try simp only [Act.put, List.getElem_toArray, List.getElem_cons_succ, List.getElem_cons_zero, List.setIfInBounds_toArray, List.set_cons_zero, List.set_cons_succ]
        refine wpAnyH_ready (rs := [15]) (by kernel_rfl) (by simp) ?_
        refine AllReadyH.cons rfl (fun K hK => ?_) AllReadyH.nil
        simp only [List.getElem_toArray, List.getElem_cons_succ, List.getElem_cons_zero]
        rw [if_pos (by rfl)]
        have K3 : Hid (Keep w w3) := K0.out.trans (K1.out.trans (by repeat (with_reducible first | exact Keep.refl w1 | apply Keep.alloc | apply Keep.drew | apply Keep.drewN | (refine Keep.trans ?_ k2.out) | (refine Keep.trans ?_ k3.out) | (refine Keep.trans ?_ k5.out))))
        refine wp_growO (.tmp 22) (.tmp 24) rfl A n P (by simp [Act.eval]) (fun h => (hA.out h).1) (hR.out.keep K3.out) o w2.heap.size (by simp [Act.eval]) B3.out (ho.out.keep K3.out) hb ?_
        intro A5 c5 w5 r5 k5
        replace k5 := Lib.hid k5
        replace r5 := Lib.hid r5
        refine hK.out _ _ ?_ (fun hHeld => ?_)
        · exact HELD _ (by repeat (with_reducible first | exact Keep.refl w1 | apply Keep.alloc | apply Keep.drew | apply Keep.drewN | (refine Keep.trans ?_ k2.out) | (refine Keep.trans ?_ k3.out) | (refine Keep.trans ?_ k5.out)))
        clear hK K
        try simp only [Act.put, List.setIfInBounds_toArray, List.set_cons_zero, List.set_cons_succ]
        refine wpAnyH_ready (rs := [16]) (by kernel_rfl) (by simp) ?_
        refine AllReadyH.cons rfl (fun K hK => ?_) AllReadyH.nil
        simp only [List.getElem_toArray, List.getElem_cons_succ, List.getElem_cons_zero]
        rw [if_pos (by rfl)]
        go_simp
        refine (cF.out w5 A5 c5 r5.out).mono ?_
        rintro e w6 ⟨rfl, rfl⟩
        go_wp2_with fail
        refine hK.out _ _ ?_ (fun hHeld => ?_)
        · exact HELD _ (by repeat (with_reducible first | exact Keep.refl w1 | apply Keep.alloc | apply Keep.drew | apply Keep.drewN | (refine Keep.trans ?_ k2.out) | (refine Keep.trans ?_ k3.out) | (refine Keep.trans ?_ k5.out)))
        clear hK K
        try simp only [Act.put, List.getElem_toArray, List.getElem_cons_succ, List.getElem_cons_zero, List.setIfInBounds_toArray, List.set_cons_zero, List.set_cons_succ]
        refine wpAnyH_take (i := 17) (v := .bool false) rfl (by kernel_rfl) (by kernel_rfl) (by kernel_rfl) (fun _ _ _ h => h) (Or.inl ⟨by rfl, fun Wz hW => by obtain ⟨p0, p1, p2⟩ := hW; go_simp⟩) hHeld ?_
        simp only [Act.put, List.getElem_toArray, List.getElem_cons_succ, List.getElem_cons_zero, List.setIfInBounds_toArray, List.set_cons_zero, List.set_cons_succ]
        refine wpAnyH_take (i := 18) (v := .bool false) rfl (by kernel_rfl) (by kernel_rfl) (by kernel_rfl) (fun _ _ _ h => h) (Or.inl ⟨by rfl, fun Wz hW => by obtain ⟨p0, p1, p2⟩ := hW; go_simp⟩) hHeld ?_
        simp only [Act.put, List.getElem_toArray, List.getElem_cons_succ, List.getElem_cons_zero, List.setIfInBounds_toArray, List.set_cons_zero, List.set_cons_succ]
        refine wpAnyH_take (i := 19) (v := .bool false) rfl (by kernel_rfl) (by kernel_rfl) (by kernel_rfl) (fun _ _ _ h => h) (Or.inl ⟨by rfl, fun Wz hW => by obtain ⟨p0, p1, p2⟩ := hW; go_simp⟩) hHeld ?_
        simp only [Act.put, List.getElem_toArray, List.getElem_cons_succ, List.getElem_cons_zero, List.setIfInBounds_toArray, List.set_cons_zero, List.set_cons_succ]
        refine wpAnyH_take (i := 20) (v := .pointer (some ⟨ob, 0, none⟩)) rfl (by kernel_rfl) (by kernel_rfl) (by kernel_rfl) (fun _ _ _ h => h) (Or.inl ⟨by rfl, fun Wz hW => by obtain ⟨p0, p1, p2⟩ := hW; go_simp⟩) hHeld ?_
        simp only [Act.put, List.getElem_toArray, List.getElem_cons_succ, List.getElem_cons_zero, List.setIfInBounds_toArray, List.set_cons_zero, List.set_cons_succ]
        refine wpAnyH_take (i := 21) (v := .int .i64 o.kd) rfl (by kernel_rfl) (by kernel_rfl) (by kernel_rfl) (fun _ _ _ h => h) (Or.inl ⟨by rfl, fun Wz hW => by obtain ⟨p0, p1, p2⟩ := hW; go_simp⟩) hHeld ?_
        simp only [Act.put, List.getElem_toArray, List.getElem_cons_succ, List.getElem_cons_zero, List.setIfInBounds_toArray, List.set_cons_zero, List.set_cons_succ]
        refine wpAnyH_take (i := 22) (v := .bool true) rfl (by kernel_rfl) (by kernel_rfl) (by kernel_rfl) (fun _ _ _ h => h) (Or.inl ⟨by rfl, fun Wz hW => by obtain ⟨p0, p1, p2⟩ := hW; go_simp⟩) hHeld ?_
        simp only [Act.put, List.getElem_toArray, List.getElem_cons_succ, List.getElem_cons_zero, List.setIfInBounds_toArray, List.set_cons_zero, List.set_cons_succ]
        refine wpAnyH_take (i := 23) (v := .bool true) rfl (by kernel_rfl) (by kernel_rfl) (by kernel_rfl) (fun _ _ _ h => h) (Or.inl ⟨by rfl, fun Wz hW => by obtain ⟨p0, p1, p2⟩ := hW; go_simp⟩) hHeld ?_
        simp only [Act.put, List.getElem_toArray, List.getElem_cons_succ, List.getElem_cons_zero, List.setIfInBounds_toArray, List.set_cons_zero, List.set_cons_succ]
        have KE : Hid (Keep w1 w5) := by
          show Keep w1 w5
          repeat (with_reducible first | exact Keep.refl w1 | apply Keep.alloc | apply Keep.drew | apply Keep.drewN | (refine Keep.trans ?_ k2.out) | (refine Keep.trans ?_ k3.out) | (refine Keep.trans ?_ k5.out))
        refine wpAnyH_done (by kernel_rfl) ?_ _
        go_wp2_with fail
        go_meet
        case rel => exact ⟨true, rfl, KE, fun h => by cases h⟩
      · have HELD : ∀ Wz, Keep w1 Wz → (Wz.cell? ⟨ob, 0, none⟩ = some (.int .i64 o.kd) ∧ Wz.cell? ⟨ob, 1, none⟩ = some (.int .i64 o.id) ∧ Wz.cell? ⟨ob, 2, none⟩ = some (.slice o.A o.n o.c)) := fun Wz KK => ⟨KK.cell b0, KK.cell b1, KK.cell b2⟩
        refine wp_region_held_drew (S := fun w' => w'.cell? ⟨ob, 0, none⟩ = some (.int .i64 o.kd) ∧ w'.cell? ⟨ob, 1, none⟩ = some (.int .i64 o.id) ∧ w'.cell? ⟨ob, 2, none⟩ = some (.slice o.A o.n o.c)) (by kernel_rfl) ?_ (fun hHeld => ?_)
        · exact HELD _ (by repeat (with_reducible first | exact Keep.refl w1 | apply Keep.alloc | apply Keep.drew | apply Keep.drewN | (refine Keep.trans ?_ k2.out) | (refine Keep.trans ?_ k3.out) | (refine Keep.trans ?_ k5.out)))
        refine wpAnyH_ready (rs := [0]) (by kernel_rfl) (by simp) ?_
        refine AllReadyH.cons rfl (fun K hK => ?_) AllReadyH.nil
        simp only [List.getElem_toArray, List.getElem_cons_zero]
        rw [if_pos (by rfl)]
        go_simp
        refine (aw.out _ (K1.out.trans (by repeat (with_reducible first | exact Keep.refl w1 | apply Keep.alloc | apply Keep.drew | apply Keep.drewN | (refine Keep.trans ?_ k2.out) | (refine Keep.trans ?_ k3.out) | (refine Keep.trans ?_ k5.out))))).mono ?_
        rintro e w2 ⟨rfl, k2⟩; replace k2 := Lib.hid k2
        go_wp2_with fail
        refine hK.out _ _ ?_ (fun hHeld => ?_)
        · exact HELD _ (by repeat (with_reducible first | exact Keep.refl w1 | apply Keep.alloc | apply Keep.drew | apply Keep.drewN | (refine Keep.trans ?_ k2.out) | (refine Keep.trans ?_ k3.out) | (refine Keep.trans ?_ k5.out)))
        clear hK K
        try simp only [Act.put, List.getElem_toArray, List.getElem_cons_succ, List.getElem_cons_zero, List.setIfInBounds_toArray, List.set_cons_zero, List.set_cons_succ]
        refine wpAnyH_take (i := 1) (v := .bool false) rfl (by kernel_rfl) (by kernel_rfl) (by kernel_rfl) (fun _ _ _ h => h) (Or.inl ⟨by rfl, fun Wz hW => by obtain ⟨p0, p1, p2⟩ := hW; go_simp⟩) hHeld ?_
        simp only [Act.put, List.getElem_toArray, List.getElem_cons_succ, List.getElem_cons_zero, List.setIfInBounds_toArray, List.set_cons_zero, List.set_cons_succ]
        refine wpAnyH_take (i := 2) (v := .bool false) rfl (by kernel_rfl) (by kernel_rfl) (by kernel_rfl) (fun _ _ _ h => h) (Or.inl ⟨by rfl, fun Wz hW => by obtain ⟨p0, p1, p2⟩ := hW; go_simp⟩) hHeld ?_
        simp only [Act.put, List.getElem_toArray, List.getElem_cons_succ, List.getElem_cons_zero, List.setIfInBounds_toArray, List.set_cons_zero, List.set_cons_succ]
        refine wpAnyH_take (i := 3) (v := .pointer (some ⟨q, 0, none⟩)) rfl (by kernel_rfl) (by kernel_rfl) (by kernel_rfl) (fun _ _ _ h => h) (Or.inl ⟨by rfl, fun Wz hW => by obtain ⟨p0, p1, p2⟩ := hW; go_simp⟩) hHeld ?_
        simp only [Act.put, List.getElem_toArray, List.getElem_cons_succ, List.getElem_cons_zero, List.setIfInBounds_toArray, List.set_cons_zero, List.set_cons_succ]
        refine wpAnyH_take (i := 4) (v := .bool false) rfl (by kernel_rfl) (by kernel_rfl) (by kernel_rfl) (fun _ _ _ h => h) (Or.inl ⟨by rfl, fun Wz hW => by obtain ⟨p0, p1, p2⟩ := hW; go_simp⟩) hHeld ?_
        simp only [Act.put, List.getElem_toArray, List.getElem_cons_succ, List.getElem_cons_zero, List.setIfInBounds_toArray, List.set_cons_zero, List.set_cons_succ]
        refine wpAnyH_take (i := 5) (v := .bool false) rfl (by kernel_rfl) (by kernel_rfl) (by kernel_rfl) (fun _ _ _ h => h) (Or.inl ⟨by rfl, fun Wz hW => by obtain ⟨p0, p1, p2⟩ := hW; go_simp⟩) hHeld ?_
        simp only [Act.put, List.getElem_toArray, List.getElem_cons_succ, List.getElem_cons_zero, List.setIfInBounds_toArray, List.set_cons_zero, List.set_cons_succ]
        refine wpAnyH_take (i := 6) (v := .bool false) rfl (by kernel_rfl) (by kernel_rfl) (by kernel_rfl) (fun _ _ _ h => h) (Or.inl ⟨by rfl, fun Wz hW => by obtain ⟨p0, p1, p2⟩ := hW; go_simp⟩) hHeld ?_
        simp only [Act.put, List.getElem_toArray, List.getElem_cons_succ, List.getElem_cons_zero, List.setIfInBounds_toArray, List.set_cons_zero, List.set_cons_succ]
        refine wpAnyH_take (i := 7) (v := .slice A n c) rfl (by kernel_rfl) (by kernel_rfl) (by kernel_rfl) (fun _ _ _ h => h) (Or.inl ⟨by rfl, fun Wz hW => by obtain ⟨p0, p1, p2⟩ := hW; go_simp⟩) hHeld ?_
        simp only [Act.put, List.getElem_toArray, List.getElem_cons_succ, List.getElem_cons_zero, List.setIfInBounds_toArray, List.set_cons_zero, List.set_cons_succ]
        refine wpAnyH_take (i := 8) (v := .slice A n c) rfl (by kernel_rfl) (by kernel_rfl) (by kernel_rfl) (fun _ _ _ h => h) (Or.inl ⟨by rfl, fun Wz hW => by obtain ⟨p0, p1, p2⟩ := hW; go_simp⟩) hHeld ?_
        simp only [Act.put, List.getElem_toArray, List.getElem_cons_succ, List.getElem_cons_zero, List.setIfInBounds_toArray, List.set_cons_zero, List.set_cons_succ]
        refine wpAnyH_take (i := 9) (v := .int .i64 n) rfl (by kernel_rfl) (by kernel_rfl) (by kernel_rfl) (fun _ _ _ h => h) (Or.inl ⟨by rfl, fun Wz hW => by obtain ⟨p0, p1, p2⟩ := hW; go_simp⟩) hHeld ?_
        simp only [Act.put, List.getElem_toArray, List.getElem_cons_succ, List.getElem_cons_zero, List.setIfInBounds_toArray, List.set_cons_zero, List.set_cons_succ]
        refine wpAnyH_take (i := 10) (v := .slice A n c) rfl (by kernel_rfl) (by kernel_rfl) (by kernel_rfl) (fun _ _ _ h => h) (Or.inl ⟨by rfl, fun Wz hW => by obtain ⟨p0, p1, p2⟩ := hW; go_simp⟩) hHeld ?_
        simp only [Act.put, List.getElem_toArray, List.getElem_cons_succ, List.getElem_cons_zero, List.setIfInBounds_toArray, List.set_cons_zero, List.set_cons_succ]
        refine wpAnyH_take (i := 11) (v := .int .i64 n) rfl (by kernel_rfl) (by kernel_rfl) (by kernel_rfl) (fun _ _ _ h => h) (Or.inl ⟨by rfl, fun Wz hW => by obtain ⟨p0, p1, p2⟩ := hW; go_simp⟩) hHeld ?_
        simp only [Act.put, List.getElem_toArray, List.getElem_cons_succ, List.getElem_cons_zero, List.setIfInBounds_toArray, List.set_cons_zero, List.set_cons_succ]
        refine wpAnyH_take (i := 12) (v := .slice A n n) rfl (by kernel_rfl) (by kernel_rfl) (by kernel_rfl) (fun _ _ _ h => h) (Or.inl ⟨by rfl, fun Wz hW => by obtain ⟨p0, p1, p2⟩ := hW; go_simp⟩) hHeld ?_
        simp only [Act.put, List.getElem_toArray, List.getElem_cons_succ, List.getElem_cons_zero, List.setIfInBounds_toArray, List.set_cons_zero, List.set_cons_succ]
        refine wpAnyH_take (i := 13) (v := .agg #[.int .i64 o.kd, .int .i64 o.id, .slice o.A o.n o.c]) rfl (by kernel_rfl) (by kernel_rfl) (by kernel_rfl) (fun _ _ _ h => h) (Or.inl ⟨by rfl, fun Wz hW => by obtain ⟨p0, p1, p2⟩ := hW; go_simp⟩) hHeld ?_
        simp only [Act.put, List.getElem_toArray, List.getElem_cons_succ, List.getElem_cons_zero, List.setIfInBounds_toArray, List.set_cons_zero, List.set_cons_succ]
        refine wpAnyH_ready (rs := [14]) (by kernel_rfl) (by simp) ?_
        refine AllReadyH.cons rfl (fun K hK => ?_) AllReadyH.nil
        simp only [List.getElem_toArray, List.getElem_cons_succ, List.getElem_cons_zero]
        rw [if_pos (by rfl)]
        go_simp
        obtain ⟨w3, hw3⟩ : ∃ W, W = w2.alloc (.cells #[.int .i64 o.kd, .int .i64 o.id, .slice o.A o.n o.c] 32) := ⟨_, rfl⟩
        have k3 : Hid (Keep w2 w3) := by rw [hw3]; exact Keep.one _ _
        have B3 : Hid (w3.heap[w2.heap.size]? = some (.cells #[.int .i64 o.kd, .int .i64 o.id, .slice o.A o.n o.c] 32 (0, 0))) := by rw [hw3]; exact heap_alloc_new _ _
        rw [← hw3]
        replace hw3 := Lib.hid hw3
        refine hK.out _ _ ?_ (fun hHeld => ?_)
        · exact HELD _ (by repeat (with_reducible first | exact Keep.refl w1 | apply Keep.alloc | apply Keep.drew | apply Keep.drewN | (refine Keep.trans ?_ k2.out) | (refine Keep.trans ?_ k3.out) | (refine Keep.trans ?_ k5.out)))
        clear hK K
        try simp only [Act.put, List.getElem_toArray, List.getElem_cons_succ, List.getElem_cons_zero, List.setIfInBounds_toArray, List.set_cons_zero, List.set_cons_succ]
        refine wpAnyH_ready (rs := [15]) (by kernel_rfl) (by simp) ?_
        refine AllReadyH.cons rfl (fun K hK => ?_) AllReadyH.nil
        simp only [List.getElem_toArray, List.getElem_cons_succ, List.getElem_cons_zero]
        rw [if_pos (by rfl)]
        have K3 : Hid (Keep w w3) := K0.out.trans (K1.out.trans (by repeat (with_reducible first | exact Keep.refl w1 | apply Keep.alloc | apply Keep.drew | apply Keep.drewN | (refine Keep.trans ?_ k2.out) | (refine Keep.trans ?_ k3.out) | (refine Keep.trans ?_ k5.out))))
        refine wp_growO (.tmp 22) (.tmp 24) rfl A n P (by simp [Act.eval]) (fun h => (hA.out h).1) (hR.out.keep K3.out) o w2.heap.size (by simp [Act.eval]) B3.out (ho.out.keep K3.out) hb ?_
        intro A5 c5 w5 r5 k5
        replace k5 := Lib.hid k5
        replace r5 := Lib.hid r5
        refine hK.out _ _ ?_ (fun hHeld => ?_)
        · exact HELD _ (by repeat (with_reducible first | exact Keep.refl w1 | apply Keep.alloc | apply Keep.drew | apply Keep.drewN | (refine Keep.trans ?_ k2.out) | (refine Keep.trans ?_ k3.out) | (refine Keep.trans ?_ k5.out)))
        clear hK K
        try simp only [Act.put, List.setIfInBounds_toArray, List.set_cons_zero, List.set_cons_succ]
        refine wpAnyH_ready (rs := [16]) (by kernel_rfl) (by simp) ?_
        refine AllReadyH.cons rfl (fun K hK => ?_) AllReadyH.nil
        simp only [List.getElem_toArray, List.getElem_cons_succ, List.getElem_cons_zero]
        rw [if_pos (by rfl)]
        go_simp
        refine (cF.out w5 A5 c5 r5.out).mono ?_
        rintro e w6 ⟨rfl, rfl⟩
        go_wp2_with fail
        refine hK.out _ _ ?_ (fun hHeld => ?_)
        · exact HELD _ (by repeat (with_reducible first | exact Keep.refl w1 | apply Keep.alloc | apply Keep.drew | apply Keep.drewN | (refine Keep.trans ?_ k2.out) | (refine Keep.trans ?_ k3.out) | (refine Keep.trans ?_ k5.out)))
        clear hK K
        try simp only [Act.put, List.getElem_toArray, List.getElem_cons_succ, List.getElem_cons_zero, List.setIfInBounds_toArray, List.set_cons_zero, List.set_cons_succ]
        refine wpAnyH_take (i := 17) (v := .bool false) rfl (by kernel_rfl) (by kernel_rfl) (by kernel_rfl) (fun _ _ _ h => h) (Or.inl ⟨by rfl, fun Wz hW => by obtain ⟨p0, p1, p2⟩ := hW; go_simp⟩) hHeld ?_
        simp only [Act.put, List.getElem_toArray, List.getElem_cons_succ, List.getElem_cons_zero, List.setIfInBounds_toArray, List.set_cons_zero, List.set_cons_succ]
        refine wpAnyH_take (i := 18) (v := .bool false) rfl (by kernel_rfl) (by kernel_rfl) (by kernel_rfl) (fun _ _ _ h => h) (Or.inl ⟨by rfl, fun Wz hW => by obtain ⟨p0, p1, p2⟩ := hW; go_simp⟩) hHeld ?_
        simp only [Act.put, List.getElem_toArray, List.getElem_cons_succ, List.getElem_cons_zero, List.setIfInBounds_toArray, List.set_cons_zero, List.set_cons_succ]
        refine wpAnyH_take (i := 19) (v := .bool false) rfl (by kernel_rfl) (by kernel_rfl) (by kernel_rfl) (fun _ _ _ h => h) (Or.inl ⟨by rfl, fun Wz hW => by obtain ⟨p0, p1, p2⟩ := hW; go_simp⟩) hHeld ?_
        simp only [Act.put, List.getElem_toArray, List.getElem_cons_succ, List.getElem_cons_zero, List.setIfInBounds_toArray, List.set_cons_zero, List.set_cons_succ]
        refine wpAnyH_take (i := 20) (v := .pointer (some ⟨ob, 0, none⟩)) rfl (by kernel_rfl) (by kernel_rfl) (by kernel_rfl) (fun _ _ _ h => h) (Or.inl ⟨by rfl, fun Wz hW => by obtain ⟨p0, p1, p2⟩ := hW; go_simp⟩) hHeld ?_
        simp only [Act.put, List.getElem_toArray, List.getElem_cons_succ, List.getElem_cons_zero, List.setIfInBounds_toArray, List.set_cons_zero, List.set_cons_succ]
        refine wpAnyH_take (i := 21) (v := .int .i64 o.kd) rfl (by kernel_rfl) (by kernel_rfl) (by kernel_rfl) (fun _ _ _ h => h) (Or.inl ⟨by rfl, fun Wz hW => by obtain ⟨p0, p1, p2⟩ := hW; go_simp⟩) hHeld ?_
        simp only [Act.put, List.getElem_toArray, List.getElem_cons_succ, List.getElem_cons_zero, List.setIfInBounds_toArray, List.set_cons_zero, List.set_cons_succ]
        refine wpAnyH_take (i := 22) (v := .bool false) rfl (by kernel_rfl) (by kernel_rfl) (by kernel_rfl) (fun _ _ _ h => h) (Or.inl ⟨by rfl, fun Wz hW => by obtain ⟨p0, p1, p2⟩ := hW; go_simp⟩) hHeld ?_
        simp only [Act.put, List.getElem_toArray, List.getElem_cons_succ, List.getElem_cons_zero, List.setIfInBounds_toArray, List.set_cons_zero, List.set_cons_succ]
        refine wpAnyH_take (i := 23) (v := .bool false) rfl (by kernel_rfl) (by kernel_rfl) (by kernel_rfl) (fun _ _ _ h => h) (Or.inl ⟨by rfl, fun Wz hW => by obtain ⟨p0, p1, p2⟩ := hW; go_simp⟩) hHeld ?_
        simp only [Act.put, List.getElem_toArray, List.getElem_cons_succ, List.getElem_cons_zero, List.setIfInBounds_toArray, List.set_cons_zero, List.set_cons_succ]
        have KE : Hid (Keep w1 w5) := by
          show Keep w1 w5
          repeat (with_reducible first | exact Keep.refl w1 | apply Keep.alloc | apply Keep.drew | apply Keep.drewN | (refine Keep.trans ?_ k2.out) | (refine Keep.trans ?_ k3.out) | (refine Keep.trans ?_ k5.out))
        refine wpAnyH_done (by kernel_rfl) ?_ _
        go_wp2_with fail
        go_meet
        case rel => exact ⟨false, rfl, KE, fun _ => ⟨hF.out.1, hF.out.2.1, hF.out.2.2, by omega⟩⟩
  case rest =>
    obtain ⟨bb, rfl, KC, HB⟩ := hcut
    have K2 : Hid (Keep W0 wc) := K1.out.trans KC.out
    have o2 := Lib.hid (o1.out.keep C KC.out)
    clear b0 b1 b2 cF
    cases bb with
    | true =>
      go_wp2_with fail
      refine (aw.out _ K2.out).mono ?_
      rintro e w4 ⟨rfl, k4⟩
      go_wp2
      go_ret
      exact ⟨rfl, K0.out.trans (K2.out.trans k4)⟩
    | false =>
    obtain ⟨hn59, hfn, hon, hkd⟩ := HB.out rfl
    replace hfn := Lib.hid hfn
    replace hkd := Lib.hid hkd
    clear HB aw
    go_wp2
    go_loopg [6, 7] n (fun gx s6 s7 wr => ∃ (i : Nat) (l : List RnV) (B : Option Addr) (cp : Nat), i ≤ n ∧ gx = n - i ∧ s7 = .int .i64 i ∧ s6 = .slice B l.length cp ∧ l.length ≤ i ∧ Hid (RL wr 2 B cp l) ∧ Hid (Own SI W0 2 5 q (l.map node) wr))
    case atStart => exact ⟨0, [], none, 0, Nat.zero_le _, rfl, rfl, rfl, Nat.le_refl _, rl_nil _ _, o2.out⟩
    case round =>
      clear o1 K1 o2 K2 KC B1
      obtain ⟨i, l, B, cp, hi, rfl, rfl, rfl, hli, RR, OR⟩ := hrel
      have KR : Hid (Keep w wr) := K0.out.trans OR.out.kp
      by_cases hlt : i < n
      · have RP := hR.out.keep KR.out
        obtain ⟨b, off, hA2, ca⟩ := RP.adr (by omega)
        subst hA2
        have q1 := atO b off n c i hlt
        obtain ⟨x0, x1, x2⟩ := ca i hlt
        have ox := RP.is i hlt
        have hnx := hfn.out i hlt
        clear ca RP
        obtain ⟨x, hx⟩ : ∃ x, x = P i := ⟨_, rfl⟩
        rw [← hx] at x0 x1 x2 ox hnx
        replace hx := Lib.hid hx
        have cP := own_play C OR.out (hg.out.keep K0.out) RR.out rfl x ox (by omega) (by omega) (by omega)
        unfold OpV.val at cP
        obtain ⟨N, hN⟩ : ∃ N, N = l.length := ⟨_, rfl⟩
        rw [← hN] at cP hli ⊢
        have hM := opL_len (l.map node) 2 5 x
        rw [List.length_map, ← hN] at hM
        obtain ⟨M, hMM⟩ : ∃ M, M = opL (l.map node) 2 5 x := ⟨_, rfl⟩
        rw [← hMM] at cP hM
        replace hMM := Lib.hid hMM
        replace hN := Lib.hid hN
        replace cP := Lib.hid cP
        replace ox := Lib.hid ox
        go_wp2_with fail
        refine cP.out.mono ?_
        rintro e w3 ⟨B3, c3, l3, tb, rfl, R3, E3, O3⟩
        clear x0 x1 x2 cP
        have hl3 : l3.length ≤ i + 1 := by
          have : (l3.map node).length ≤ N + 1 := by rw [E3]; exact hM
          rw [List.length_map] at this
          omega
        replace O3 := Lib.hid O3
        replace R3 := Lib.hid R3
        replace E3 := Lib.hid E3
        go_wp2
        go_roundg (n - (i + 1))
        case measure => omega
        case rel => exact ⟨i + 1, l3, B3, c3, hlt, rfl, by go_num, rfl, hl3, R3.out, by rw [E3.out]; exact O3.out⟩
      · obtain rfl : i = n := by omega
        have B9 := Lib.hid (OR.out.kp.block O0.out)
        have b0 : wr.cell? ⟨ob, 0, none⟩ = some (.int .i64 o.kd) := by rw [cell_of_row wr _ _ _ _ _ B9.out]; rfl
        have b1 : wr.cell? ⟨ob, 1, none⟩ = some (.int .i64 o.id) := by rw [cell_of_row wr _ _ _ _ _ B9.out]; rfl
        have b2 : wr.cell? ⟨ob, 2, none⟩ = some (.slice o.A o.n o.c) := by rw [cell_of_row wr _ _ _ _ _ B9.out]; rfl
        have cP := own_play2 C OR.out (hg.out.keep K0.out) RR.out rfl o (ho.out.keep KR.out) (by omega) (by omega) (by omega)
        unfold OpV.val at cP
        obtain ⟨r, hr⟩ := opL_ch (L := l.map node) (d := 2) (s := 5) (o := o) (by have := hkd.out; omega)
        have okL := own_ok C OR.out
        obtain ⟨M, hM⟩ : ∃ M, M = opL (l.map node) 2 5 o := ⟨_, rfl⟩
        have lenM : M.length = l.length := by rw [hM, hr, chL_len, List.length_map]
        have FU : Hid (∀ k, k < l.length → (row l k).k ≠ o.id → I64 (row l k).k ∧ (row l k).k ∈ nkeys M ∧ nget M (row l k).k = node (row l k)) := fun k hk hne => by
          have hmem : row l k ∈ l := by
            unfold row
            rw [List.getD_eq_getElem?_getD, List.getElem?_eq_getElem hk]
            exact List.getElem_mem hk
          have h1 := okL.2 _ (List.mem_map_of_mem (f := node) hmem)
          refine ⟨h1.k, ?_, ?_⟩
          · rw [hM, hr, chL_keys, map_keys]
            exact List.mem_map_of_mem hmem
          · rw [hM, hr, chL_other hne]
            exact G.get_at okL.1 (List.mem_map_of_mem (f := node) hmem)
        rw [← hM] at cP
        replace hM := Lib.hid hM
        replace hr := Lib.hid hr
        replace okL := Lib.hid okL
        obtain ⟨N, hN⟩ : ∃ N, N = l.length := ⟨_, rfl⟩
        rw [← hN] at cP lenM FU hli ⊢
        replace hN := Lib.hid hN
        replace lenM := Lib.hid lenM
        replace cP := Lib.hid cP
        go_wp2_with fail
        refine cP.out.mono ?_
        rintro e w3 ⟨v3, tb, rfl, R3, O3⟩
        clear b0 b1 b2 cP
        replace O3 := Lib.hid O3
        replace R3 := Lib.hid R3
        go_wp2
        go_loopg [8] N (fun gx s8 wr2 => ∃ (k : Nat), k ≤ N ∧ gx = N - k ∧ s8 = .int .i64 k ∧ Hid (Keep w3 wr2))
        case atStart => exact ⟨0, Nat.zero_le _, rfl, rfl, Keep.refl _⟩
        case round =>
          obtain ⟨k, hk, rfl, rfl, KQ⟩ := hrel
          by_cases hlk : k < N
          · have hkl : k < l.length := by rw [← hN.out]; exact hlk
            have RQ := R3.out.keep KQ.out
            obtain ⟨b, off, hB, ca⟩ := RQ.rd.adr (by omega)
            subst hB
            have q1 := atN b off N cp k hlk
            have z0 := (ca k hkl).e0
            have z2 := (ca k hkl).e2
            have isx := RQ.is (row l k) (by
              unfold row
              rw [List.getD_eq_getElem?_getD, List.getElem?_eq_getElem hkl]
              exact List.getElem_mem hkl)
            have fu := FU.out k hlk
            have BQ := Lib.hid ((O3.out.kp.trans KQ.out).block O0.out)
            have y1 : wr.cell? ⟨ob, 1, none⟩ = some (.int .i64 o.id) := by rw [cell_of_row wr _ _ _ _ _ BQ.out]; rfl
            clear ca RQ
            obtain ⟨x, hx⟩ : ∃ x, x = row l k := ⟨_, rfl⟩
            rw [← hx] at z0 z2 isx fu
            replace hx := Lib.hid hx
            rw [isx.m] at z2
            replace isx := Lib.hid isx
            have oq := Lib.hid (O3.out.keep C KQ.out)
            have cU : Hid (x.k ≠ o.id → ∀ W, Keep wr W → Calls Tryz.prog 11 #[.pointer (some ⟨q, 0, none⟩), .int .i64 x.k] W fun e w' => ∃ A c, e = .returned (.slice A 2 c) ∧ Rd w' A 2 x.U ∧ Keep W w') := fun hne W kk => own_used C (oq.out.keep C kk) x.k (fu hne).1 (fu hne).2.1 (fun j _ => by rw [(fu hne).2.2]; rfl)
            have cS : Hid (∀ W A5 d5, Keep wr W → Rd W A5 2 x.U → Calls Tryz.prog 13 #[.slice A5 2 d5, .slice x.B 2 x.d] W fun e w' => e = .returned (.bool true) ∧ Keep W w') := fun W A5 d5 kk r =>
              (rsame_is A5 x.B 2 2 d5 x.d x.U x.U W r (isx.out.ru.keep kk) true (same_yes rfl fun _ _ => rfl)).mono fun e w' ⟨a, b⟩ => ⟨a, b.keep⟩
            replace fu := Lib.hid fu
            obtain ⟨xk, hxk⟩ : ∃ xk, xk = x.k := ⟨_, rfl⟩
            obtain ⟨xB, hxB⟩ : ∃ xB, xB = x.B := ⟨_, rfl⟩
            obtain ⟨xd, hxd⟩ : ∃ xd, xd = x.d := ⟨_, rfl⟩
            rw [← hxk] at z0 cU
            rw [← hxB, ← hxd] at z2 cS
            replace hxk := Lib.hid hxk
            replace hxB := Lib.hid hxB
            replace hxd := Lib.hid hxd
            by_cases hne : xk = o.id
            · clear cU cS
              go_wp2_with fail
              have HELD : ∀ Wz, Keep wr Wz → (Wz.cell? ⟨b, off + k * 3, none⟩ = some (.int .i64 xk) ∧ Wz.cell? ⟨b, off + k * 3 + 2, none⟩ = some (.slice xB 2 xd) ∧ Wz.cell? ⟨ob, 1, none⟩ = some (.int .i64 o.id)) := fun Wz KK => ⟨KK.cell z0, KK.cell z2, KK.cell y1⟩
              refine wp_region_held_drew (S := fun w' => w'.cell? ⟨b, off + k * 3, none⟩ = some (.int .i64 xk) ∧ w'.cell? ⟨b, off + k * 3 + 2, none⟩ = some (.slice xB 2 xd) ∧ w'.cell? ⟨ob, 1, none⟩ = some (.int .i64 o.id)) (by kernel_rfl) ?_ (fun hHeld => ?_)
              · exact HELD _ (by repeat (with_reducible first | exact Keep.refl wr | apply Keep.alloc | apply Keep.drew | apply Keep.drewN | (refine Keep.trans ?_ k5.out) | (refine Keep.trans ?_ k6.out)))
              refine wpAnyH_take (i := 0) (v := .slice (some ⟨b, off, none⟩) N cp) rfl (by kernel_rfl) (by kernel_rfl) (by kernel_rfl) (fun _ _ _ h => h) (Or.inl ⟨by rfl, fun Wz hW => by obtain ⟨p0, p1, p2⟩ := hW; go_simp⟩) hHeld ?_
              simp only [Act.put, List.getElem_toArray, List.getElem_cons_zero, List.setIfInBounds_toArray, List.set_cons_zero, List.set_cons_succ]
              refine wpAnyH_take (i := 1) (v := .int .i64 k) rfl (by kernel_rfl) (by kernel_rfl) (by kernel_rfl) (fun _ _ _ h => h) (Or.inl ⟨by rfl, fun Wz hW => by obtain ⟨p0, p1, p2⟩ := hW; go_simp⟩) hHeld ?_
              simp only [Act.put, List.getElem_toArray, List.getElem_cons_succ, List.getElem_cons_zero, List.setIfInBounds_toArray, List.set_cons_zero, List.set_cons_succ]
              refine wpAnyH_take (i := 2) (v := .pointer (some ⟨b, off + k * 3, none⟩)) rfl (by kernel_rfl) (by kernel_rfl) (by kernel_rfl) (fun _ _ _ h => h) (Or.inl ⟨by rfl, fun Wz hW => by obtain ⟨p0, p1, p2⟩ := hW; go_simp⟩) hHeld ?_
              simp only [Act.put, List.getElem_toArray, List.getElem_cons_succ, List.getElem_cons_zero, List.setIfInBounds_toArray, List.set_cons_zero, List.set_cons_succ]
              refine wpAnyH_take (i := 3) (v := .pointer (some ⟨b, off + k * 3, none⟩)) rfl (by kernel_rfl) (by kernel_rfl) (by kernel_rfl) (fun _ _ _ h => h) (Or.inl ⟨by rfl, fun Wz hW => by obtain ⟨p0, p1, p2⟩ := hW; go_simp⟩) hHeld ?_
              simp only [Act.put, List.getElem_toArray, List.getElem_cons_succ, List.getElem_cons_zero, List.setIfInBounds_toArray, List.set_cons_zero, List.set_cons_succ]
              refine wpAnyH_take (i := 4) (v := .int .i64 xk) rfl (by kernel_rfl) (by kernel_rfl) (by kernel_rfl) (fun _ _ _ h => h) (Or.inl ⟨by rfl, fun Wz hW => by obtain ⟨p0, p1, p2⟩ := hW; go_simp⟩) hHeld ?_
              simp only [Act.put, List.getElem_toArray, List.getElem_cons_succ, List.getElem_cons_zero, List.setIfInBounds_toArray, List.set_cons_zero, List.set_cons_succ]
              refine wpAnyH_take (i := 5) (v := .pointer (some ⟨ob, 1, none⟩)) rfl (by kernel_rfl) (by kernel_rfl) (by kernel_rfl) (fun _ _ _ h => h) (Or.inl ⟨by rfl, fun Wz hW => by obtain ⟨p0, p1, p2⟩ := hW; go_simp⟩) hHeld ?_
              simp only [Act.put, List.getElem_toArray, List.getElem_cons_succ, List.getElem_cons_zero, List.setIfInBounds_toArray, List.set_cons_zero, List.set_cons_succ]
              refine wpAnyH_take (i := 6) (v := .int .i64 o.id) rfl (by kernel_rfl) (by kernel_rfl) (by kernel_rfl) (fun _ _ _ h => h) (Or.inl ⟨by rfl, fun Wz hW => by obtain ⟨p0, p1, p2⟩ := hW; go_simp⟩) hHeld ?_
              simp only [Act.put, List.getElem_toArray, List.getElem_cons_succ, List.getElem_cons_zero, List.setIfInBounds_toArray, List.set_cons_zero, List.set_cons_succ]
              refine wpAnyH_take (i := 7) (v := .bool false) rfl (by kernel_rfl) (by kernel_rfl) (by kernel_rfl) (fun _ _ _ h => h) (Or.inl ⟨by rfl, fun Wz hW => by obtain ⟨p0, p1, p2⟩ := hW; go_simp⟩) hHeld ?_
              simp only [Act.put, List.getElem_toArray, List.getElem_cons_succ, List.getElem_cons_zero, List.setIfInBounds_toArray, List.set_cons_zero, List.set_cons_succ]
              refine wpAnyH_take (i := 8) (v := .bool false) rfl (by kernel_rfl) (by kernel_rfl) (by kernel_rfl) (fun _ _ _ h => h) (Or.inl ⟨by rfl, fun Wz hW => by obtain ⟨p0, p1, p2⟩ := hW; go_simp⟩) hHeld ?_
              simp only [Act.put, List.getElem_toArray, List.getElem_cons_succ, List.getElem_cons_zero, List.setIfInBounds_toArray, List.set_cons_zero, List.set_cons_succ]
              refine wpAnyH_take (i := 9) (v := undef) rfl (by kernel_rfl) (by kernel_rfl) (by kernel_rfl) (fun _ _ _ h => h) (Or.inr ⟨by rfl, rfl⟩) hHeld ?_
              simp only [Act.put, List.getElem_toArray, List.getElem_cons_succ, List.getElem_cons_zero, List.setIfInBounds_toArray, List.set_cons_zero, List.set_cons_succ]
              refine wpAnyH_take (i := 10) (v := undef) rfl (by kernel_rfl) (by kernel_rfl) (by kernel_rfl) (fun _ _ _ h => h) (Or.inr ⟨by rfl, rfl⟩) hHeld ?_
              simp only [Act.put, List.getElem_toArray, List.getElem_cons_succ, List.getElem_cons_zero, List.setIfInBounds_toArray, List.set_cons_zero, List.set_cons_succ]
              refine wpAnyH_take (i := 11) (v := undef) rfl (by kernel_rfl) (by kernel_rfl) (by kernel_rfl) (fun _ _ _ h => h) (Or.inr ⟨by rfl, rfl⟩) hHeld ?_
              simp only [Act.put, List.getElem_toArray, List.getElem_cons_succ, List.getElem_cons_zero, List.setIfInBounds_toArray, List.set_cons_zero, List.set_cons_succ]
              refine wpAnyH_take (i := 12) (v := undef) rfl (by kernel_rfl) (by kernel_rfl) (by kernel_rfl) (fun _ _ _ h => h) (Or.inr ⟨by rfl, rfl⟩) hHeld ?_
              simp only [Act.put, List.getElem_toArray, List.getElem_cons_succ, List.getElem_cons_zero, List.setIfInBounds_toArray, List.set_cons_zero, List.set_cons_succ]
              refine wpAnyH_take (i := 13) (v := undef) rfl (by kernel_rfl) (by kernel_rfl) (by kernel_rfl) (fun _ _ _ h => h) (Or.inr ⟨by rfl, rfl⟩) hHeld ?_
              simp only [Act.put, List.getElem_toArray, List.getElem_cons_succ, List.getElem_cons_zero, List.setIfInBounds_toArray, List.set_cons_zero, List.set_cons_succ]
              refine wpAnyH_take (i := 14) (v := undef) rfl (by kernel_rfl) (by kernel_rfl) (by kernel_rfl) (fun _ _ _ h => h) (Or.inr ⟨by rfl, rfl⟩) hHeld ?_
              simp only [Act.put, List.getElem_toArray, List.getElem_cons_succ, List.getElem_cons_zero, List.setIfInBounds_toArray, List.set_cons_zero, List.set_cons_succ]
              refine wpAnyH_take (i := 15) (v := undef) rfl (by kernel_rfl) (by kernel_rfl) (by kernel_rfl) (fun _ _ _ h => h) (Or.inr ⟨by rfl, rfl⟩) hHeld ?_
              simp only [Act.put, List.getElem_toArray, List.getElem_cons_succ, List.getElem_cons_zero, List.setIfInBounds_toArray, List.set_cons_zero, List.set_cons_succ]
              refine wpAnyH_take (i := 16) (v := undef) rfl (by kernel_rfl) (by kernel_rfl) (by kernel_rfl) (fun _ _ _ h => h) (Or.inr ⟨by rfl, rfl⟩) hHeld ?_
              simp only [Act.put, List.getElem_toArray, List.getElem_cons_succ, List.getElem_cons_zero, List.setIfInBounds_toArray, List.set_cons_zero, List.set_cons_succ]
              refine wpAnyH_take (i := 17) (v := undef) rfl (by kernel_rfl) (by kernel_rfl) (by kernel_rfl) (fun _ _ _ h => h) (Or.inr ⟨by rfl, rfl⟩) hHeld ?_
              simp only [Act.put, List.getElem_toArray, List.getElem_cons_succ, List.getElem_cons_zero, List.setIfInBounds_toArray, List.set_cons_zero, List.set_cons_succ]
              refine wpAnyH_take (i := 18) (v := undef) rfl (by kernel_rfl) (by kernel_rfl) (by kernel_rfl) (fun _ _ _ h => h) (Or.inr ⟨by rfl, rfl⟩) hHeld ?_
              simp only [Act.put, List.getElem_toArray, List.getElem_cons_succ, List.getElem_cons_zero, List.setIfInBounds_toArray, List.set_cons_zero, List.set_cons_succ]
              refine wpAnyH_take (i := 19) (v := undef) rfl (by kernel_rfl) (by kernel_rfl) (by kernel_rfl) (fun _ _ _ h => h) (Or.inr ⟨by rfl, rfl⟩) hHeld ?_
              simp only [Act.put, List.getElem_toArray, List.getElem_cons_succ, List.getElem_cons_zero, List.setIfInBounds_toArray, List.set_cons_zero, List.set_cons_succ]
              refine wpAnyH_take (i := 20) (v := undef) rfl (by kernel_rfl) (by kernel_rfl) (by kernel_rfl) (fun _ _ _ h => h) (Or.inr ⟨by rfl, rfl⟩) hHeld ?_
              simp only [Act.put, List.getElem_toArray, List.getElem_cons_succ, List.getElem_cons_zero, List.setIfInBounds_toArray, List.set_cons_zero, List.set_cons_succ]
              refine wpAnyH_take (i := 21) (v := undef) rfl (by kernel_rfl) (by kernel_rfl) (by kernel_rfl) (fun _ _ _ h => h) (Or.inr ⟨by rfl, rfl⟩) hHeld ?_
              simp only [Act.put, List.getElem_toArray, List.getElem_cons_succ, List.getElem_cons_zero, List.setIfInBounds_toArray, List.set_cons_zero, List.set_cons_succ]
              refine wpAnyH_take (i := 22) (v := undef) rfl (by kernel_rfl) (by kernel_rfl) (by kernel_rfl) (fun _ _ _ h => h) (Or.inr ⟨by rfl, rfl⟩) hHeld ?_
              simp only [Act.put, List.getElem_toArray, List.getElem_cons_succ, List.getElem_cons_zero, List.setIfInBounds_toArray, List.set_cons_zero, List.set_cons_succ]
              refine wpAnyH_take (i := 23) (v := .bool false) rfl (by kernel_rfl) (by kernel_rfl) (by kernel_rfl) (fun _ _ _ h => h) (Or.inl ⟨by rfl, fun Wz hW => by obtain ⟨p0, p1, p2⟩ := hW; go_simp⟩) hHeld ?_
              simp only [Act.put, List.getElem_toArray, List.getElem_cons_succ, List.getElem_cons_zero, List.setIfInBounds_toArray, List.set_cons_zero, List.set_cons_succ]
              refine wpAnyH_done (by kernel_rfl) ?_ _
              clear z0 z2 y1
              go_wp2
              go_roundg (N - (k + 1))
              case measure => omega
              case rel => exact ⟨k + 1, hlk, rfl, by go_num, KQ.out.trans (by repeat (with_reducible first | exact Keep.refl wr | apply Keep.alloc | apply Keep.drew | apply Keep.drewN | (refine Keep.trans ?_ k5.out) | (refine Keep.trans ?_ k6.out)))⟩
            · replace cU := Lib.hid (cU.out hne)
              go_wp2_with fail
              have HELD : ∀ Wz, Keep wr Wz → (Wz.cell? ⟨b, off + k * 3, none⟩ = some (.int .i64 xk) ∧ Wz.cell? ⟨b, off + k * 3 + 2, none⟩ = some (.slice xB 2 xd) ∧ Wz.cell? ⟨ob, 1, none⟩ = some (.int .i64 o.id)) := fun Wz KK => ⟨KK.cell z0, KK.cell z2, KK.cell y1⟩
              refine wp_region_held_drew (S := fun w' => w'.cell? ⟨b, off + k * 3, none⟩ = some (.int .i64 xk) ∧ w'.cell? ⟨b, off + k * 3 + 2, none⟩ = some (.slice xB 2 xd) ∧ w'.cell? ⟨ob, 1, none⟩ = some (.int .i64 o.id)) (by kernel_rfl) ?_ (fun hHeld => ?_)
              · exact HELD _ (by repeat (with_reducible first | exact Keep.refl wr | apply Keep.alloc | apply Keep.drew | apply Keep.drewN | (refine Keep.trans ?_ k5.out) | (refine Keep.trans ?_ k6.out)))
              refine wpAnyH_take (i := 0) (v := .slice (some ⟨b, off, none⟩) N cp) rfl (by kernel_rfl) (by kernel_rfl) (by kernel_rfl) (fun _ _ _ h => h) (Or.inl ⟨by rfl, fun Wz hW => by obtain ⟨p0, p1, p2⟩ := hW; go_simp⟩) hHeld ?_
              simp only [Act.put, List.getElem_toArray, List.getElem_cons_zero, List.setIfInBounds_toArray, List.set_cons_zero, List.set_cons_succ]
              refine wpAnyH_take (i := 1) (v := .int .i64 k) rfl (by kernel_rfl) (by kernel_rfl) (by kernel_rfl) (fun _ _ _ h => h) (Or.inl ⟨by rfl, fun Wz hW => by obtain ⟨p0, p1, p2⟩ := hW; go_simp⟩) hHeld ?_
              simp only [Act.put, List.getElem_toArray, List.getElem_cons_succ, List.getElem_cons_zero, List.setIfInBounds_toArray, List.set_cons_zero, List.set_cons_succ]
              refine wpAnyH_take (i := 2) (v := .pointer (some ⟨b, off + k * 3, none⟩)) rfl (by kernel_rfl) (by kernel_rfl) (by kernel_rfl) (fun _ _ _ h => h) (Or.inl ⟨by rfl, fun Wz hW => by obtain ⟨p0, p1, p2⟩ := hW; go_simp⟩) hHeld ?_
              simp only [Act.put, List.getElem_toArray, List.getElem_cons_succ, List.getElem_cons_zero, List.setIfInBounds_toArray, List.set_cons_zero, List.set_cons_succ]
              refine wpAnyH_take (i := 3) (v := .pointer (some ⟨b, off + k * 3, none⟩)) rfl (by kernel_rfl) (by kernel_rfl) (by kernel_rfl) (fun _ _ _ h => h) (Or.inl ⟨by rfl, fun Wz hW => by obtain ⟨p0, p1, p2⟩ := hW; go_simp⟩) hHeld ?_
              simp only [Act.put, List.getElem_toArray, List.getElem_cons_succ, List.getElem_cons_zero, List.setIfInBounds_toArray, List.set_cons_zero, List.set_cons_succ]
              refine wpAnyH_take (i := 4) (v := .int .i64 xk) rfl (by kernel_rfl) (by kernel_rfl) (by kernel_rfl) (fun _ _ _ h => h) (Or.inl ⟨by rfl, fun Wz hW => by obtain ⟨p0, p1, p2⟩ := hW; go_simp⟩) hHeld ?_
              simp only [Act.put, List.getElem_toArray, List.getElem_cons_succ, List.getElem_cons_zero, List.setIfInBounds_toArray, List.set_cons_zero, List.set_cons_succ]
              refine wpAnyH_take (i := 5) (v := .pointer (some ⟨ob, 1, none⟩)) rfl (by kernel_rfl) (by kernel_rfl) (by kernel_rfl) (fun _ _ _ h => h) (Or.inl ⟨by rfl, fun Wz hW => by obtain ⟨p0, p1, p2⟩ := hW; go_simp⟩) hHeld ?_
              simp only [Act.put, List.getElem_toArray, List.getElem_cons_succ, List.getElem_cons_zero, List.setIfInBounds_toArray, List.set_cons_zero, List.set_cons_succ]
              refine wpAnyH_take (i := 6) (v := .int .i64 o.id) rfl (by kernel_rfl) (by kernel_rfl) (by kernel_rfl) (fun _ _ _ h => h) (Or.inl ⟨by rfl, fun Wz hW => by obtain ⟨p0, p1, p2⟩ := hW; go_simp⟩) hHeld ?_
              simp only [Act.put, List.getElem_toArray, List.getElem_cons_succ, List.getElem_cons_zero, List.setIfInBounds_toArray, List.set_cons_zero, List.set_cons_succ]
              refine wpAnyH_take (i := 7) (v := .bool true) rfl (by kernel_rfl) (by kernel_rfl) (by kernel_rfl) (fun _ _ _ h => h) (Or.inl ⟨by rfl, fun Wz hW => by obtain ⟨p0, p1, p2⟩ := hW; go_simp⟩) hHeld ?_
              simp only [Act.put, List.getElem_toArray, List.getElem_cons_succ, List.getElem_cons_zero, List.setIfInBounds_toArray, List.set_cons_zero, List.set_cons_succ]
              refine wpAnyH_take (i := 8) (v := .bool true) rfl (by kernel_rfl) (by kernel_rfl) (by kernel_rfl) (fun _ _ _ h => h) (Or.inl ⟨by rfl, fun Wz hW => by obtain ⟨p0, p1, p2⟩ := hW; go_simp⟩) hHeld ?_
              simp only [Act.put, List.getElem_toArray, List.getElem_cons_succ, List.getElem_cons_zero, List.setIfInBounds_toArray, List.set_cons_zero, List.set_cons_succ]
              refine wpAnyH_take (i := 9) (v := .pointer (some ⟨q, 0, none⟩)) rfl (by kernel_rfl) (by kernel_rfl) (by kernel_rfl) (fun _ _ _ h => h) (Or.inl ⟨by rfl, fun Wz hW => by obtain ⟨p0, p1, p2⟩ := hW; go_simp⟩) hHeld ?_
              simp only [Act.put, List.getElem_toArray, List.getElem_cons_succ, List.getElem_cons_zero, List.setIfInBounds_toArray, List.set_cons_zero, List.set_cons_succ]
              refine wpAnyH_take (i := 10) (v := .slice (some ⟨b, off, none⟩) N cp) rfl (by kernel_rfl) (by kernel_rfl) (by kernel_rfl) (fun _ _ _ h => h) (Or.inl ⟨by rfl, fun Wz hW => by obtain ⟨p0, p1, p2⟩ := hW; go_simp⟩) hHeld ?_
              simp only [Act.put, List.getElem_toArray, List.getElem_cons_succ, List.getElem_cons_zero, List.setIfInBounds_toArray, List.set_cons_zero, List.set_cons_succ]
              refine wpAnyH_take (i := 11) (v := .int .i64 k) rfl (by kernel_rfl) (by kernel_rfl) (by kernel_rfl) (fun _ _ _ h => h) (Or.inl ⟨by rfl, fun Wz hW => by obtain ⟨p0, p1, p2⟩ := hW; go_simp⟩) hHeld ?_
              simp only [Act.put, List.getElem_toArray, List.getElem_cons_succ, List.getElem_cons_zero, List.setIfInBounds_toArray, List.set_cons_zero, List.set_cons_succ]
              refine wpAnyH_take (i := 12) (v := .pointer (some ⟨b, off + k * 3, none⟩)) rfl (by kernel_rfl) (by kernel_rfl) (by kernel_rfl) (fun _ _ _ h => h) (Or.inl ⟨by rfl, fun Wz hW => by obtain ⟨p0, p1, p2⟩ := hW; go_simp⟩) hHeld ?_
              simp only [Act.put, List.getElem_toArray, List.getElem_cons_succ, List.getElem_cons_zero, List.setIfInBounds_toArray, List.set_cons_zero, List.set_cons_succ]
              refine wpAnyH_take (i := 13) (v := .pointer (some ⟨b, off + k * 3, none⟩)) rfl (by kernel_rfl) (by kernel_rfl) (by kernel_rfl) (fun _ _ _ h => h) (Or.inl ⟨by rfl, fun Wz hW => by obtain ⟨p0, p1, p2⟩ := hW; go_simp⟩) hHeld ?_
              simp only [Act.put, List.getElem_toArray, List.getElem_cons_succ, List.getElem_cons_zero, List.setIfInBounds_toArray, List.set_cons_zero, List.set_cons_succ]
              refine wpAnyH_take (i := 14) (v := .int .i64 xk) rfl (by kernel_rfl) (by kernel_rfl) (by kernel_rfl) (fun _ _ _ h => h) (Or.inl ⟨by rfl, fun Wz hW => by obtain ⟨p0, p1, p2⟩ := hW; go_simp⟩) hHeld ?_
              simp only [Act.put, List.getElem_toArray, List.getElem_cons_succ, List.getElem_cons_zero, List.setIfInBounds_toArray, List.set_cons_zero, List.set_cons_succ]
              refine wpAnyH_take (i := 16) (v := .slice (some ⟨b, off, none⟩) N cp) rfl (by kernel_rfl) (by kernel_rfl) (by kernel_rfl) (fun _ _ _ h => h) (Or.inl ⟨by rfl, fun Wz hW => by obtain ⟨p0, p1, p2⟩ := hW; go_simp⟩) hHeld ?_
              simp only [Act.put, List.getElem_toArray, List.getElem_cons_succ, List.getElem_cons_zero, List.setIfInBounds_toArray, List.set_cons_zero, List.set_cons_succ]
              refine wpAnyH_take (i := 17) (v := .int .i64 k) rfl (by kernel_rfl) (by kernel_rfl) (by kernel_rfl) (fun _ _ _ h => h) (Or.inl ⟨by rfl, fun Wz hW => by obtain ⟨p0, p1, p2⟩ := hW; go_simp⟩) hHeld ?_
              simp only [Act.put, List.getElem_toArray, List.getElem_cons_succ, List.getElem_cons_zero, List.setIfInBounds_toArray, List.set_cons_zero, List.set_cons_succ]
              refine wpAnyH_take (i := 18) (v := .pointer (some ⟨b, off + k * 3, none⟩)) rfl (by kernel_rfl) (by kernel_rfl) (by kernel_rfl) (fun _ _ _ h => h) (Or.inl ⟨by rfl, fun Wz hW => by obtain ⟨p0, p1, p2⟩ := hW; go_simp⟩) hHeld ?_
              simp only [Act.put, List.getElem_toArray, List.getElem_cons_succ, List.getElem_cons_zero, List.setIfInBounds_toArray, List.set_cons_zero, List.set_cons_succ]
              refine wpAnyH_take (i := 19) (v := .pointer (some ⟨b, off + k * 3 + 2, none⟩)) rfl (by kernel_rfl) (by kernel_rfl) (by kernel_rfl) (fun _ _ _ h => h) (Or.inl ⟨by rfl, fun Wz hW => by obtain ⟨p0, p1, p2⟩ := hW; go_simp⟩) hHeld ?_
              simp only [Act.put, List.getElem_toArray, List.getElem_cons_succ, List.getElem_cons_zero, List.setIfInBounds_toArray, List.set_cons_zero, List.set_cons_succ]
              refine wpAnyH_take (i := 20) (v := .slice xB 2 xd) rfl (by kernel_rfl) (by kernel_rfl) (by kernel_rfl) (fun _ _ _ h => h) (Or.inl ⟨by rfl, fun Wz hW => by obtain ⟨p0, p1, p2⟩ := hW; go_simp⟩) hHeld ?_
              simp only [Act.put, List.getElem_toArray, List.getElem_cons_succ, List.getElem_cons_zero, List.setIfInBounds_toArray, List.set_cons_zero, List.set_cons_succ]
              refine wpAnyH_ready (rs := [15]) (by kernel_rfl) (by simp) ?_
              refine AllReadyH.cons rfl (fun K hK => ?_) AllReadyH.nil
              simp only [List.getElem_toArray, List.getElem_cons_succ, List.getElem_cons_zero]
              rw [if_pos (by rfl)]
              go_simp
              refine (cU.out _ (by repeat (with_reducible first | exact Keep.refl wr | apply Keep.alloc | apply Keep.drew | apply Keep.drewN | (refine Keep.trans ?_ k5.out) | (refine Keep.trans ?_ k6.out)))).mono ?_
              rintro e w5 ⟨A5, d5, rfl, r5, k5⟩; replace k5 := Lib.hid k5; replace r5 := Lib.hid r5
              go_wp2_with fail
              refine hK.out _ _ ?_ (fun hHeld => ?_)
              · exact HELD _ (by repeat (with_reducible first | exact Keep.refl wr | apply Keep.alloc | apply Keep.drew | apply Keep.drewN | (refine Keep.trans ?_ k5.out) | (refine Keep.trans ?_ k6.out)))
              clear hK K
              try simp only [Act.put, List.getElem_toArray, List.getElem_cons_succ, List.getElem_cons_zero, List.setIfInBounds_toArray, List.set_cons_zero, List.set_cons_succ]
              refine wpAnyH_ready (rs := [21]) (by kernel_rfl) (by simp) ?_
              refine AllReadyH.cons rfl (fun K hK => ?_) AllReadyH.nil
              simp only [List.getElem_toArray, List.getElem_cons_succ, List.getElem_cons_zero]
              rw [if_pos (by rfl)]
              go_simp
              refine (cS.out _ A5 d5 (by repeat (with_reducible first | exact Keep.refl wr | apply Keep.alloc | apply Keep.drew | apply Keep.drewN | (refine Keep.trans ?_ k5.out) | (refine Keep.trans ?_ k6.out))) r5.out).mono ?_
              rintro e w6 ⟨rfl, k6⟩; replace k6 := Lib.hid k6
              go_wp2_with fail
              refine hK.out _ _ ?_ (fun hHeld => ?_)
              · exact HELD _ (by repeat (with_reducible first | exact Keep.refl wr | apply Keep.alloc | apply Keep.drew | apply Keep.drewN | (refine Keep.trans ?_ k5.out) | (refine Keep.trans ?_ k6.out)))
              clear hK K
              try simp only [Act.put, List.getElem_toArray, List.getElem_cons_succ, List.getElem_cons_zero, List.setIfInBounds_toArray, List.set_cons_zero, List.set_cons_succ]
              refine wpAnyH_take (i := 22) (v := .bool false) rfl (by kernel_rfl) (by kernel_rfl) (by kernel_rfl) (fun _ _ _ h => h) (Or.inl ⟨by rfl, fun Wz hW => by obtain ⟨p0, p1, p2⟩ := hW; go_simp⟩) hHeld ?_
              simp only [Act.put, List.getElem_toArray, List.getElem_cons_succ, List.getElem_cons_zero, List.setIfInBounds_toArray, List.set_cons_zero, List.set_cons_succ]
              refine wpAnyH_take (i := 23) (v := .bool false) rfl (by kernel_rfl) (by kernel_rfl) (by kernel_rfl) (fun _ _ _ h => h) (Or.inl ⟨by rfl, fun Wz hW => by obtain ⟨p0, p1, p2⟩ := hW; go_simp⟩) hHeld ?_
              simp only [Act.put, List.getElem_toArray, List.getElem_cons_succ, List.getElem_cons_zero, List.setIfInBounds_toArray, List.set_cons_zero, List.set_cons_succ]
              refine wpAnyH_done (by kernel_rfl) ?_ _
              clear z0 z2 y1
              clear cU cS
              go_wp2
              go_roundg (N - (k + 1))
              case measure => omega
              case rel => exact ⟨k + 1, hlk, rfl, by go_num, KQ.out.trans (by repeat (with_reducible first | exact Keep.refl wr | apply Keep.alloc | apply Keep.drew | apply Keep.drewN | (refine Keep.trans ?_ k5.out) | (refine Keep.trans ?_ k6.out)))⟩
          · obtain rfl : k = N := by omega
            have cI := own_ids C (O3.out.keep C KQ.out) (n := k) lenM.out (Z := fun j => (nrow M j).k) (fun _ _ => rfl)
            replace cI := Lib.hid cI
            go_wp2_with fail
            refine cI.out.mono ?_
            rintro e w5 ⟨A5, d5, rfl, r5, k5⟩
            have KE : Hid (Keep w w5) := K0.out.trans ((O3.out.kp.trans KQ.out).trans k5)
            replace r5 := Lib.hid r5
            replace k5 := Lib.hid k5
            clear cI
            go_wp2
            go_ret
            exact ⟨rfl, KE.out⟩
end Go.Proofs.YtokopegffeablaaGreatDoor.T12
