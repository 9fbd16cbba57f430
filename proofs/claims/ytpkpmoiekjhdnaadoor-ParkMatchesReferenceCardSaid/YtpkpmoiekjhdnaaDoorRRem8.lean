/-
  The reference's Remove. Condition: at most 1000 pods.
-/
import Derived.Test.YtpkpmoiekjhdnaaDoorRLot8
import Derived.Deep.RegionHeld3
namespace Go.Proofs.YtpkpmoiekjhdnaaDoor
open Go.RowKit Go.Sort Go.Lib Go.Shelf

/-! ### A block of the reference's lot beside rows that grow -/
section
variable {w wr W w3 : World} {b base n z : Nat} {cs : Array Value} {fr : Nat × Nat} {T : TypeId} {v : Value} {xs : List Value}
theorem lot_row (h : w.heap[b]? = some (.cells cs 30 fr)) (o : w.ownsRow base T z v n xs) (hT : T ≠ 30) : some b ≠ v.ownBlock := by
  intro e
  obtain ⟨cur, hk⟩ := row_kind o e.symm
  rw [h] at hk
  injection hk with hk
  injection hk with _ hk
  exact hT hk.symm
theorem far_lot (h : wr.heap[b]? = some (.cells cs 30 fr)) (o : wr.ownsRow base T z v n xs) (hT : T ≠ 30) (hg : W.grownBy w3 v.ownBlock) (k : Keep wr W) : w3.heap[b]? = some (.cells cs 30 fr) :=
  (hg.block b (Array.getElem?_eq_some_iff.1 (k.block h)).1 (lot_row h o hT)).trans (k.block h)
theorem far_own {base' n' z' : Nat} {T' : TypeId} {v' : Value} {xs' : List Value} (h : wr.ownsRow base' T' z' v' n' xs') (o : wr.ownsRow base T z v n xs) (hT : T' ≠ T) (hg : W.grownBy w3 v.ownBlock) (k : Keep wr W) : w3.ownsRow base' T' z' v' n' xs' :=
  World.ownsRow.kept (own_keep h k) hg (rows_apart (own_keep h k) (own_keep o k) hT)
theorem far_keep (h : Keep w wr) (o : wr.ownsRow base T z v n xs) (hb : w.heap.size ≤ base) (hg : W.grownBy w3 v.ownBlock) (k : Keep wr W) : Keep w w3 :=
  keep_grown (h.trans k) hg fun g e => Nat.le_trans hb (o.lt g e).1
theorem set_own (h : w.heap[b]? = some (.cells cs 30 fr)) (o : w.ownsRow base T z v n xs) (hT : T ≠ 30) (i : Nat) (u : Value) : (w.setCell ⟨b, i, none⟩ u).ownsRow base T z v n xs :=
  own_blocks1 o fun g hg => Below.heap_setCell w _ u g fun e => lot_row h o hT (by rw [hg]; exact congrArg some (Eq.symm e))
end

set_option maxRecDepth 100000 in
set_option maxHeartbeats 8000000 in
theorem rremove8_fn (A : Option Addr) (n c : Nat) (S : Nat → PodV) (A2 : Option Addr) (c2 : Nat) (Z : Nat → Int) (id : Int) (w : World) (hR : RdPods w A n S) (hR2 : Rd w A2 n Z) (hn : n ≤ 1000) :
    Calls Tryd.prog 27 #[.agg #[.slice A n c, .slice A2 n c2], .int .i64 id] w fun e w' => ∃ B k d B2 d2 T Y, e = .returned (.agg #[.slice B k d, .slice B2 k d2]) ∧ Keep w w' ∧ RdPods w' B k T ∧ Rd w' B2 k Y ∧ prZ T Y k = (prZ S Z n).filter (fun y => decide (y.1.k ≠ id)) ∧ (∀ b off, B = some ⟨b, off, none⟩ → w.heap.size ≤ b) ∧ (∀ b off, B2 = some ⟨b, off, none⟩ → w.heap.size ≤ b) ∧ (B = none → k = 0 ∧ d = 0) ∧ (B2 = none → k = 0 ∧ d2 = 0) ∧ k ≤ d := by
  have mixed : Tryd.prog.follows .mixedOrders = true := by kernel_rfl
  replace hR := Lib.hid hR
  replace hR2 := Lib.hid hR2
  obtain ⟨s0, hs0⟩ : ∃ s0, s0 = w.heap.size := ⟨_, rfl⟩
  obtain ⟨W0, hW0⟩ : ∃ W, W = ((w.alloc (.cells #[.slice A n c, .slice A2 n c2] 30)).alloc (.cells #[.slice none 0 0, .slice none 0 0] 30)).alloc (.cells #[.slice none 0 0, .slice none 0 0] 30) := ⟨_, rfl⟩
  have z1 : (w.alloc (.cells #[.slice A n c, .slice A2 n c2] 30)).heap.size = s0 + 1 := by rw [World.size_alloc, hs0]
  have z2 : ((w.alloc (.cells #[.slice A n c, .slice A2 n c2] 30)).alloc (.cells #[.slice none 0 0, .slice none 0 0] 30)).heap.size = s0 + 1 + 1 := by rw [World.size_alloc, z1]
  have K0 : Hid (Keep w W0) := by rw [hW0]; exact ((Keep.one _ _).alloc _).alloc _
  have a0 : Hid (W0.heap[s0]? = some (.cells #[.slice A n c, .slice A2 n c2] 30 (0, 0))) := by
    show _ = _
    rw [hW0, hs0]
    exact (Keep.one _ _).block ((Keep.one _ _).block (heap_alloc_new w _))
  have a1 : Hid (W0.heap[s0 + 1]? = some (.cells #[.slice none 0 0, .slice none 0 0] 30 (0, 0))) := by
    show _ = _
    rw [hW0, ← z1]
    exact (Keep.one _ _).block (heap_alloc_new _ _)
  have a2 : Hid (W0.heap[s0 + 1 + 1]? = some (.cells #[.slice none 0 0, .slice none 0 0] 30 (0, 0))) := by
    show _ = _
    rw [hW0, ← z2]
    exact heap_alloc_new _ _
  replace z1 := Lib.hid z1
  replace z2 := Lib.hid z2
  go_enter Tryd.func27, Tryd.ntmps27
  go_wp2_with fail
  rw [← hs0, ← hW0]
  replace hs0 := Lib.hid hs0
  replace hW0 := Lib.hid hW0
  go_loopg [6] n (fun gx s6 wr => ∃ (j k : Nat) (B : Option Addr) (d : Nat) (B2 : Option Addr) (d2 : Nat) (T : Nat → PodV) (Y : Nat → Int), j ≤ n ∧ gx = n - j ∧ s6 = .int .i64 j ∧ k ≤ j ∧ Hid (Keep w wr) ∧ Hid (wr.heap[s0]? = some (.cells #[.slice A n c, .slice A2 n c2] 30 (0, 0))) ∧ Hid (wr.heap[s0 + 1]? = some (.cells #[.slice none 0 0, .slice none 0 0] 30 (0, 0))) ∧ Hid (wr.heap[s0 + 1 + 1]? = some (.cells #[.slice B k d, .slice B2 k d2] 30 (0, 0))) ∧ Hid (wr.ownsRow s0 35 9 (.slice B k d) k (podCs T k)) ∧ Hid (wr.ownsRow s0 3 1 (.slice B2 k d2) k (rowL k Y)) ∧ Hid (prZ T Y k = (prZ S Z j).filter (fun y => decide (y.1.k ≠ id))))
  case atStart => exact ⟨0, 0, none, 0, none, 0, fun _ => zpod, fun _ => 0, Nat.zero_le _, rfl, rfl, Nat.le_refl _, K0, a0, a1, a2, World.ownsRow_nil _ _ _ _, World.ownsRow_nil _ _ _ _, rfl⟩
  case round =>
    clear a0 a1 a2 K0
    obtain ⟨j, k, B, d, B2, d2, T, Y, hj, rfl, rfl, hk, K, a0, a1, a2, RW, RN, LT⟩ := hrel
    have l0 : s0 < wr.heap.size := (Array.getElem?_eq_some_iff.1 a0.out).1
    have l2 : s0 + 1 + 1 < wr.heap.size := (Array.getElem?_eq_some_iff.1 a2.out).1
    have o0 : wr.cell? ⟨s0, 0, none⟩ = some (.slice A n c) := by rw [cell_of_row wr _ _ _ _ _ a0.out]; rfl
    have o1 : wr.cell? ⟨s0, 1, none⟩ = some (.slice A2 n c2) := by rw [cell_of_row wr _ _ _ _ _ a0.out]; rfl
    by_cases hlt : j < n
    · obtain ⟨b, off, hA, ca⟩ := hR.out.adr (by omega)
      obtain ⟨bz, oz, hA2, cz⟩ := hR2.out.adr (by omega)
      subst hA
      subst hA2
      have q1 := pods_at b off n c j hlt
      have q2 := ints_at bz oz n c2 j hlt
      have Xw := ca j hlt
      have X := Xw.keep K.out
      have z0w := cz j hlt
      have Xz := K.out.cell z0w
      have hz0 := cell_lt X.e0
      have hzz := cell_lt Xz
      simp only at hz0 hzz
      clear ca cz
      have ls := prZ_succ S Z j
      obtain ⟨x, hx⟩ : ∃ x, x = S j := ⟨_, rfl⟩
      obtain ⟨z, hz⟩ : ∃ z, z = Z j := ⟨_, rfl⟩
      rw [← hx] at X Xw ls
      rw [← hz] at Xz z0w ls
      replace hx := Lib.hid hx
      replace hz := Lib.hid hz
      replace ls := Lib.hid ls
      replace z0w := Lib.hid z0w
      replace Xw := Lib.hid Xw
      have x0 := X.e0; have x1 := X.e1; have x2 := X.e2; have x3 := X.e3; have x4 := X.e4; have x5 := X.e5; have x6 := X.e6; have x7 := X.e7; have x8 := X.e8
      clear X
      by_cases hk : x.k = id
      · have L2 : Hid (prZ T Y k = (prZ S Z (j + 1)).filter (fun y => decide (y.1.k ≠ id))) := by
          show _ = _
          rw [ls.out, List.filter_append, ← LT.out, List.filter_cons_of_neg (by simp [hk]), List.filter_nil, List.append_nil]
        go_wp2
        go_roundg (n - (j + 1))
        case measure => omega
        case rel => exact ⟨j + 1, k, B, d, B2, d2, T, Y, hlt, rfl, by go_num, by omega, K, a0, a1, a2, RW, RN, L2⟩
      · have L2 : Hid (prZ (put T k x) (putZ Y k z) (k + 1) = (prZ S Z (j + 1)).filter (fun y => decide (y.1.k ≠ id))) := by
          show _ = _
          rw [ls.out, List.filter_append, ← LT.out, List.filter_cons_of_pos (by simp [hk]), List.filter_nil, prZ_put]
        have p0 : wr.cell? ⟨s0 + 1 + 1, 0, none⟩ = some (.slice B k d) := by rw [cell_of_row wr _ _ _ _ _ a2.out]; rfl
        have f0 : wr.frozen? ⟨s0 + 1 + 1, 0, none⟩ = false := frozen_of_row wr _ _ _ _ a2.out
        have gsz : Hid (s0 ≤ wr.heap.size) := by show _ ≤ _; omega
        go_wp2_with fail
        go_region_law (first
          | (refine step_own rfl (.tmp 24) (.tmp 30) rfl s0 (.slice B k d) k (podCs T k) (by simp [Act.eval]) (own_keep RW.out (by repeat (first | exact Keep.refl _ | apply Keep.alloc | apply Keep.drew))) (.slice (some ⟨wr.heap.size, 0, none⟩) 1 1) 1 x.cells (by simp [Act.eval]) (src_one (heap_alloc_new _ _)) (cells_one _) (by omega) (by have := gsz.out; simp; omega) (k + 1) rfl ?_
             intro v3 w3 hr3 hg3
             have a30 := far_lot a0.out RW.out (by decide) hg3 (by repeat (first | exact Keep.refl _ | apply Keep.alloc | apply Keep.drew))
             have a31 := far_lot a1.out RW.out (by decide) hg3 (by repeat (first | exact Keep.refl _ | apply Keep.alloc | apply Keep.drew))
             have a32 := far_lot a2.out RW.out (by decide) hg3 (by repeat (first | exact Keep.refl _ | apply Keep.alloc | apply Keep.drew))
             have RN3 := far_own RN.out RW.out (by decide) hg3 (by repeat (first | exact Keep.refl _ | apply Keep.alloc | apply Keep.drew))
             have K3 : Hid (Keep w w3) := far_keep K.out RW.out (Nat.le_of_eq hs0.out.symm) hg3 (by repeat (first | exact Keep.refl _ | apply Keep.alloc | apply Keep.drew))
             obtain ⟨B3, d3, hB3, _⟩ := own_form hr3
             subst hB3
             rw [← podCs_put] at hr3
             have y0 : w3.cell? ⟨s0 + 1 + 1, 0, none⟩ = some (.slice B k d) := by rw [cell_of_row w3 _ _ _ _ _ a32]; rfl
             have g0 : w3.frozen? ⟨s0 + 1 + 1, 0, none⟩ = false := frozen_of_row w3 _ _ _ _ a32
             have K4 : Hid (Keep w (w3.setCell ⟨s0 + 1 + 1, 0, none⟩ (.slice B3 (k + 1) d3))) := K3.out.set (show w.heap.size ≤ s0 + 1 + 1 by have := hs0.out; omega) _
             have a40 : Hid ((w3.setCell ⟨s0 + 1 + 1, 0, none⟩ (.slice B3 (k + 1) d3)).heap[s0]? = some (.cells #[.slice (some ⟨b, off, none⟩) n c, .slice (some ⟨bz, oz, none⟩) n c2] 30 (0, 0))) := (Below.heap_setCell w3 _ _ s0 (by show s0 ≠ s0 + 1 + 1; omega)).trans a30
             have a41 : Hid ((w3.setCell ⟨s0 + 1 + 1, 0, none⟩ (.slice B3 (k + 1) d3)).heap[s0 + 1]? = some (.cells #[.slice none 0 0, .slice none 0 0] 30 (0, 0))) := (Below.heap_setCell w3 _ _ (s0 + 1) (by show s0 + 1 ≠ s0 + 1 + 1; omega)).trans a31
             have a42 : Hid ((w3.setCell ⟨s0 + 1 + 1, 0, none⟩ (.slice B3 (k + 1) d3)).heap[s0 + 1 + 1]? = some (.cells #[.slice B3 (k + 1) d3, .slice B2 k d2] 30 (0, 0))) := heap_setCell_same w3 (s0 + 1 + 1) 0 _ _ (.slice B3 (k + 1) d3) a32
             have RW4 : Hid ((w3.setCell ⟨s0 + 1 + 1, 0, none⟩ (.slice B3 (k + 1) d3)).ownsRow s0 35 9 (.slice B3 (k + 1) d3) (k + 1) (podCs (put T k x) (k + 1))) := set_own a32 hr3 (by decide) 0 _
             have RN4 : Hid ((w3.setCell ⟨s0 + 1 + 1, 0, none⟩ (.slice B3 (k + 1) d3)).ownsRow s0 3 1 (.slice B2 k d2) k (rowL k Y)) := set_own a32 RN3 (by decide) 0 _
             replace hr3 := Lib.hid hr3
             replace hg3 := Lib.hid hg3
             replace a30 := Lib.hid a30
             replace a31 := Lib.hid a31
             replace a32 := Lib.hid a32
             replace RN3 := Lib.hid RN3))
        all_goals
          clear x0 x1 x2 x3 x4 x5 x6 x7 x8 q1 p0 f0 y0 g0 o0 o1 Xz l0 l2 hz0 hzz gsz
          generalize w3.setCell ⟨s0 + 1 + 1, 0, none⟩ (.slice B3 (k + 1) d3) = w4 at *
          have l0 : s0 < w4.heap.size := (Array.getElem?_eq_some_iff.1 a40.out).1
          have l2 : s0 + 1 + 1 < w4.heap.size := (Array.getElem?_eq_some_iff.1 a42.out).1
          have o1 : w4.cell? ⟨s0, 1, none⟩ = some (.slice (some ⟨bz, oz, none⟩) n c2) := by rw [cell_of_row w4 _ _ _ _ _ a40.out]; rfl
          have p1 : w4.cell? ⟨s0 + 1 + 1, 1, none⟩ = some (.slice B2 k d2) := by rw [cell_of_row w4 _ _ _ _ _ a42.out]; rfl
          have f1 : w4.frozen? ⟨s0 + 1 + 1, 1, none⟩ = false := frozen_of_row w4 _ _ _ _ a42.out
          have Xz := K4.out.cell z0w.out
          have hzz := cell_lt Xz
          simp only at hzz
          have gs4 : Hid (s0 ≤ w4.heap.size) := by show _ ≤ _; omega
          go_wp2_with fail
          go_region_law (first
            | (refine step_ownN rfl (.tmp 34) (.tmp 40) rfl s0 (.slice B2 k d2) k Y (by simp [Act.eval]) (own_keep RN4.out (by repeat (first | exact Keep.refl _ | apply Keep.alloc | apply Keep.drew))) (.slice (some ⟨w4.heap.size, 0, none⟩) 1 1) 1 (fun _ => z) (by simp [Act.eval]) (srcN_one (heap_alloc_new _ _)) (by omega) (by have := gs4.out; simp; omega) ?_
               intro v5 w5 hr5 hg5
               have a50 := far_lot a40.out RN4.out (by decide) hg5 (by repeat (first | exact Keep.refl _ | apply Keep.alloc | apply Keep.drew))
               have a51 := far_lot a41.out RN4.out (by decide) hg5 (by repeat (first | exact Keep.refl _ | apply Keep.alloc | apply Keep.drew))
               have a52 := far_lot a42.out RN4.out (by decide) hg5 (by repeat (first | exact Keep.refl _ | apply Keep.alloc | apply Keep.drew))
               have RW5 := far_own RW4.out RN4.out (by decide) hg5 (by repeat (first | exact Keep.refl _ | apply Keep.alloc | apply Keep.drew))
               have K5 : Hid (Keep w w5) := far_keep K4.out RN4.out (Nat.le_of_eq hs0.out.symm) hg5 (by repeat (first | exact Keep.refl _ | apply Keep.alloc | apply Keep.drew))
               obtain ⟨B5, d5, hB5, _⟩ := own_form hr5
               subst hB5
               rw [rowL_put] at hr5
               have y1 : w5.cell? ⟨s0 + 1 + 1, 1, none⟩ = some (.slice B2 k d2) := by rw [cell_of_row w5 _ _ _ _ _ a52]; rfl
               have g1 : w5.frozen? ⟨s0 + 1 + 1, 1, none⟩ = false := frozen_of_row w5 _ _ _ _ a52
               have K6 : Hid (Keep w (w5.setCell ⟨s0 + 1 + 1, 1, none⟩ (.slice B5 (k + 1) d5))) := K5.out.set (show w.heap.size ≤ s0 + 1 + 1 by have := hs0.out; omega) _
               have a60 : Hid ((w5.setCell ⟨s0 + 1 + 1, 1, none⟩ (.slice B5 (k + 1) d5)).heap[s0]? = some (.cells #[.slice (some ⟨b, off, none⟩) n c, .slice (some ⟨bz, oz, none⟩) n c2] 30 (0, 0))) := (Below.heap_setCell w5 _ _ s0 (by show s0 ≠ s0 + 1 + 1; omega)).trans a50
               have a61 : Hid ((w5.setCell ⟨s0 + 1 + 1, 1, none⟩ (.slice B5 (k + 1) d5)).heap[s0 + 1]? = some (.cells #[.slice none 0 0, .slice none 0 0] 30 (0, 0))) := (Below.heap_setCell w5 _ _ (s0 + 1) (by show s0 + 1 ≠ s0 + 1 + 1; omega)).trans a51
               have a62 : Hid ((w5.setCell ⟨s0 + 1 + 1, 1, none⟩ (.slice B5 (k + 1) d5)).heap[s0 + 1 + 1]? = some (.cells #[.slice B3 (k + 1) d3, .slice B5 (k + 1) d5] 30 (0, 0))) := heap_setCell_same w5 (s0 + 1 + 1) 1 _ _ (.slice B5 (k + 1) d5) a52
               have RW6 : Hid ((w5.setCell ⟨s0 + 1 + 1, 1, none⟩ (.slice B5 (k + 1) d5)).ownsRow s0 35 9 (.slice B3 (k + 1) d3) (k + 1) (podCs (put T k x) (k + 1))) := set_own a52 RW5 (by decide) 1 _
               have RN6 : Hid ((w5.setCell ⟨s0 + 1 + 1, 1, none⟩ (.slice B5 (k + 1) d5)).ownsRow s0 3 1 (.slice B5 (k + 1) d5) (k + 1) (rowL (k + 1) (putZ Y k z))) := set_own a52 hr5 (by decide) 1 _
               replace hr5 := Lib.hid hr5
               replace hg5 := Lib.hid hg5
               replace a50 := Lib.hid a50
               replace a51 := Lib.hid a51
               replace a52 := Lib.hid a52
               replace RW5 := Lib.hid RW5))
          all_goals
            clear o1 p1 f1 Xz y1 g1
            generalize w5.setCell ⟨s0 + 1 + 1, 1, none⟩ (.slice B5 (k + 1) d5) = w6 at *
            go_wp2
            go_roundg (n - (j + 1))
            case measure => omega
            case rel => exact ⟨j + 1, k + 1, B3, d3, B5, d5, put T k x, putZ Y k z, hlt, rfl, by go_num, by omega, K6, a60, a61, a62, RW6, RN6, L2⟩
    · obtain rfl : j = n := by omega
      have f4 : wr.frozen? ⟨s0 + 1, 0, none⟩ = false := frozen_of_row wr _ _ _ _ a1.out
      have f5 : wr.frozen? ⟨s0 + 1, 1, none⟩ = false := frozen_of_row wr _ _ _ _ a1.out
      have p0 : wr.cell? ⟨s0 + 1 + 1, 0, none⟩ = some (.slice B k d) := by rw [cell_of_row wr _ _ _ _ _ a2.out]; rfl
      have p1 : wr.cell? ⟨s0 + 1 + 1, 1, none⟩ = some (.slice B2 k d2) := by rw [cell_of_row wr _ _ _ _ _ a2.out]; rfl
      have p4 : wr.cell? ⟨s0 + 1, 0, none⟩ = some (.slice none 0 0) := by rw [cell_of_row wr _ _ _ _ _ a1.out]; rfl
      have p5 : wr.cell? ⟨s0 + 1, 1, none⟩ = some (.slice none 0 0) := by rw [cell_of_row wr _ _ _ _ _ a1.out]; rfl
      have fin : Hid (∀ W, W = (wr.setCell ⟨s0 + 1, 0, none⟩ (.slice B k d)).setCell ⟨s0 + 1, 1, none⟩ (.slice B2 k d2) → Keep w W ∧ RdPods W B k T ∧ Rd W B2 k Y) := fun W hW => by
        have kW : Keep w W := by
          rw [hW]
          exact (K.out.set (show w.heap.size ≤ s0 + 1 by have := hs0.out; omega) _).set (show w.heap.size ≤ s0 + 1 by have := hs0.out; omega) _
        have b1 : (wr.setCell ⟨s0 + 1, 0, none⟩ (.slice B k d)).heap[s0 + 1]? = some (.cells #[.slice B k d, .slice none 0 0] 30 (0, 0)) := heap_setCell_same wr (s0 + 1) 0 _ _ (.slice B k d) a1.out
        have RWW : W.ownsRow s0 35 9 (.slice B k d) k (podCs T k) := by rw [hW]; exact set_own b1 (set_own a1.out RW.out (by decide) 0 _) (by decide) 1 _
        have RNW : W.ownsRow s0 3 1 (.slice B2 k d2) k (rowL k Y) := by rw [hW]; exact set_own b1 (set_own a1.out RN.out (by decide) 0 _) (by decide) 1 _
        have from_ : ∀ t, t < k → ∃ i, i < j ∧ S i = T t ∧ Z i = Y t := fun t ht => by
          have h1 : (T t, Y t) ∈ prZ T Y k := prZ_mem.2 ⟨t, ht, rfl⟩
          rw [LT.out] at h1
          obtain ⟨i, hi, e⟩ := prZ_mem.1 (List.mem_filter.1 h1).1
          simp only [Prod.mk.injEq] at e
          exact ⟨i, hi, e.1, e.2⟩
        refine ⟨kW, rows_rd RWW (by omega) fun t ht => ?_, rdN_own RNW (by omega) fun t ht => ?_⟩
        · obtain ⟨i, hi, e1, _⟩ := from_ t ht
          rw [← e1]
          exact (hR.out.is i hi).keep kW
        · obtain ⟨i, hi, _, e2⟩ := from_ t ht
          rw [← e2]
          exact hR2.out.range i hi
      go_wp2
      refine bodyPost_ret (v := .agg #[.slice B k d, .slice B2 k d2]) (by simp [results, Tryd.results27, go_sem, *]) rfl ⟨B, k, d, B2, d2, T, Y, rfl, (fin.out _ rfl).1, (fin.out _ rfl).2.1, (fin.out _ rfl).2.2, LT.out, fun b off e => ?_, fun b off e => ?_, fun e => ?_, fun e => ?_, own_cap RW.out⟩
      · have := (RW.out.lt b (by rw [e]; rfl)).1
        have := hs0.out
        omega
      · have := (RN.out.lt b (by rw [e]; rfl)).1
        have := hs0.out
        omega
      · obtain ⟨A2, c2, e2, h0⟩ := own_form RW.out
        simp only [Value.slice.injEq, true_and] at e2
        obtain ⟨rfl, rfl⟩ := e2
        exact h0 e
      · obtain ⟨A2, c2, e2, h0⟩ := own_form RN.out
        simp only [Value.slice.injEq, true_and] at e2
        obtain ⟨rfl, rfl⟩ := e2
        exact h0 e
end Go.Proofs.YtpkpmoiekjhdnaaDoor
