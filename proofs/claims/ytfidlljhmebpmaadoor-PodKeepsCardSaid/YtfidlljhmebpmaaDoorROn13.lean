/-
  The reference's On and With. Condition: at most 1000 pods.
-/
import Derived.Test.YtfidlljhmebpmaaDoorRApp13
namespace Go.Proofs.YtfidlljhmebpmaaDoor.T13
open Go.RowKit Go.Sort Go.Lib V12

theorem podCs_flat (P : Nat → PodV) : ∀ n, podCs P n = (lst P n).flatMap PodV.cells
  | 0 => rfl
  | n + 1 => by rw [podCs, podCs_flat P n, lst_succ, List.flatMap_append, List.flatMap_singleton]
theorem podCs_row (L : List PodV) : podCs (row L) L.length = L.flatMap PodV.cells := by rw [podCs_flat, lst_row]
theorem own_rd {w : World} {base n c : Nat} {B : Option Addr} {Q : Nat → PodV} (h : w.ownsRow base 32 9 (.slice B n c) n (podCs Q n)) (hn : n ≤ 9223372036854775807) (hi : ∀ j, j < n → PodIs w (Q j)) : RdPods w B n Q :=
  ⟨hn, fun hp => by
    obtain ⟨g, cap, e, _, _⟩ := h.form hp
    simp only [Value.slice.injEq] at e
    obtain ⟨rfl, _, rfl⟩ := e
    exact ⟨g, 0, rfl, fun t ht => row_cel h ht⟩, hi⟩
/-- What a filter hands back. -/
def FilPost (w : World) (n : Nat) (L : List PodV) (e : Ending) (w' : World) : Prop := ∃ B d, e = .returned (.slice B L.length d) ∧ Keep w w' ∧ RdPods w' B L.length (row L) ∧ L.length ≤ n
set_option maxRecDepth 100000 in
set_option maxHeartbeats 4000000 in
theorem rwith_fn (A : Option Addr) (n c : Nat) (P : Nat → PodV) (v : Int) (w : World) (hR : RdPods w A n P) (hN : n ≤ 1000) :
    Calls Tryd.prog 21 #[.slice A n c, .int .i64 v] w (FilPost w n ((lst P n).filter (withB v))) := by
  replace hR := Lib.hid hR
  obtain ⟨L, hL⟩ : ∃ L, L = (lst P n).filter (withB v) := ⟨_, rfl⟩
  rw [← hL]
  replace hL := Lib.hid hL
  go_enter Tryd.func21, Tryd.ntmps21
  go_wp2
  go_loopg [5, 6] n (fun gx s5 s6 wr => ∃ (j k : Nat) (B : Option Addr) (d : Nat) (M : List PodV), j ≤ n ∧ gx = n - j ∧ s6 = .int .i64 j ∧ s5 = .slice B k d ∧ k ≤ j ∧ Hid (Keep w wr) ∧ Hid (wr.ownsRow w.heap.size 32 9 (.slice B k d) k (M.flatMap PodV.cells)) ∧ Hid (M = (lst P j).filter (withB v)) ∧ Hid (M.length = k))
  case atStart => exact ⟨0, 0, none, 0, [], Nat.zero_le _, rfl, rfl, rfl, Nat.le_refl _, Keep.refl _, World.ownsRow_nil _ _ _ _, rfl, rfl⟩
  case round =>
    obtain ⟨j, k, B, d, M, hj, rfl, rfl, rfl, hkj, G, RW, LT, LN⟩ := hrel
    by_cases hlt : j < n
    · have R2 := hR.out.keep G.out
      obtain ⟨b, off, hA, ca⟩ := R2.adr (by omega)
      subst hA
      have q1 := pods_at b off n c j hlt
      have X := ca j hlt
      clear ca
      replace R2 := Lib.hid R2
      have hs : (lst P (j + 1)).filter (withB v) = (lst P j).filter (withB v) ++ if withB v (P j) = true then [P j] else [] := by
        rw [lst_succ, List.filter_append, List.filter_cons, List.filter_nil]
      obtain ⟨x, hx⟩ : ∃ x, x = P j := ⟨_, rfl⟩
      rw [← hx] at X hs
      replace hx := Lib.hid hx
      have x0 := X.e0; have x1 := X.e1; have x2 := X.e2; have x3 := X.e3; have x4 := X.e4; have x5 := X.e5; have x6 := X.e6; have x7 := X.e7; have x8 := X.e8
      clear X
      have gsz : Hid (w.heap.size ≤ wr.heap.size) := G.out.size
      by_cases hk : withB v x = true
      · rw [if_pos hk] at hs
        have L2 : Hid (M ++ [x] = (lst P (j + 1)).filter (withB v)) := by show _ = _; rw [hs, LT.out]
        have LN2 : Hid ((M ++ [x]).length = k + 1) := by show _ = _; rw [List.length_append, LN.out]; rfl
        have FM : Hid ((M ++ [x]).flatMap PodV.cells = M.flatMap PodV.cells ++ x.cells) := by show _ = _; rw [List.flatMap_append, List.flatMap_singleton]
        replace hs := Lib.hid hs
        unfold withB at hk
        rw [decide_eq_true_eq] at hk
        have e6 : (x.h == v) = true := by simpa using hk
        replace hk := Lib.hid hk
        go_wp2_with (at_builtin; refine wpl_own Tryd.tyP13 rfl _ _ rfl w.heap.size (.slice B k d) k (M.flatMap PodV.cells) (by simp [Act.eval]) (own_keep RW.out (Keep.one _ _)) (.slice (some ⟨wr.heap.size, 0, none⟩) 1 1) 1 x.cells (by simp [Act.eval]) (src_one (heap_alloc_new _ _)) (cells_one _) (by omega) (by rw [World.size_alloc]; have := gsz.out; omega) (k + 1) rfl ?_; intro v3 w3 hr3 hg3)
        have K3 : Hid (Keep w w3) := keep_grown (G.out.trans (Keep.one _ _)) hg3 (fun q hq => (RW.out.lt q hq).1)
        obtain ⟨B4, d4, hB4, _⟩ := own_form hr3
        subst hB4
        rw [← FM.out] at hr3
        replace hr3 := Lib.hid hr3
        replace hg3 := Lib.hid hg3
        clear x0 x1 x2 x3 x4 x5 x6 x7 x8 q1
        go_wp2
        go_roundg (n - (j + 1))
        case measure => omega
        case rel => exact ⟨j + 1, k + 1, B4, d4, M ++ [x], hlt, rfl, by go_num, rfl, by omega, K3, hr3, L2, LN2⟩
      · rw [if_neg hk, List.append_nil] at hs
        have L2 : Hid (M = (lst P (j + 1)).filter (withB v)) := by show _ = _; rw [hs, LT.out]
        replace hs := Lib.hid hs
        unfold withB at hk
        rw [decide_eq_true_eq] at hk
        clear x0 x1 x2 x3 x4 x5 x8
        have e6 : (x.h == v) = false := by simpa using hk
        replace hk := Lib.hid hk
        clear x7
        go_wp2
        go_roundg (n - (j + 1))
        case measure => omega
        case rel => exact ⟨j + 1, k, B, d, M, hlt, rfl, by go_num, rfl, by omega, G, RW, L2, LN⟩
    · obtain rfl : j = n := by omega
      obtain rfl : M = L := by rw [hL.out, LT.out]
      have ln := LN.out
      have mem : ∀ t, t < M.length → PodIs wr (row M t) := fun t ht => by
        have hm : row M t ∈ M := by
          unfold row
          rw [List.getD_eq_getElem?_getD, List.getElem?_eq_getElem ht]
          exact List.getElem_mem _
        rw [LT.out, List.mem_filter] at hm
        obtain ⟨i, hi, e⟩ := lst_mem.1 hm.1
        rw [LT.out, ← e]
        exact (hR.out.is i hi).keep G.out
      have fin : Hid (RdPods wr B M.length (row M) ∧ M.length ≤ j) := by
        have h2 := RW.out
        rw [← podCs_row, ← ln] at h2
        exact ⟨own_rd h2 (by omega) mem, by omega⟩
      obtain rfl : M.length = k := ln
      clear mem
      go_wp2
      go_ret
      exact ⟨B, d, rfl, G.out, fin.out.1, fin.out.2⟩
set_option maxRecDepth 100000 in
set_option maxHeartbeats 4000000 in
theorem ron_fn (A : Option Addr) (n c : Nat) (P : Nat → PodV) (v : Int) (w : World) (hR : RdPods w A n P) (hN : n ≤ 1000) :
    Calls Tryd.prog 19 #[.slice A n c, .int .i64 v] w (FilPost w n ((lst P n).filter (onB v))) := by
  replace hR := Lib.hid hR
  obtain ⟨L, hL⟩ : ∃ L, L = (lst P n).filter (onB v) := ⟨_, rfl⟩
  rw [← hL]
  replace hL := Lib.hid hL
  go_enter Tryd.func19, Tryd.ntmps19
  go_wp2
  go_loopg [5, 6] n (fun gx s5 s6 wr => ∃ (j k : Nat) (B : Option Addr) (d : Nat) (M : List PodV), j ≤ n ∧ gx = n - j ∧ s6 = .int .i64 j ∧ s5 = .slice B k d ∧ k ≤ j ∧ Hid (Keep w wr) ∧ Hid (wr.ownsRow w.heap.size 32 9 (.slice B k d) k (M.flatMap PodV.cells)) ∧ Hid (M = (lst P j).filter (onB v)) ∧ Hid (M.length = k))
  case atStart => exact ⟨0, 0, none, 0, [], Nat.zero_le _, rfl, rfl, rfl, Nat.le_refl _, Keep.refl _, World.ownsRow_nil _ _ _ _, rfl, rfl⟩
  case round =>
    obtain ⟨j, k, B, d, M, hj, rfl, rfl, rfl, hkj, G, RW, LT, LN⟩ := hrel
    by_cases hlt : j < n
    · have R2 := hR.out.keep G.out
      obtain ⟨b, off, hA, ca⟩ := R2.adr (by omega)
      subst hA
      have q1 := pods_at b off n c j hlt
      have X := ca j hlt
      clear ca
      replace R2 := Lib.hid R2
      have hs : (lst P (j + 1)).filter (onB v) = (lst P j).filter (onB v) ++ if onB v (P j) = true then [P j] else [] := by
        rw [lst_succ, List.filter_append, List.filter_cons, List.filter_nil]
      obtain ⟨x, hx⟩ : ∃ x, x = P j := ⟨_, rfl⟩
      rw [← hx] at X hs
      replace hx := Lib.hid hx
      have x0 := X.e0; have x1 := X.e1; have x2 := X.e2; have x3 := X.e3; have x4 := X.e4; have x5 := X.e5; have x6 := X.e6; have x7 := X.e7; have x8 := X.e8
      clear X
      have gsz : Hid (w.heap.size ≤ wr.heap.size) := G.out.size
      by_cases hk : onB v x = true
      · rw [if_pos hk] at hs
        have L2 : Hid (M ++ [x] = (lst P (j + 1)).filter (onB v)) := by show _ = _; rw [hs, LT.out]
        have LN2 : Hid ((M ++ [x]).length = k + 1) := by show _ = _; rw [List.length_append, LN.out]; rfl
        have FM : Hid ((M ++ [x]).flatMap PodV.cells = M.flatMap PodV.cells ++ x.cells) := by show _ = _; rw [List.flatMap_append, List.flatMap_singleton]
        replace hs := Lib.hid hs
        unfold onB at hk
        rw [decide_eq_true_eq] at hk
        have e7 : (x.d == v) = true := by simpa using hk.1
        have e61 : decide (2 ≤ x.h) = true := decide_eq_true hk.2.1
        have e62 : decide (x.h ≤ 4) = true := decide_eq_true hk.2.2
        have g61 : 2 ≤ x.h := hk.2.1
        have g62 : x.h ≤ 4 := hk.2.2
        replace hk := Lib.hid hk
        go_wp2_with (at_builtin; refine wpl_own Tryd.tyP13 rfl _ _ rfl w.heap.size (.slice B k d) k (M.flatMap PodV.cells) (by simp [Act.eval]) (own_keep RW.out (Keep.one _ _)) (.slice (some ⟨wr.heap.size, 0, none⟩) 1 1) 1 x.cells (by simp [Act.eval]) (src_one (heap_alloc_new _ _)) (cells_one _) (by omega) (by rw [World.size_alloc]; have := gsz.out; omega) (k + 1) rfl ?_; intro v3 w3 hr3 hg3)
        have K3 : Hid (Keep w w3) := keep_grown (G.out.trans (Keep.one _ _)) hg3 (fun q hq => (RW.out.lt q hq).1)
        obtain ⟨B4, d4, hB4, _⟩ := own_form hr3
        subst hB4
        rw [← FM.out] at hr3
        replace hr3 := Lib.hid hr3
        replace hg3 := Lib.hid hg3
        clear x0 x1 x2 x3 x4 x5 x6 x7 x8 q1
        go_wp2
        go_roundg (n - (j + 1))
        case measure => omega
        case rel => exact ⟨j + 1, k + 1, B4, d4, M ++ [x], hlt, rfl, by go_num, rfl, by omega, K3, hr3, L2, LN2⟩
      · rw [if_neg hk, List.append_nil] at hs
        have L2 : Hid (M = (lst P (j + 1)).filter (onB v)) := by show _ = _; rw [hs, LT.out]
        replace hs := Lib.hid hs
        unfold onB at hk
        rw [decide_eq_true_eq] at hk
        clear x0 x1 x2 x3 x4 x5 x8
        by_cases c7 : x.d = v
        · have e7 : (x.d == v) = true := by simpa using c7
          by_cases c61 : 2 ≤ x.h
          · have c62 : ¬ x.h ≤ 4 := fun h => hk ⟨c7, c61, h⟩
            replace hk := Lib.hid hk
            replace c7 := Lib.hid c7
            go_wp2
            go_roundg (n - (j + 1))
            case measure => omega
            case rel => exact ⟨j + 1, k, B, d, M, hlt, rfl, by go_num, rfl, by omega, G, RW, L2, LN⟩
          · replace hk := Lib.hid hk
            replace c7 := Lib.hid c7
            go_wp2
            go_roundg (n - (j + 1))
            case measure => omega
            case rel => exact ⟨j + 1, k, B, d, M, hlt, rfl, by go_num, rfl, by omega, G, RW, L2, LN⟩
        · have e7 : (x.d == v) = false := by simpa using c7
          replace hk := Lib.hid hk
          replace c7 := Lib.hid c7
          go_wp2
          go_roundg (n - (j + 1))
          case measure => omega
          case rel => exact ⟨j + 1, k, B, d, M, hlt, rfl, by go_num, rfl, by omega, G, RW, L2, LN⟩
    · obtain rfl : j = n := by omega
      obtain rfl : M = L := by rw [hL.out, LT.out]
      have ln := LN.out
      have mem : ∀ t, t < M.length → PodIs wr (row M t) := fun t ht => by
        have hm : row M t ∈ M := by
          unfold row
          rw [List.getD_eq_getElem?_getD, List.getElem?_eq_getElem ht]
          exact List.getElem_mem _
        rw [LT.out, List.mem_filter] at hm
        obtain ⟨i, hi, e⟩ := lst_mem.1 hm.1
        rw [LT.out, ← e]
        exact (hR.out.is i hi).keep G.out
      have fin : Hid (RdPods wr B M.length (row M) ∧ M.length ≤ j) := by
        have h2 := RW.out
        rw [← podCs_row, ← ln] at h2
        exact ⟨own_rd h2 (by omega) mem, by omega⟩
      obtain rfl : M.length = k := ln
      clear mem
      go_wp2
      go_ret
      exact ⟨B, d, rfl, G.out, fin.out.1, fin.out.2⟩
end Go.Proofs.YtfidlljhmebpmaaDoor.T13
