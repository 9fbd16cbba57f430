/-
  The reference's Find, Drop. Condition: at most 1000 nodes for the last.
-/
import Derived.Test.YtokopegffeablaaGreatDoorGrN12
namespace Go.Proofs.YtokopegffeablaaGreatDoor.T12
open Go.RowKit Go.Sort Go.Lib

def findN (P : Nat → RnV) (id : Int) : Nat → Int
  | 0 => -1
  | n + 1 => if 0 ≤ findN P id n then findN P id n else if (P n).k = id then (n : Int) else -1
theorem find_no {P : Nat → RnV} {id : Int} : ∀ {n}, (∀ t, t < n → (P t).k ≠ id) → findN P id n = -1
  | 0, _ => rfl
  | n + 1, h => by
    rw [findN, find_no (fun t ht => h t (by omega)), if_neg (by omega), if_neg (h n (by omega))]
theorem find_at {P : Nat → RnV} {id : Int} {j : Nat} (hj : (P j).k = id) (h : ∀ t, t < j → (P t).k ≠ id) : ∀ {n}, j < n → findN P id n = (j : Int)
  | n + 1, hn => by
    by_cases e : j = n
    · subst e
      rw [findN, find_no h, if_neg (by omega), if_pos hj]
    · rw [findN, find_at hj h (n := n) (by omega), if_pos (by omega)]
/-- Either there is none, or it is the first. -/
theorem find_cases (P : Nat → RnV) (id : Int) (n : Nat) : (findN P id n = -1 ∧ id ∉ keys (lst P n)) ∨ ∃ j, j < n ∧ findN P id n = (j : Int) ∧ (P j).k = id ∧ id ∈ keys (lst P n) ∧ getL (lst P n) id = P j := by
  by_cases h : ∃ j, j < n ∧ (P j).k = id
  · right
    obtain ⟨j, hj, hk, hm⟩ : ∃ j, j < n ∧ (P j).k = id ∧ ∀ t, t < j → (P t).k ≠ id := by
      induction n with
      | zero => obtain ⟨j, hj, _⟩ := h; exact absurd hj (Nat.not_lt_zero _)
      | succ n ih =>
        by_cases h2 : ∃ j, j < n ∧ (P j).k = id
        · obtain ⟨j, a, b, c⟩ := ih h2
          exact ⟨j, by omega, b, c⟩
        · obtain ⟨j, hj, hk⟩ := h
          refine ⟨j, hj, hk, fun t ht e => h2 ⟨t, by omega, e⟩⟩
    refine ⟨j, hj, find_at hk hm hj, hk, ?_, ?_⟩
    · unfold keys
      rw [← hk]
      exact List.mem_map_of_mem (lst_mem.2 ⟨j, hj, rfl⟩)
    · unfold getL
      have e : (lst P n).find? (fun y => decide (y.k = id)) = some (P j) := by
        rw [List.find?_eq_some_iff_getElem]
        refine ⟨by simpa using hk, j, by rw [lst_len]; exact hj, ?_, fun t ht => ?_⟩
        · have := lst_get (Q := P) hj
          rw [List.getElem?_eq_getElem (by rw [lst_len]; exact hj)] at this
          exact Option.some.inj this
        · have h1 := lst_get (Q := P) (n := n) (j := t) (by omega)
          rw [List.getElem?_eq_getElem (by rw [lst_len]; omega)] at h1
          rw [Option.some.inj h1]
          simpa using hm t ht
      rw [e]
      rfl
  · left
    refine ⟨find_no fun t ht e => h ⟨t, ht, e⟩, fun hk => ?_⟩
    obtain ⟨y, hy, e⟩ := List.mem_map.1 hk
    obtain ⟨j, hj, rfl⟩ := lst_mem.1 hy
    exact h ⟨j, hj, e⟩
theorem find_iff {P : Nat → RnV} {id : Int} {n : Nat} : 0 ≤ findN P id n ↔ id ∈ keys (lst P n) := by
  rcases find_cases P id n with ⟨h1, h2⟩ | ⟨j, _, h1, _, h2, _⟩
  · rw [h1]; exact ⟨fun h => absurd h (by decide), fun h => absurd h h2⟩
  · rw [h1]; exact ⟨fun _ => h2, fun _ => by omega⟩

set_option maxRecDepth 100000 in
set_option maxHeartbeats 4000000 in
theorem rfind_fn (A : Option Addr) (n c : Nat) (P : Nat → RnV) (id : Int) (w : World) (hR : RdN w A n P) : Calls Tryz.prog 25 #[.slice A n c, .int .i64 id] w fun e w' => e = .returned (.int .i64 (findN P id n)) ∧ w = w' := by
  have hn := hR.small
  replace hR := Lib.hid hR
  obtain ⟨r, hr⟩ : ∃ r, r = findN P id n := ⟨_, rfl⟩
  rw [← hr]
  replace hr := Lib.hid hr
  go_enter Tryz.func25, Tryz.ntmps25
  go_wp2
  go_loopg [5] n (fun gx s5 wr => ∃ j : Nat, j ≤ n ∧ gx = n - j ∧ s5 = .int .i64 j ∧ wr = w ∧ Hid (∀ t, t < j → (P t).k ≠ id))
  case atStart => exact ⟨0, Nat.zero_le _, rfl, rfl, rfl, fun t h => absurd h (Nat.not_lt_zero _)⟩
  case round =>
    obtain ⟨j, hj, rfl, rfl, rfl, NO⟩ := hrel
    by_cases hlt : j < n
    · obtain ⟨b, off, hA, ca⟩ := hR.out.adr (by omega)
      subst hA
      have q1 := atN b off n c j hlt
      have x0 := (ca j hlt).e0
      clear ca
      by_cases hk : (P j).k = id
      · have e : r = (j : Int) := by rw [hr.out]; exact find_at hk NO.out hlt
        obtain ⟨k, hkk⟩ : ∃ k, k = (P j).k := ⟨_, rfl⟩
        rw [← hkk] at x0 hk
        replace hkk := Lib.hid hkk
        subst hk
        subst e
        go_wp2
        go_ret
        exact ⟨rfl, rfl⟩
      · have NO2 : Hid (∀ t, t < j + 1 → (P t).k ≠ id) := fun t ht => by
          by_cases e : t = j
          · rw [e]; exact hk
          · exact NO.out t (by omega)
        obtain ⟨k, hkk⟩ : ∃ k, k = (P j).k := ⟨_, rfl⟩
        rw [← hkk] at x0 hk
        replace hkk := Lib.hid hkk
        go_wp2
        go_roundg (n - (j + 1))
        case measure => omega
        case rel => exact ⟨j + 1, hlt, rfl, by go_num, rfl, NO2⟩
    · obtain rfl : j = n := by omega
      have e : r = -1 := by rw [hr.out]; exact find_no NO.out
      subst e
      go_wp2
      go_ret
      exact ⟨rfl, rfl⟩
theorem wo_succ (P : Nat → RnV) (id : Int) (j : Nat) : woL (lst P (j + 1)) id = if (P j).k = id then woL (lst P j) id else woL (lst P j) id ++ [P j] := by
  unfold woL
  rw [lst_succ, List.filter_append]
  by_cases h : (P j).k = id
  · rw [if_pos h, List.filter_cons_of_neg (by simpa using h)]
    simp
  · rw [if_neg h, List.filter_cons_of_pos (by simpa using h)]
    rfl
theorem lst_ok {P : Nat → RnV} {n : Nat} (h : ∀ j, j < n → RnOk (P j)) : ∀ x ∈ lst P n, RnOk x := fun x hx => by
  obtain ⟨j, hj, rfl⟩ := lst_mem.1 hx
  exact h j hj
theorem row_ok {L : List RnV} (h : ∀ x ∈ L, RnOk x) : ∀ j, j < L.length → RnOk (row L j) := fun j hj => by
  unfold row
  rw [List.getD_eq_getElem?_getD, List.getElem?_eq_getElem hj]
  exact h _ (List.getElem_mem hj)

set_option maxRecDepth 100000 in
set_option maxHeartbeats 4000000 in
theorem rdrop_fn (A : Option Addr) (n c : Nat) (P : Nat → RnV) (id : Int) (w : World) (hR : RdN w A n P) (hn : n ≤ 1000) :
    Calls Tryz.prog 26 #[.slice A n c, .int .i64 id] w fun e w' => ∃ B d, e = .returned (.slice B (woL (lst P n) id).length d) ∧ Keep w w' ∧ w'.ownsRow w.heap.size 42 3 (.slice B (woL (lst P n) id).length d) (woL (lst P n) id).length (rnCs (row (woL (lst P n) id)) (woL (lst P n) id).length) := by
  replace hR := Lib.hid hR
  obtain ⟨L, hL⟩ : ∃ L, L = woL (lst P n) id := ⟨_, rfl⟩
  rw [← hL]
  rw [rnCs_row]
  replace hL := Lib.hid hL
  go_enter Tryz.func26, Tryz.ntmps26
  go_wp2
  go_loopg [5, 6] n (fun gx s5 s6 wr => ∃ (j k : Nat) (B : Option Addr) (d : Nat) (M : List RnV), j ≤ n ∧ gx = n - j ∧ s6 = .int .i64 j ∧ s5 = .slice B k d ∧ k ≤ j ∧ Hid (Keep w wr) ∧ Hid (wr.ownsRow w.heap.size 42 3 (.slice B k d) k (M.flatMap RnV.cells)) ∧ Hid (M = woL (lst P j) id) ∧ Hid (M.length = k))
  case atStart => exact ⟨0, 0, none, 0, [], Nat.zero_le _, rfl, rfl, rfl, Nat.le_refl _, Keep.refl _, World.ownsRow_nil _ _ _ _, rfl, rfl⟩
  case round =>
    obtain ⟨j, k, B, d, M, hj, rfl, rfl, rfl, hkj, G, RW, LT, LN⟩ := hrel
    by_cases hlt : j < n
    · have R2 := hR.out.keep G.out
      obtain ⟨b, off, hA, ca⟩ := R2.adr (by omega)
      subst hA
      have q1 := atN b off n c j hlt
      have X := ca j hlt
      clear ca
      replace R2 := Lib.hid R2
      have hs := wo_succ P id j
      obtain ⟨x, hx⟩ : ∃ x, x = P j := ⟨_, rfl⟩
      rw [← hx] at X hs
      replace hx := Lib.hid hx
      have x0 := X.e0; have x1 := X.e1; have x2 := X.e2
      clear X
      have gsz : Hid (w.heap.size ≤ wr.heap.size) := G.out.size
      by_cases hk : x.k = id
      · rw [if_pos hk] at hs
        have L2 : Hid (M = woL (lst P (j + 1)) id) := by show _ = _; rw [hs, LT.out]
        replace hs := Lib.hid hs
        obtain ⟨z, hz⟩ : ∃ z, z = x.k := ⟨_, rfl⟩
        rw [← hz] at x0 hk
        replace hz := Lib.hid hz
        subst hk
        clear x1 x2
        go_wp2
        go_roundg (n - (j + 1))
        case measure => omega
        case rel => exact ⟨j + 1, k, B, d, M, hlt, rfl, by go_num, rfl, by omega, G, RW, L2, LN⟩
      · rw [if_neg hk] at hs
        have L2 : Hid (M ++ [x] = woL (lst P (j + 1)) id) := by show _ = _; rw [hs, LT.out]
        have LN2 : Hid ((M ++ [x]).length = k + 1) := by show _ = _; rw [List.length_append, LN.out]; rfl
        have FM : Hid ((M ++ [x]).flatMap RnV.cells = M.flatMap RnV.cells ++ x.cells) := by show _ = _; rw [List.flatMap_append, List.flatMap_singleton]
        replace hs := Lib.hid hs
        go_wp2_with (at_builtin; refine wpl_own Tryz.tyN12 rfl _ _ rfl w.heap.size (.slice B k d) k (M.flatMap RnV.cells) (by simp [Act.eval]) (own_keep RW.out (Keep.one _ _)) (.slice (some ⟨wr.heap.size, 0, none⟩) 1 1) 1 x.cells (by simp [Act.eval]) (src_one (heap_alloc_new _ _)) (cells_one _) (by omega) (by rw [World.size_alloc]; have := gsz.out; omega) (k + 1) rfl ?_; intro v3 w3 hr3 hg3)
        have K3 : Hid (Keep w w3) := keep_grown (G.out.trans (Keep.one _ _)) hg3 (fun q hq => (RW.out.lt q hq).1)
        obtain ⟨B4, d4, hB4, _⟩ := own_form hr3
        subst hB4
        rw [← FM.out] at hr3
        replace hr3 := Lib.hid hr3
        replace hg3 := Lib.hid hg3
        clear x0 x1 x2 q1
        go_wp2
        go_roundg (n - (j + 1))
        case measure => omega
        case rel => exact ⟨j + 1, k + 1, B4, d4, M ++ [x], hlt, rfl, by go_num, rfl, by omega, K3, hr3, L2, LN2⟩
    · obtain rfl : j = n := by omega
      obtain rfl : M = L := by rw [hL.out, LT.out]
      obtain rfl : k = M.length := LN.out.symm
      go_wp2
      go_ret
      exact ⟨B, d, rfl, G.out, RW.out⟩
end Go.Proofs.YtokopegffeablaaGreatDoor.T12
