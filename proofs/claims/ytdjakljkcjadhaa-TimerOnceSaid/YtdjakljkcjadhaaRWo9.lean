/-
  The reference's Due and Without. Condition: at most 1000 timers for Without.
-/
import Derived.Test.YtdjakljkcjadhaaRef9
namespace Go.Proofs.Ytdjakljkcjadhaa.T9
open Go.RowKit Go.Sort Go.Lib

set_option maxRecDepth 100000 in
set_option maxHeartbeats 4000000 in
theorem rdue_fn (A : Option Addr) (n c : Nat) (P : Nat → TmV) (now : Int) (w : World) (hR : RdT w A n P) : Calls Try.prog 22 #[.slice A n c, .int .i64 now] w fun e w' => e = .returned (.int .i64 (dueN now (lst P n) : Nat)) ∧ w = w' := by
  have hn := hR.small
  replace hR := Lib.hid hR
  obtain ⟨r, hr⟩ : ∃ r, r = dueN now (lst P n) := ⟨_, rfl⟩
  rw [← hr]
  replace hr := Lib.hid hr
  go_enter Try.func22, Try.ntmps22
  go_wp2
  go_loopg [5] n (fun gx s5 wr => ∃ j : Nat, j ≤ n ∧ gx = n - j ∧ s5 = .int .i64 j ∧ wr = w ∧ Hid (∀ t, t < j → (P t).t ≤ now))
  case atStart => exact ⟨0, Nat.zero_le _, rfl, rfl, rfl, fun t h => absurd h (Nat.not_lt_zero _)⟩
  case round =>
    obtain ⟨j, hj, rfl, rfl, rfl, NO⟩ := hrel
    have fin : Hid ((j = n ∨ now < (P j).t) → r = j) := fun h => by
      rw [hr.out]
      refine due_eq (by rw [lst_len]; exact hj) (fun t y ht e => ?_) (fun y e => ?_)
      · rw [lst_get (by omega)] at e
        rw [← Option.some.inj e]
        exact NO.out t ht
      · have h2 : j < n := by have := (List.getElem?_eq_some_iff.1 e).1; rwa [lst_len] at this
        rw [lst_get h2] at e
        rw [← Option.some.inj e]
        exact h.resolve_left (by omega)
    by_cases hlt : j < n
    · obtain ⟨b, off, hA, ca⟩ := hR.out.adr (by omega)
      subst hA
      have q1 := atR b off n c j hlt
      have x0 := (ca j hlt).e1
      clear ca
      by_cases hk : (P j).t ≤ now
      · have NO2 : Hid (∀ t, t < j + 1 → (P t).t ≤ now) := fun t ht => by
          by_cases e : t = j
          · rw [e]; exact hk
          · exact NO.out t (by omega)
        obtain ⟨k, hkk⟩ : ∃ k, k = (P j).t := ⟨_, rfl⟩
        rw [← hkk] at x0 hk
        replace hkk := Lib.hid hkk
        clear fin
        go_wp2
        go_roundg (n - (j + 1))
        case measure => omega
        case rel => exact ⟨j + 1, hlt, rfl, by go_num, rfl, NO2⟩
      · have e := fin.out (Or.inr (by omega))
        subst e
        obtain ⟨k, hkk⟩ : ∃ k, k = (P r).t := ⟨_, rfl⟩
        rw [← hkk] at x0 hk
        replace hkk := Lib.hid hkk
        clear fin
        go_wp2
        go_ret
        exact ⟨rfl, rfl⟩
    · obtain rfl : j = n := by omega
      have e := fin.out (Or.inl rfl)
      subst e
      clear fin
      go_wp2
      go_ret
      exact ⟨rfl, rfl⟩

theorem wo_succ (P : Nat → TmV) (id : Int) (j : Nat) : woL (lst P (j + 1)) id = if (P j).k = id then woL (lst P j) id else woL (lst P j) id ++ [P j] := by
  unfold woL
  rw [lst_succ, List.filter_append]
  by_cases h : (P j).k = id
  · rw [if_pos h, List.filter_cons_of_neg (by simpa using h)]
    simp
  · rw [if_neg h, List.filter_cons_of_pos (by simpa using h)]
    rfl
theorem wo_len (P : Nat → TmV) (id : Int) (j : Nat) : (woL (lst P j) id).length ≤ j := by
  have := List.length_filter_le (fun y : TmV => decide (y.k ≠ id)) (lst P j)
  rwa [lst_len] at this
theorem lst_ok {P : Nat → TmV} {n : Nat} (h : ∀ j, j < n → TmOk (P j)) : ∀ x ∈ lst P n, TmOk x := fun x hx => by
  obtain ⟨j, hj, rfl⟩ := lst_mem.1 hx
  exact h j hj
theorem row_ok {L : List TmV} (h : ∀ x ∈ L, TmOk x) : ∀ j, j < L.length → TmOk (row L j) := fun j hj => by
  unfold row
  rw [List.getD_eq_getElem?_getD, List.getElem?_eq_getElem hj]
  exact h _ (List.getElem_mem hj)

set_option maxRecDepth 100000 in
set_option maxHeartbeats 4000000 in
theorem rwithout_fn (A : Option Addr) (n c : Nat) (P : Nat → TmV) (id : Int) (w : World) (hR : RdT w A n P) (hn : n ≤ 1000) :
    Calls Try.prog 21 #[.slice A n c, .int .i64 id] w fun e w' => ∃ B d, e = .returned (.slice B (woL (lst P n) id).length d) ∧ Keep w w' ∧ w'.ownsRow w.heap.size 30 3 (.slice B (woL (lst P n) id).length d) (woL (lst P n) id).length (tmCs (row (woL (lst P n) id)) (woL (lst P n) id).length) := by
  replace hR := Lib.hid hR
  obtain ⟨L, hL⟩ : ∃ L, L = woL (lst P n) id := ⟨_, rfl⟩
  rw [← hL]
  rw [tmCs_row]
  replace hL := Lib.hid hL
  go_enter Try.func21, Try.ntmps21
  go_wp2
  go_loopg [5, 6] n (fun gx s5 s6 wr => ∃ (j k : Nat) (B : Option Addr) (d : Nat) (M : List TmV), j ≤ n ∧ gx = n - j ∧ s6 = .int .i64 j ∧ s5 = .slice B k d ∧ k ≤ j ∧ Hid (Keep w wr) ∧ Hid (wr.ownsRow w.heap.size 30 3 (.slice B k d) k (M.flatMap TmV.cells)) ∧ Hid (M = woL (lst P j) id) ∧ Hid (M.length = k))
  case atStart => exact ⟨0, 0, none, 0, [], Nat.zero_le _, rfl, rfl, rfl, Nat.le_refl _, Keep.refl _, World.ownsRow_nil _ _ _ _, rfl, rfl⟩
  case round =>
    obtain ⟨j, k, B, d, M, hj, rfl, rfl, rfl, hkj, G, RW, LT, LN⟩ := hrel
    by_cases hlt : j < n
    · have R2 := hR.out.keep G.out
      obtain ⟨b, off, hA, ca⟩ := R2.adr (by omega)
      subst hA
      have q1 := atR b off n c j hlt
      have X := ca j hlt
      clear ca
      replace R2 := Lib.hid R2
      have hs := wo_succ P id j
      obtain ⟨x, hx⟩ : ∃ x, x = P j := ⟨_, rfl⟩
      rw [← hx] at X hs
      replace hx := Lib.hid hx
      have x0 := X.e0; have x1 := X.e1; have x2 := X.e2
      clear X
      have gsz : Hid (w.heap.size ≤ wr.heap.size) := G.out.size
      by_cases hk : x.k = id
      · rw [if_pos hk] at hs
        have L2 : Hid (M = woL (lst P (j + 1)) id) := by show _ = _; rw [hs, LT.out]
        replace hs := Lib.hid hs
        obtain ⟨z, hz⟩ : ∃ z, z = x.k := ⟨_, rfl⟩
        rw [← hz] at x0 hk
        replace hz := Lib.hid hz
        subst hk
        clear x1 x2
        go_wp2
        go_roundg (n - (j + 1))
        case measure => omega
        case rel => exact ⟨j + 1, k, B, d, M, hlt, rfl, by go_num, rfl, by omega, G, RW, L2, LN⟩
      · rw [if_neg hk] at hs
        have L2 : Hid (M ++ [x] = woL (lst P (j + 1)) id) := by show _ = _; rw [hs, LT.out]
        have LN2 : Hid ((M ++ [x]).length = k + 1) := by show _ = _; rw [List.length_append, LN.out]; rfl
        have FM : Hid ((M ++ [x]).flatMap TmV.cells = M.flatMap TmV.cells ++ x.cells) := by show _ = _; rw [List.flatMap_append, List.flatMap_singleton]
        replace hs := Lib.hid hs
        go_wp2_with (at_builtin; refine wpl_own Try.tyR9 rfl _ _ rfl w.heap.size (.slice B k d) k (M.flatMap TmV.cells) (by simp [Act.eval]) (own_keep RW.out (Keep.one _ _)) (.slice (some ⟨wr.heap.size, 0, none⟩) 1 1) 1 x.cells (by simp [Act.eval]) (src_one (heap_alloc_new _ _)) (cells_one _) (by omega) (by rw [World.size_alloc]; have := gsz.out; omega) (k + 1) rfl ?_; intro v3 w3 hr3 hg3)
        have K3 : Hid (Keep w w3) := keep_grown (G.out.trans (Keep.one _ _)) hg3 (fun q hq => (RW.out.lt q hq).1)
        obtain ⟨B4, d4, hB4, _⟩ := own_form hr3
        subst hB4
        rw [← FM.out] at hr3
        replace hr3 := Lib.hid hr3
        replace hg3 := Lib.hid hg3
        clear x0 x1 x2 q1
        go_wp2
        go_roundg (n - (j + 1))
        case measure => omega
        case rel => exact ⟨j + 1, k + 1, B4, d4, M ++ [x], hlt, rfl, by go_num, rfl, by omega, K3, hr3, L2, LN2⟩
    · obtain rfl : j = n := by omega
      obtain rfl : M = L := by rw [hL.out, LT.out]
      obtain rfl : k = M.length := LN.out.symm
      go_wp2
      go_ret
      exact ⟨B, d, rfl, G.out, RW.out⟩
end Go.Proofs.Ytdjakljkcjadhaa.T9
