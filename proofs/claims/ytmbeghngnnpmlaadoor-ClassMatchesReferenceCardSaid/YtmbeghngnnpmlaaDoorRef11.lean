/-
  The reference's Find. No condition.
-/
import Derived.Test.YtmbeghngnnpmlaaDoorGr11
namespace Go.Proofs.YtmbeghngnnpmlaaDoor.T11
open Go.RowKit Go.Sort Go.Lib

def findN (P : Nat → ClV) (id : Int) : Nat → Int
  | 0 => -1
  | n + 1 => if 0 ≤ findN P id n then findN P id n else if (P n).k = id then (n : Int) else -1
theorem find_no {P : Nat → ClV} {id : Int} : ∀ {n}, (∀ t, t < n → (P t).k ≠ id) → findN P id n = -1
  | 0, _ => rfl
  | n + 1, h => by
    rw [findN, find_no (fun t ht => h t (by omega)), if_neg (by omega), if_neg (h n (by omega))]
theorem find_at {P : Nat → ClV} {id : Int} {j : Nat} (hj : (P j).k = id) (h : ∀ t, t < j → (P t).k ≠ id) : ∀ {n}, j < n → findN P id n = (j : Int)
  | n + 1, hn => by
    by_cases e : j = n
    · subst e
      rw [findN, find_no h, if_neg (by omega), if_pos hj]
    · rw [findN, find_at hj h (n := n) (by omega), if_pos (by omega)]
/-- Either there is none, or it is the first. -/
theorem find_cases (P : Nat → ClV) (id : Int) (n : Nat) : (findN P id n = -1 ∧ id ∉ keys (lst P n)) ∨ ∃ j, j < n ∧ findN P id n = (j : Int) ∧ (P j).k = id ∧ id ∈ keys (lst P n) ∧ getL (lst P n) id = P j := by
  by_cases h : ∃ j, j < n ∧ (P j).k = id
  · right
    obtain ⟨j, hj, hk, hm⟩ : ∃ j, j < n ∧ (P j).k = id ∧ ∀ t, t < j → (P t).k ≠ id := by
      induction n with
      | zero => obtain ⟨j, hj, _⟩ := h; exact absurd hj (Nat.not_lt_zero _)
      | succ n ih =>
        by_cases h2 : ∃ j, j < n ∧ (P j).k = id
        · obtain ⟨j, a, b, c⟩ := ih h2
          exact ⟨j, by omega, b, c⟩
        · obtain ⟨j, hj, hk⟩ := h
          refine ⟨j, hj, hk, fun t ht e => h2 ⟨t, by omega, e⟩⟩
    refine ⟨j, hj, find_at hk hm hj, hk, ?_, ?_⟩
    · unfold keys
      rw [← hk]
      exact List.mem_map_of_mem (lst_mem.2 ⟨j, hj, rfl⟩)
    · unfold getL
      have e : (lst P n).find? (fun y => decide (y.k = id)) = some (P j) := by
        rw [List.find?_eq_some_iff_getElem]
        refine ⟨by simpa using hk, j, by rw [lst_len]; exact hj, ?_, fun t ht => ?_⟩
        · have := lst_get (Q := P) hj
          rw [List.getElem?_eq_getElem (by rw [lst_len]; exact hj)] at this
          exact Option.some.inj this
        · have h1 := lst_get (Q := P) (n := n) (j := t) (by omega)
          rw [List.getElem?_eq_getElem (by rw [lst_len]; omega)] at h1
          rw [Option.some.inj h1]
          simpa using hm t ht
      rw [e]
      rfl
  · left
    refine ⟨find_no fun t ht e => h ⟨t, ht, e⟩, fun hk => ?_⟩
    obtain ⟨y, hy, e⟩ := List.mem_map.1 hk
    obtain ⟨j, hj, rfl⟩ := lst_mem.1 hy
    exact h ⟨j, hj, e⟩
theorem find_iff {P : Nat → ClV} {id : Int} {n : Nat} : 0 ≤ findN P id n ↔ id ∈ keys (lst P n) := by
  rcases find_cases P id n with ⟨h1, h2⟩ | ⟨j, _, h1, _, h2, _⟩
  · rw [h1]; exact ⟨fun h => absurd h (by decide), fun h => absurd h h2⟩
  · rw [h1]; exact ⟨fun _ => h2, fun _ => by omega⟩

set_option maxRecDepth 100000 in
set_option maxHeartbeats 4000000 in
theorem rfind_fn (A : Option Addr) (n c : Nat) (P : Nat → ClV) (id : Int) (w : World) (hR : RdC w A n P) : Calls Tryd.prog 16 #[.slice A n c, .int .i64 id] w fun e w' => e = .returned (.int .i64 (findN P id n)) ∧ w = w' := by
  have hn := hR.small
  replace hR := Lib.hid hR
  obtain ⟨r, hr⟩ : ∃ r, r = findN P id n := ⟨_, rfl⟩
  rw [← hr]
  replace hr := Lib.hid hr
  go_enter Tryd.func16, Tryd.ntmps16
  go_wp2
  go_loopg [5] n (fun gx s5 wr => ∃ j : Nat, j ≤ n ∧ gx = n - j ∧ s5 = .int .i64 j ∧ wr = w ∧ Hid (∀ t, t < j → (P t).k ≠ id))
  case atStart => exact ⟨0, Nat.zero_le _, rfl, rfl, rfl, fun t h => absurd h (Nat.not_lt_zero _)⟩
  case round =>
    obtain ⟨j, hj, rfl, rfl, rfl, NO⟩ := hrel
    by_cases hlt : j < n
    · obtain ⟨b, off, hA, ca⟩ := hR.out.adr (by omega)
      subst hA
      have q1 := atC b off n c j hlt
      have x0 := (ca j hlt).e0
      clear ca
      by_cases hk : (P j).k = id
      · have e : r = (j : Int) := by rw [hr.out]; exact find_at hk NO.out hlt
        obtain ⟨k, hkk⟩ : ∃ k, k = (P j).k := ⟨_, rfl⟩
        rw [← hkk] at x0 hk
        replace hkk := Lib.hid hkk
        subst hk
        subst e
        go_wp2
        go_ret
        exact ⟨rfl, rfl⟩
      · have NO2 : Hid (∀ t, t < j + 1 → (P t).k ≠ id) := fun t ht => by
          by_cases e : t = j
          · rw [e]; exact hk
          · exact NO.out t (by omega)
        obtain ⟨k, hkk⟩ : ∃ k, k = (P j).k := ⟨_, rfl⟩
        rw [← hkk] at x0 hk
        replace hkk := Lib.hid hkk
        go_wp2
        go_roundg (n - (j + 1))
        case measure => omega
        case rel => exact ⟨j + 1, hlt, rfl, by go_num, rfl, NO2⟩
    · obtain rfl : j = n := by omega
      have e : r = -1 := by rw [hr.out]; exact find_no NO.out
      subst e
      go_wp2
      go_ret
      exact ⟨rfl, rfl⟩
theorem lst_ok {P : Nat → ClV} {n : Nat} (h : ∀ j, j < n → ClOk (P j)) : ∀ x ∈ lst P n, ClOk x := fun x hx => by
  obtain ⟨j, hj, rfl⟩ := lst_mem.1 hx
  exact h j hj
theorem row_ok {L : List ClV} (h : ∀ x ∈ L, ClOk x) : ∀ j, j < L.length → ClOk (row L j) := fun j hj => by
  unfold row
  rw [List.getD_eq_getElem?_getD, List.getElem?_eq_getElem hj]
  exact h _ (List.getElem_mem hj)

end Go.Proofs.YtmbeghngnnpmlaaDoor.T11
