/-
  The reference's Find. No condition.
-/
import Derived.Test.YtpkpmoiekjhdnaaDoorFr8
namespace Go.Proofs.YtpkpmoiekjhdnaaDoor
open Go.RowKit Go.Sort Go.Lib Go.Shelf

def findN (P : Nat → PodV) (id : Int) : Nat → Int
  | 0 => -1
  | n + 1 => if 0 ≤ findN P id n then findN P id n else if (P n).k = id then (n : Int) else -1
theorem find_no {P : Nat → PodV} {id : Int} : ∀ {n}, (∀ t, t < n → (P t).k ≠ id) → findN P id n = -1
  | 0, _ => rfl
  | n + 1, h => by rw [findN, find_no (fun t ht => h t (by omega)), if_neg (by omega), if_neg (h n (by omega))]
theorem find_at {P : Nat → PodV} {id : Int} {j : Nat} (hj : (P j).k = id) (h : ∀ t, t < j → (P t).k ≠ id) : ∀ {n}, j < n → findN P id n = (j : Int)
  | n + 1, hn => by
    by_cases e : j = n
    · subst e
      rw [findN, find_no h, if_neg (by omega), if_pos hj]
    · rw [findN, find_at hj h (n := n) (by omega), if_pos (by omega)]
theorem find_iff {P : Nat → PodV} {id : Int} : ∀ {n}, 0 ≤ findN P id n ↔ ∃ j, j < n ∧ (P j).k = id
  | 0 => by
    constructor
    · intro h; exact absurd h (show ¬ (0 : Int) ≤ -1 by decide)
    · rintro ⟨j, h, _⟩; omega
  | n + 1 => by
    have ih := find_iff (P := P) (id := id) (n := n)
    rw [findN]
    by_cases e : 0 ≤ findN P id n
    · rw [if_pos e]
      obtain ⟨j, h1, h2⟩ := ih.1 e
      exact ⟨fun _ => ⟨j, by omega, h2⟩, fun _ => e⟩
    · rw [if_neg e]
      by_cases e2 : (P n).k = id
      · rw [if_pos e2]
        exact ⟨fun _ => ⟨n, by omega, e2⟩, fun _ => by omega⟩
      · rw [if_neg e2]
        constructor
        · intro h; exact absurd h (by decide)
        · rintro ⟨j, h1, h2⟩
          by_cases e3 : j = n
          · rw [e3] at h2; exact absurd h2 e2
          · exact absurd (ih.2 ⟨j, by omega, h2⟩) e
theorem find_lt {P : Nat → PodV} {id : Int} : ∀ {n}, 0 ≤ findN P id n → ∃ j, j < n ∧ findN P id n = (j : Int) ∧ (P j).k = id
  | 0, h => absurd h (show ¬ (0 : Int) ≤ -1 by decide)
  | n + 1, h => by
    rw [findN] at h ⊢
    by_cases e : 0 ≤ findN P id n
    · rw [if_pos e]
      obtain ⟨j, h1, h2, h3⟩ := find_lt e
      exact ⟨j, by omega, h2, h3⟩
    · rw [if_neg e] at h ⊢
      by_cases e2 : (P n).k = id
      · rw [if_pos e2]
        exact ⟨n, by omega, rfl, e2⟩
      · rw [if_neg e2] at h; exact absurd h (by decide)
theorem find_neg {P : Nat → PodV} {id : Int} {n : Nat} (h : ¬ 0 ≤ findN P id n) : findN P id n = -1 := find_no fun t ht e => h (find_iff.2 ⟨t, ht, e⟩)

set_option maxRecDepth 100000 in
set_option maxHeartbeats 4000000 in
theorem rfind_fn (A : Option Addr) (n c : Nat) (P : Nat → PodV) (id : Int) (w : World) (hR : RdPods w A n P) : Calls Tryd.prog 16 #[.slice A n c, .int .i64 id] w fun e w' => e = .returned (.int .i64 (findN P id n)) ∧ w = w' := by
  have hn := hR.small
  replace hR := Lib.hid hR
  obtain ⟨r, hr⟩ : ∃ r, r = findN P id n := ⟨_, rfl⟩
  rw [← hr]
  replace hr := Lib.hid hr
  go_enter Tryd.func16, Tryd.ntmps16
  go_wp2
  go_loopg [5] n (fun gx s5 wr => ∃ j : Nat, j ≤ n ∧ gx = n - j ∧ s5 = .int .i64 j ∧ wr = w ∧ Hid (∀ t, t < j → (P t).k ≠ id))
  case atStart => exact ⟨0, Nat.zero_le _, rfl, rfl, rfl, fun t h => absurd h (Nat.not_lt_zero _)⟩
  case round =>
    obtain ⟨j, hj, rfl, rfl, rfl, NO⟩ := hrel
    by_cases hlt : j < n
    · obtain ⟨b, off, hA, ca⟩ := hR.out.adr (by omega)
      subst hA
      have q1 := pods_at b off n c j hlt
      have x0 := (ca j hlt).e0
      clear ca
      by_cases hk : (P j).k = id
      · have e : r = (j : Int) := by rw [hr.out]; exact find_at hk NO.out hlt
        obtain ⟨k, hkk⟩ : ∃ k, k = (P j).k := ⟨_, rfl⟩
        rw [← hkk] at x0 hk
        replace hkk := Lib.hid hkk
        subst hk
        subst e
        go_wp2
        go_ret
        exact ⟨rfl, rfl⟩
      · have NO2 : Hid (∀ t, t < j + 1 → (P t).k ≠ id) := fun t ht => by
          by_cases e : t = j
          · rw [e]; exact hk
          · exact NO.out t (by omega)
        obtain ⟨k, hkk⟩ : ∃ k, k = (P j).k := ⟨_, rfl⟩
        rw [← hkk] at x0 hk
        replace hkk := Lib.hid hkk
        go_wp2
        go_roundg (n - (j + 1))
        case measure => omega
        case rel => exact ⟨j + 1, hlt, rfl, by go_num, rfl, NO2⟩
    · obtain rfl : j = n := by omega
      have e : r = -1 := by rw [hr.out]; exact find_no NO.out
      subst e
      go_wp2
      go_ret
      exact ⟨rfl, rfl⟩
end Go.Proofs.YtpkpmoiekjhdnaaDoor
