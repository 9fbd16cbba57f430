/-
  The comparisons of two slices of int64, the reference's. No condition.
-/
import Derived.Test.YtmbeghngnnpmlaaDoorBase5
namespace Go.Proofs.YtmbeghngnnpmlaaDoor
open Go.RowKit

/-- n = m and no element of Z is greater. -/
def fitsB (n : Nat) (Z : Nat → Int) (m : Nat) (Y : Nat → Int) : Bool := decide (n = m ∧ ∀ k, k < n → Z k ≤ Y k)
def sameB (n : Nat) (Z : Nat → Int) (m : Nat) (Y : Nat → Int) : Bool := decide (n = m ∧ ∀ k, k < n → Z k = Y k)
theorem fits_no {n m : Nat} {Z Y : Nat → Int} (h : n ≠ m) : fitsB n Z m Y = false := by simp [fitsB, h]
theorem fits_gt {n m : Nat} {Z Y : Nat → Int} {k : Nat} (hk : k < n) (h : Y k < Z k) : fitsB n Z m Y = false := by
  unfold fitsB
  rw [decide_eq_false_iff_not]
  intro ⟨_, h2⟩
  have := h2 k hk
  omega
theorem fits_yes {n m : Nat} {Z Y : Nat → Int} (h : n = m) (h2 : ∀ k, k < n → Z k ≤ Y k) : fitsB n Z m Y = true := by
  unfold fitsB
  exact decide_eq_true ⟨h, h2⟩
theorem retb {a b : Bool} (h : a = b) : Ending.returned (.bool a) = .returned (.bool b) := by rw [h]
set_option maxHeartbeats 400000 in
theorem rfits_eq (A B : Option Addr) (n c d : Nat) (Z Y : Nat → Int) (w : World) (hA : Rd w A n Z) (hB : Rd w B n Y) :
    Calls Tryd.prog 44 #[.slice A n c, .slice B n d] w fun e w' => e = .returned (.bool (fitsB n Z n Y)) ∧ Drawn w w' := by
  have hn := hA.small
  go_enter Tryd.func44, Tryd.ntmps44
  go_wp2
  go_loopg [5] n (fun g i wr => ∃ k : Nat, k ≤ n ∧ g = n - k ∧ i = .int .i64 k ∧ Drawn w wr ∧ Aside (∀ j, j < k → Z j ≤ Y j))
  case atStart => exact ⟨0, Nat.zero_le _, rfl, rfl, Drawn.refl _, fun _ h => absurd h (Nat.not_lt_zero _)⟩
  case round =>
    obtain ⟨k, hk, rfl, rfl, hd, hall⟩ := hrel
    by_cases hlt : k < n
    · obtain ⟨b, off, rfl, ca⟩ := (hA.below hd.below).adr (by omega)
      obtain ⟨b', off', rfl, cb⟩ := (hB.below hd.below).adr (by omega)
      have g0 := ca k hlt
      have g1 := cb k hlt
      clear ca cb hA hB
      by_cases hz : Z k ≤ Y k
      · go_wp2
        go_quiet (fail)
        go_wp2
        go_roundg (n - (k + 1))
        case measure => omega
        case rel => exact ⟨k + 1, hlt, rfl, by go_num, hd.drewN _, fun j hj => by
          rcases Nat.lt_succ_iff_lt_or_eq.1 hj with h | rfl
          · exact hall.out j h
          · exact hz⟩
      · go_wp2
        go_quiet (fail)
        go_wp2
        go_ret
        exact ⟨retb (fits_gt hlt (by omega)).symm, hd.drewN _⟩
    · obtain rfl : k = n := by omega
      go_wp2
      go_ret
      exact ⟨retb (fits_yes rfl hall.out).symm, hd⟩
set_option maxHeartbeats 400000 in
theorem rfits_ne (A B : Option Addr) (n m c d : Nat) (Z Y : Nat → Int) (w : World) (hA : Rd w A n Z) (hB : Rd w B m Y) (hne : n ≠ m) :
    Calls Tryd.prog 44 #[.slice A n c, .slice B m d] w fun e w' => e = .returned (.bool (fitsB n Z m Y)) ∧ Drawn w w' := by
  have hn := hA.small
  have hm := hB.small
  have hneb : ((n : Int) == (m : Int)) = false := by simp; omega
  rw [fits_no hne]
  have hne : Hid (n ≠ m) := hne
  go_enter Tryd.func44, Tryd.ntmps44
  go_wp2
  go_loopg [5] n (fun g i wr => ∃ k : Nat, k ≤ n ∧ k ≤ m ∧ g = n - k ∧ i = .int .i64 k ∧ Drawn w wr)
  case atStart => exact ⟨0, Nat.zero_le _, Nat.zero_le _, rfl, rfl, Drawn.refl _⟩
  case round =>
    obtain ⟨k, hk, hk', rfl, rfl, hd⟩ := hrel
    by_cases hlt : k < n
    · by_cases hlt' : k < m
      · obtain ⟨b, off, rfl, ca⟩ := (hA.below hd.below).adr (by omega)
        obtain ⟨b', off', rfl, cb⟩ := (hB.below hd.below).adr (by omega)
        have g0 := ca k hlt
        have g1 := cb k hlt'
        clear ca cb hA hB
        by_cases hz : Z k ≤ Y k
        · go_wp2
          go_quiet (fail)
          go_wp2
          go_roundg (n - (k + 1))
          case measure => omega
          case rel => exact ⟨k + 1, hlt, hlt', rfl, by go_num, hd.drewN _⟩
        · go_wp2
          go_quiet (fail)
          go_wp2
          go_ret
          exact ⟨rfl, hd.drewN _⟩
      · go_wp2
        go_ret
        exact ⟨rfl, hd⟩
    · go_wp2
      go_ret
      exact ⟨rfl, hd⟩
theorem rfits_any (A B : Option Addr) (n m c d : Nat) (Z Y : Nat → Int) (w : World) (hA : Rd w A n Z) (hB : Rd w B m Y) :
    Calls Tryd.prog 44 #[.slice A n c, .slice B m d] w fun e w' => e = .returned (.bool (fitsB n Z m Y)) ∧ Drawn w w' := by
  by_cases h : n = m
  · subst h; exact rfits_eq A B n c d Z Y w hA hB
  · exact rfits_ne A B n m c d Z Y w hA hB h
theorem same_of_fits {n m : Nat} {Z Y : Nat → Int} (h1 : fitsB n Z m Y = true) : fitsB m Y n Z = sameB n Z m Y := by
  unfold fitsB at h1
  obtain ⟨rfl, h2⟩ := of_decide_eq_true h1
  unfold fitsB sameB
  rw [decide_eq_decide]
  exact ⟨fun h => ⟨rfl, fun k hk => by have := h2 k hk; have := h.2 k hk; omega⟩, fun h => ⟨rfl, fun k hk => by have := h.2 k hk; omega⟩⟩
theorem same_of_nofits {n m : Nat} {Z Y : Nat → Int} (h1 : fitsB n Z m Y = false) : sameB n Z m Y = false := by
  unfold fitsB at h1
  unfold sameB
  rw [decide_eq_false_iff_not] at h1 ⊢
  exact fun h => h1 ⟨h.1, fun k hk => by have := h.2 k hk; omega⟩
theorem rfits_is (A B : Option Addr) (n m c d : Nat) (Z Y : Nat → Int) (w : World) (hA : Rd w A n Z) (hB : Rd w B m Y) (b : Bool) (h : fitsB n Z m Y = b) :
    Calls Tryd.prog 44 #[.slice A n c, .slice B m d] w fun e w' => e = .returned (.bool b) ∧ Drawn w w' := by
  rw [← h]; exact rfits_any A B n m c d Z Y w hA hB
set_option maxHeartbeats 400000 in
theorem rsame_is (A B : Option Addr) (n m c d : Nat) (Z Y : Nat → Int) (w : World) (hA : Rd w A n Z) (hB : Rd w B m Y) (b : Bool) (h : sameB n Z m Y = b) :
    Calls Tryd.prog 36 #[.slice A n c, .slice B m d] w fun e w' => e = .returned (.bool b) ∧ Drawn w w' := by
  cases h1 : fitsB n Z m Y
  · have hb := same_of_nofits h1
    have H1 : Hid (fitsB n Z m Y = false) := h1
    obtain rfl : false = b := hb.symm.trans h
    clear h1 hb h
    go_enter Tryd.func36, Tryd.ntmps36
    go_wp2_with (go_at_call 44; refine (rfits_is _ _ _ _ _ _ _ _ _ hA hB _ H1.out).mono ?_; rintro e w' ⟨rfl, hd⟩)
    go_ret
    exact ⟨rfl, hd⟩
  · have H2 : Hid (fitsB m Y n Z = b) := (same_of_fits h1).trans h
    have H1 : Hid (fitsB n Z m Y = true) := h1
    clear h1 h
    go_enter Tryd.func36, Tryd.ntmps36
    go_wp2_with fail
    refine (rfits_is _ _ _ _ _ _ _ _ _ hA hB _ H1.out).mono ?_
    rintro e w' ⟨rfl, hd⟩
    go_wp2_with fail
    refine (rfits_is _ _ _ _ _ _ _ _ _ (hB.below hd.below) (hA.below hd.below) _ H2.out).mono ?_
    rintro e w'' ⟨rfl, hd'⟩
    go_wp2_with fail
    go_ret
    exact ⟨rfl, hd.trans hd'⟩
end Go.Proofs.YtmbeghngnnpmlaaDoor
