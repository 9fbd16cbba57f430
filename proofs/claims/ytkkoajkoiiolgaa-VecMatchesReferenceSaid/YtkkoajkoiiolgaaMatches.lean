/-
  The walk of VecMatchesReference: it answers true for every input. No condition.
-/
import Derived.Test.YtkkoajkoiiolgaaCompares
namespace Go.Proofs.Ytkkoajkoiiolgaa
open Go.RowKit

theorem Rds.keep {w w' : World} {L R A len C Z} (h : Rds w L R A len C Z) (hb : Keep w w') : Rds w' L R A len C Z := h.below hb

/-- What Add hands back, under one name for both ends: s says whether there is a sum. -/
def AddB (s : Bool) (R : Nat) (len : Nat → Nat) (Z : Nat → Nat → Int) (w : World) (e : Ending) (w' : World) : Prop :=
  ∃ D c, e = .returned (.tuple #[.slice D (cond s (len 0) 0) c, .bool s]) ∧ Keep w w' ∧ Rd w' D (cond s (len 0) 0) (fun k => sumTo R fun r => Z r k)
theorem add_b {L : Option Addr} {R C : Nat} {A : Nat → Option Addr} {len K : Nat → Nat} {Z : Nat → Nat → Int} {w : World} (hL : Rds w L R A len K Z) (hR : R ≤ 1048576) (hlen : ∀ r, r < R → len r ≤ 1048576) (s : Bool) (hs : s = true ↔ AddOk R len Z) :
    Calls Try.prog 10 #[.slice L R C] w (AddB s R len Z w) := by
  rcases Nat.eq_zero_or_pos R with rfl | h0
  · obtain rfl : s = false := by
      cases s
      · rfl
      · exact absurd (hs.1 rfl).1 (Nat.lt_irrefl _)
    exact (add_none L C w).mono fun e w' ⟨he, hw⟩ => ⟨none, 0, he, by subst hw; exact Keep.refl _, Rd.nil _ _ _⟩
  · refine (add_some L R C A len K Z w hL hR hlen h0).mono ?_
    rintro e w' ⟨hb, ⟨hok, he, hrow⟩ | ⟨hno, he⟩⟩
    · obtain rfl : s = true := hs.2 hok
      exact ⟨_, _, he, hb, Rd.ofRow hrow (by have := hlen 0 h0; show len 0 ≤ _; omega) (fun k hk => inR_range (hok.2.2 k hk))⟩
    · obtain rfl : s = false := by
        cases s
        · rfl
        · exact absurd (hs.1 rfl) hno
      exact ⟨none, 0, he, hb, Rd.nil _ _ _⟩
theorem radd_b {L : Option Addr} {R C : Nat} {A : Nat → Option Addr} {len K : Nat → Nat} {Z : Nat → Nat → Int} {w : World} (hL : Rds w L R A len K Z) (hR : R ≤ 1048576) (hlen : ∀ r, r < R → len r ≤ 1048576) (s : Bool) (hs : s = true ↔ AddOk R len Z) :
    Calls Try.prog 11 #[.slice L R C] w (AddB s R len Z w) := by
  rcases Nat.eq_zero_or_pos R with rfl | h0
  · obtain rfl : s = false := by
      cases s
      · rfl
      · exact absurd (hs.1 rfl).1 (Nat.lt_irrefl _)
    exact (radd_none L C w).mono fun e w' ⟨he, hw⟩ => ⟨none, 0, he, by subst hw; exact Keep.refl _, Rd.nil _ _ _⟩
  · refine (radd_some L R C A len K Z w hL hR hlen h0).mono ?_
    rintro e w' ⟨hb, ⟨hok, A', cap, he, hrow⟩ | ⟨hno, he⟩⟩
    · obtain rfl : s = true := hs.2 hok
      exact ⟨_, _, he, hb, hrow⟩
    · obtain rfl : s = false := by
        cases s
        · rfl
        · exact absurd (hs.1 rfl) hno
      exact ⟨none, 0, he, hb, Rd.nil _ _ _⟩

set_option maxHeartbeats 1000000 in
theorem matches_long (L : Option Addr) (R C : Nat) (w : World) (h : 300 < R) :
    Calls Try.prog 3 #[.slice L R C] w fun e w' => e = .returned (.bool true) ∧ Keep w w' := by
  go_enter Try.func3, Try.ntmps3
  go_wp2_with (go_at_call 9; refine (awake_fn _).mono ?_; rintro e w1 ⟨rfl, hk⟩)
  go_ret
  exact ⟨rfl, Keep.trans (by assumption) (by assumption)⟩

open Classical in
set_option maxHeartbeats 4000000 in
theorem matches_short (L : Option Addr) (R C : Nat) (A : Nat → Option Addr) (len K : Nat → Nat) (Z : Nat → Nat → Int) (w : World) (hL : Rds w L R A len K Z) (h1 : R ≤ 300) :
    Calls Try.prog 3 #[.slice L R C] w fun e w' => e = .returned (.bool true) ∧ Keep w w' := by
  obtain ⟨s, hs⟩ : ∃ s : Bool, s = true ↔ AddOk R len Z := ⟨decide _, decide_eq_true_iff⟩
  replace hs : Hid (s = true ↔ AddOk R len Z) := hs
  go_enter Try.func3, Try.ntmps3
  go_wp2_with fail
  refine (awake_fn _).mono ?_
  rintro e w1 ⟨rfl, hk⟩
  replace hL := hL.keep hk
  replace hk : Hid (Keep w w1) := hk
  go_wp2_with fail
  go_loopg [3] R (fun g i wr => ∃ k : Nat, k ≤ R ∧ g = R - k ∧ i = .int .i64 k ∧ w1 = wr ∧ Aside (∀ j, j < k → len j ≤ 100))
  case atStart => exact ⟨0, Nat.zero_le _, rfl, rfl, rfl, fun _ h => absurd h (Nat.not_lt_zero _)⟩
  case round =>
    obtain ⟨k, hk', rfl, rfl, rfl, hall⟩ := hrel
    by_cases hlt : k < R
    · obtain ⟨b, off, rfl, ca⟩ := hL.adr (by omega)
      have g0 := ca k hlt
      clear ca
      by_cases hz : len k ≤ 100
      · go_wp2
        go_roundg (R - (k + 1))
        case measure => omega
        case rel => exact ⟨k + 1, hlt, rfl, by go_num, rfl, fun j hj => by
          rcases Nat.lt_succ_iff_lt_or_eq.1 hj with h | rfl
          · exact hall.out j h
          · exact hz⟩
      · go_wp2
        go_ret
        exact ⟨rfl, hk.out⟩
    · obtain rfl : k = R := by omega
      clear hlt hk'
      go_wp2_with fail
      refine (add_b hL (by omega) (fun r hr => by have := hall.out r hr; omega) s hs.out).mono ?_
      rintro e w2 ⟨D1, c1, rfl, hk2, hd1⟩
      replace hL := hL.keep hk2
      replace hk := hk.out.trans hk2
      clear hk2
      go_wp2_with fail
      refine (radd_b hL (by omega) (fun r hr => by have := hall.out r hr; omega) s hs.out).mono ?_
      rintro e w3 ⟨D2, c2, rfl, hk3, hd2⟩
      replace hd1 := hd1.keep hk3
      replace hk := hk.trans hk3
      clear hk3
      go_wp2_with fail
      refine (rsame_k hd1 hd2 true (same_refl _ _)).mono ?_
      rintro e w4 ⟨rfl, hk4⟩
      go_wp2_with fail
      go_ret
      exact ⟨rfl, hk.trans hk4⟩

theorem matches_walk {A0 : Option Addr} {n0 c0 : Nat} {B0 : Nat → Option Addr} {L0 C0 : Nat → Nat} {Z0 : Nat → Nat → Int} {w : World} (h0 : Rds w A0 n0 B0 L0 C0 Z0) :
    Calls Try.prog 3 #[.slice A0 n0 c0] w fun e w' => e = .returned (.bool true) ∧ Keep w w' := by
  by_cases h : n0 ≤ 300
  · exact matches_short A0 n0 c0 B0 L0 C0 Z0 w h0 h
  · exact matches_long A0 n0 c0 w (by omega)
end Go.Proofs.Ytkkoajkoiiolgaa
