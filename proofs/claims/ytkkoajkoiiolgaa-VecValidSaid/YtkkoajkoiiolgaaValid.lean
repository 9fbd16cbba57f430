/-
  The walk of VecValid: it answers true for every input. No condition.
-/
import Derived.Test.YtkkoajkoiiolgaaMatches
namespace Go.Proofs.Ytkkoajkoiiolgaa
open Go.RowKit

theorem wrongOf_neg {n : Nat} {Z : Nat → Int} {d : Int} (h : wrongOf n Z d = -1) : (n : Int) = d ∧ ∀ k, k < n → 0 ≤ Z k ∧ Z k ≤ 1099511627776 := by
  rcases bad_or n Z with ⟨k, hk, hb, h2⟩ | h2
  · rw [wrongOf_bad hk hb h2] at h
    omega
  · rw [wrongOf_ok h2] at h
    by_cases hd : (n : Int) = d
    · exact ⟨hd, fun k hk => bad_not (h2 k hk)⟩
    · rw [if_neg hd] at h
      omega

theorem sumTo_valid {R : Nat} {f : Nat → Int} (h : ∀ k, k < R → 0 ≤ f k ∧ f k ≤ 1099511627776) : 0 ≤ sumTo R f ∧ sumTo R f ≤ 1099511627776 * (R : Int) := by
  induction R with
  | zero => simp [sumTo]
  | succ R ih =>
    obtain ⟨h1, h2⟩ := ih fun k hk => h k (by omega)
    obtain ⟨h3, h4⟩ := h R (by omega)
    simp only [sumTo]
    omega

theorem valid_addOk {R : Nat} {len : Nat → Nat} {Z : Nat → Nat → Int} {d : Int} (h0 : 0 < R) (hR : R ≤ 100) (h : ∀ r, r < R → wrongOf (len r) (Z r) d = -1) : AddOk R len Z := by
  have e : ∀ r, r < R → len r = len 0 := fun r hr => by
    have := (wrongOf_neg (h r hr)).1
    have := (wrongOf_neg (h 0 h0)).1
    omega
  refine ⟨h0, e, fun k hk => ?_⟩
  have := sumTo_valid (R := R) (f := fun r => Z r k) (fun r hr => (wrongOf_neg (h r hr)).2 k (by rw [e r hr]; exact hk))
  exact decide_eq_true (by omega)

theorem rwrong_is {A : Option Addr} {n c : Nat} {Z : Nat → Int} {d : Int} {w : World} (hA : Rd w A n Z) (v : Int) (h : wrongOf n Z d = v) :
    Calls Try.prog 21 #[.slice A n c, .int .i64 d] w fun e w' => e = .returned (.int .i64 v) ∧ w' = w := by
  rw [← h]; exact rwrong_any A n c Z d w hA

set_option maxHeartbeats 1000000 in
theorem valid_long (L : Option Addr) (R C : Nat) (d : Int) (w : World) (h : 100 < R) :
    Calls Try.prog 6 #[.slice L R C, .int .i64 d] w fun e w' => e = .returned (.bool true) ∧ Keep w w' := by
  go_enter Try.func6, Try.ntmps6
  go_wp2_with (go_at_call 9; refine (awake_fn _).mono ?_; rintro e w1 ⟨rfl, hk⟩)
  go_ret
  exact ⟨rfl, Keep.trans (by assumption) (by assumption)⟩

set_option maxHeartbeats 1000000 in
theorem valid_zero (L : Option Addr) (C : Nat) (d : Int) (w : World) :
    Calls Try.prog 6 #[.slice L 0 C, .int .i64 d] w fun e w' => e = .returned (.bool true) ∧ Keep w w' := by
  go_enter Try.func6, Try.ntmps6
  go_wp2_with (go_at_call 9; refine (awake_fn _).mono ?_; rintro e w1 ⟨rfl, hk⟩)
  go_loopg [5, 6] 0 (fun _ t i wr => t = .bool false ∧ i = .int .i64 0 ∧ w1 = wr)
  case atStart => exact ⟨rfl, rfl, rfl⟩
  case round =>
    obtain ⟨rfl, rfl, rfl⟩ := hrel
    go_wp2_with (go_at_call 10; refine (add_none _ _ _).mono ?_; rintro e w' ⟨rfl, rfl⟩)
    go_ret
    exact ⟨rfl, hk⟩

open Classical in
set_option maxHeartbeats 4000000 in
theorem valid_short (L : Option Addr) (R C : Nat) (A : Nat → Option Addr) (len K : Nat → Nat) (Z : Nat → Nat → Int) (d : Int) (w : World) (hL : Rds w L R A len K Z) (h1 : R ≤ 100) (h0 : 0 < R) :
    Calls Try.prog 6 #[.slice L R C, .int .i64 d] w fun e w' => e = .returned (.bool true) ∧ Keep w w' := by
  obtain ⟨s, hs⟩ : ∃ s : Bool, s = true ↔ AddOk R len Z := ⟨decide _, decide_eq_true_iff⟩
  replace hs : Hid (s = true ↔ AddOk R len Z) := hs
  have hRz : (0 : Int) < (R : Int) := by omega
  go_enter Try.func6, Try.ntmps6
  go_wp2_with fail
  refine (awake_fn _).mono ?_
  rintro e w1 ⟨rfl, hk⟩
  replace hL := hL.keep hk
  replace hk : Hid (Keep w w1) := hk
  go_wp2_with fail
  go_loopg [5, 6] R (fun g t i wr => ∃ (k : Nat) (b : Bool), k ≤ R ∧ g = R - k ∧ i = .int .i64 k ∧ t = .bool b ∧ Drawn w1 wr ∧ Aside ((∀ j, j < k → len j ≤ 100) ∧ (b = true ↔ ∀ j, j < k → wrongOf (len j) (Z j) d = -1)))
  case atStart => exact ⟨0, true, Nat.zero_le _, rfl, rfl, rfl, Drawn.refl _, ⟨fun _ h => absurd h (Nat.not_lt_zero _), ⟨fun _ _ h => absurd h (Nat.not_lt_zero _), fun _ => rfl⟩⟩⟩
  case round =>
    obtain ⟨k, b, hk', rfl, rfl, rfl, hd, hall⟩ := hrel
    by_cases hlt : k < R
    · have hLw := hL.keep hd.keep
      obtain ⟨bb, off, rfl, ca⟩ := hLw.adr (by omega)
      have g0 := ca k hlt
      have hrow := hLw.row k hlt
      clear ca hLw
      obtain ⟨v, hv⟩ : ∃ v : Int, wrongOf (len k) (Z k) d = v := ⟨_, rfl⟩
      replace hv : Hid (wrongOf (len k) (Z k) d = v) := hv
      by_cases hz : len k ≤ 100
      · go_wp2_with fail
        go_quiet ((first | (go_at_call 20; exact Calls.quiet_of_same (vwrong_is (hrow.keep (Drawn.keep ⟨_, rfl⟩)) v hv.out)) | (go_at_call 21; exact Calls.quiet_of_same (rwrong_is (hrow.keep (Drawn.keep ⟨_, rfl⟩)) v hv.out))))
        cases b
        · go_wp2
          go_roundg (R - (k + 1))
          case measure => omega
          case rel => exact ⟨k + 1, false, hlt, rfl, by go_num, rfl, hd.drewN _, ⟨fun j hj => by
            rcases Nat.lt_succ_iff_lt_or_eq.1 hj with h | rfl
            · exact hall.out.1 j h
            · exact hz, ⟨(fun h => by cases h), fun h => by
              have := hall.out.2.2 fun j hj => h j (by omega)
              cases this⟩⟩⟩
        · go_wp2_with (go_at_call 21; refine (rwrong_is (hrow.keep (Drawn.keep ⟨_, rfl⟩)) v hv.out).mono ?_; rintro e w' ⟨rfl, rfl⟩)
          go_roundg (R - (k + 1))
          case measure => omega
          case rel => exact ⟨k + 1, v == -1, hlt, rfl, by go_num, rfl, hd.drewN _, ⟨fun j hj => by
            rcases Nat.lt_succ_iff_lt_or_eq.1 hj with h | rfl
            · exact hall.out.1 j h
            · exact hz, ⟨fun h j hj => by
              rcases Nat.lt_succ_iff_lt_or_eq.1 hj with h' | rfl
              · exact hall.out.2.1 (by simp) j h'
              · rw [hv.out]; exact eq_of_beq h, fun h => by rw [← hv.out, h k (by omega)]; rfl⟩⟩⟩
      · go_wp2
        go_ret
        exact ⟨rfl, hk.out.trans hd.keep⟩
    · obtain rfl : k = R := by omega
      clear hlt hk'
      replace hL := hL.keep hd.keep
      cases b
      · go_wp2_with fail
        refine (add_b hL (by omega) (fun r hr => by have := hall.out.1 r hr; omega) s hs.out).mono ?_
        rintro e w2 ⟨D1, c1, rfl, hk2, hd1⟩
        go_wp2_with fail
        go_ret
        exact ⟨rfl, (hk.out.trans hd.keep).trans hk2⟩
      · obtain rfl : s = true := hs.out.2 (valid_addOk h0 h1 (hall.out.2.1 (by simp)))
        go_wp2_with fail
        refine (add_b hL (by omega) (fun r hr => by have := hall.out.1 r hr; omega) true (by simpa using hs.out)).mono ?_
        rintro e w2 ⟨D1, c1, rfl, hk2, hd1⟩
        go_wp2_with fail
        go_ret
        exact ⟨rfl, (hk.out.trans hd.keep).trans hk2⟩

theorem valid_walk {A0 : Option Addr} {n0 c0 : Nat} {B0 : Nat → Option Addr} {L0 C0 : Nat → Nat} {Z0 : Nat → Nat → Int} {a1 : Int} {w : World} (h0 : Rds w A0 n0 B0 L0 C0 Z0) :
    Calls Try.prog 6 #[.slice A0 n0 c0, .int .i64 a1] w fun e w' => e = .returned (.bool true) ∧ Keep w w' := by
  by_cases h : n0 ≤ 100
  · rcases Nat.eq_zero_or_pos n0 with rfl | hp
    · exact valid_zero A0 c0 a1 w
    · exact valid_short A0 n0 c0 B0 L0 C0 Z0 a1 w h0 h hp
  · exact valid_long A0 n0 c0 a1 w (by omega)
end Go.Proofs.Ytkkoajkoiiolgaa
