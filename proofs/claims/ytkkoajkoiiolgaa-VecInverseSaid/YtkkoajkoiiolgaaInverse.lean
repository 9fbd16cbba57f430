/-
  The walk of VecInverse: it answers true for every input. No condition.
-/
import Derived.Test.YtkkoajkoiiolgaaCompares
namespace Go.Proofs.Ytkkoajkoiiolgaa
open Go.RowKit

set_option maxHeartbeats 1000000 in
theorem inverse_long (A B : Option Addr) (n m ca cb : Nat) (w : World) (h : 100 < n ∨ (n ≤ 100 ∧ n ≠ m)) :
    Calls Try.prog 5 #[.slice A n ca, .slice B m cb] w fun e w' => e = .returned (.bool true) ∧ Keep w w' := by
  rcases h with h | ⟨h1, h⟩
  · go_enter Try.func5, Try.ntmps5
    go_wp2_with (go_at_call 9; refine (awake_fn _).mono ?_; rintro e w1 ⟨rfl, hk⟩)
    go_ret
    exact ⟨rfl, Keep.trans (by assumption) (by assumption)⟩
  · have hb : ((n : Int) != (m : Int)) = true := by simp; omega
    replace h : Hid (n ≠ m) := h
    go_enter Try.func5, Try.ntmps5
    go_wp2_with (go_at_call 9; refine (awake_fn _).mono ?_; rintro e w1 ⟨rfl, hk⟩)
    go_ret
    exact ⟨rfl, Keep.trans (by assumption) (by assumption)⟩

theorem Rd.zeros (w : World) {B n : Nat} (hB : B = w.heap.size) (hn : n ≤ 1048576) : Rd (w.alloc (.cells (madeCells #[.int .i64 0] n) 2)) (some ⟨B, 0, none⟩) n (fun _ => 0) := by
  subst hB
  exact Rd.ofRow (World.rowIs_made w _ _ 2) (by omega) (fun k hk => by omega)

theorem inR_of {n : Int} (h : -9223372036854775808 ≤ n ∧ n ≤ 9223372036854775807) : inR n = true := by unfold inR; exact decide_eq_true h

open Classical in
set_option maxHeartbeats 4000000 in
theorem inverse_short (A B : Option Addr) (n ca cb : Nat) (Z Y : Nat → Int) (w : World) (hA : Rd w A n Z) (hB : Rd w B n Y) (h1 : n ≤ 100) :
    Calls Try.prog 5 #[.slice A n ca, .slice B n cb] w fun e w' => e = .returned (.bool true) ∧ Keep w w' := by
  obtain ⟨s, hs⟩ : ∃ s : Bool, s = true ↔ SubOk n (fun k => Z k + Y k) n Z := ⟨decide _, decide_eq_true_iff⟩
  replace hs : Hid (s = true ↔ SubOk n (fun k => Z k + Y k) n Z) := hs
  have hrZ : Hid (∀ k, k < n → -9223372036854775808 ≤ Z k ∧ Z k ≤ 9223372036854775807) := hA.range
  have hrY : Hid (∀ k, k < n → -9223372036854775808 ≤ Y k ∧ Y k ≤ 9223372036854775807) := hB.range
  go_enter Try.func5, Try.ntmps5
  go_wp2_with fail
  refine (awake_fn _).mono ?_
  rintro e w1 ⟨rfl, hk⟩
  replace hA := hA.keep hk
  replace hB := hB.keep hk
  go_wp2_with fail
  by_cases o1 : Add2Ok n n Z Y
  · replace o1 : Hid (Add2Ok n n Z Y) := o1
    refine (add2_yes _ _ n n _ _ Z Y _ (Rds.two rfl hA hB) (by omega) (by omega) o1.out).mono ?_
    rintro e w2 ⟨B1, rfl, hk2, hx⟩
    replace hk2 := Keep.ofAlloc _ hk2
    replace hA := hA.keep hk2
    replace hB := hB.keep hk2
    replace hk := hk.trans hk2
    clear hk2
    go_wp2_with fail
    refine (zero_fn _ _ (by omega)).mono ?_
    rintro e w' ⟨rfl, rfl⟩
    have hz := Rd.zeros w2 (B := w2.heap.size) rfl (n := n) (by omega)
    have hk3 := keepAlloc w2 (.cells (madeCells #[.int .i64 0] n) 2)
    replace hA := hA.keep hk3
    replace hB := hB.keep hk3
    replace hx := hx.keep hk3
    replace hk := hk.trans hk3
    clear hk3
    go_wp2_with fail
    refine (add2_yes _ _ n n _ _ Z (fun _ => 0) _ (Rds.two (by simp) hA hz) (by omega) (by omega) ⟨rfl, fun k hk => inR_of (by have := hrZ.out k hk; show -9223372036854775808 ≤ Z k + 0 ∧ Z k + 0 ≤ 9223372036854775807; omega)⟩).mono ?_
    rintro e w3 ⟨B2, rfl, hk4, hy⟩
    replace hk4 := Keep.ofAlloc _ hk4
    replace hA := hA.keep hk4
    replace hB := hB.keep hk4
    replace hx := hx.keep hk4
    replace hk := hk.trans hk4
    clear hk4 hz
    go_wp2_with fail
    refine (rsame_k hy hA true (same_yes rfl fun k _ => by show Z k + 0 = Z k; omega)).mono ?_
    rintro e w4 ⟨rfl, hk5⟩
    replace hA := hA.keep hk5
    replace hB := hB.keep hk5
    replace hx := hx.keep hk5
    replace hk := hk.trans hk5
    clear hk5 hy
    go_wp2_with fail
    refine (sub_b _ _ _ _ _ _ _ _ _ hx hA (by omega) s hs.out).mono ?_
    rintro e w5 ⟨D, c1, rfl, hk6, hd⟩
    replace hA := hA.keep hk6
    replace hB := hB.keep hk6
    replace hk := hk.trans hk6
    clear hk6 hx
    replace hk : Hid (Keep w w5) := hk
    go_wp2_with fail
    go_loopg [11, 12] n (fun g t i wr => ∃ (k : Nat) (b : Bool), k ≤ n ∧ g = n - k ∧ i = .int .i64 k ∧ t = .bool b ∧ w5 = wr ∧ Aside (b = true ↔ ∃ j, j < k ∧ Y j < 0))
    case atStart => exact ⟨0, false, Nat.zero_le _, rfl, rfl, rfl, rfl, ⟨(fun h => by cases h), fun ⟨j, h, _⟩ => absurd h (Nat.not_lt_zero _)⟩⟩
    case round =>
      obtain ⟨k, b, hk', rfl, rfl, rfl, rfl, hb⟩ := hrel
      by_cases hlt : k < n
      · obtain ⟨bb, off, rfl, cb⟩ := hB.adr (by omega)
        have g1 := cb k hlt
        clear cb
        cases b
        · by_cases hz : Y k < 0
          · go_wp2
            go_roundg (n - (k + 1))
            case measure => omega
            case rel => exact ⟨k + 1, true, hlt, rfl, by go_num, rfl, rfl, ⟨fun _ => ⟨k, by omega, hz⟩, fun _ => rfl⟩⟩
          · go_wp2
            go_roundg (n - (k + 1))
            case measure => omega
            case rel => exact ⟨k + 1, false, hlt, rfl, by go_num, rfl, rfl, ⟨(fun h => by cases h), fun ⟨j, h, h2⟩ => by
              rcases Nat.lt_succ_iff_lt_or_eq.1 h with h' | rfl
              · exact hb.out.2 ⟨j, h', h2⟩
              · omega⟩⟩
        · go_wp2
          go_roundg (n - (k + 1))
          case measure => omega
          case rel => exact ⟨k + 1, true, hlt, rfl, by go_num, rfl, rfl, ⟨fun _ => by obtain ⟨j, h, h2⟩ := hb.out.1 (by simp); exact ⟨j, by omega, h2⟩, fun _ => rfl⟩⟩
      · obtain rfl : k = n := by omega
        clear hlt hk'
        cases b
        · have hall : ∀ j, j < k → 0 ≤ Y j := fun j hj => by
            rcases Int.lt_or_le (Y j) 0 with h | h
            · have := hb.out.2 ⟨j, hj, h⟩; cases this
            · exact h
          obtain rfl : s = true := hs.out.2 ⟨rfl, fun j hj => by
            have h1 := hall j hj
            have h2 := hrY.out j hj
            exact decide_eq_true (by show Z j ≤ Z j + Y j ∧ Z j + Y j - Z j ≤ 9223372036854775807; omega)⟩
          clear hall
          go_wp2_with fail
          refine (rsame_k hd hB true (same_yes rfl fun k _ => by show Z k + Y k - Z k = Y k; omega)).mono ?_
          rintro e w6 ⟨rfl, hk7⟩
          go_wp2_with fail
          go_ret
          exact ⟨rfl, hk.out.trans hk7⟩
        · obtain rfl : s = false := by
            cases s
            · rfl
            · obtain ⟨j, hj, h⟩ := hb.out.1 rfl
              have h2 : Z j ≤ Z j + Y j ∧ Z j + Y j - Z j ≤ 9223372036854775807 := of_decide_eq_true ((hs.out.1 rfl).2 j hj)
              omega
          go_wp2_with fail
          go_ret
          exact ⟨rfl, hk.out⟩
  · replace o1 : Hid (¬ Add2Ok n n Z Y) := o1
    refine (add2_no _ _ n n _ _ Z Y _ (Rds.two rfl hA hB) (by omega) (by omega) o1.out).mono ?_
    rintro e w2 ⟨rfl, hk2⟩
    replace hk := hk.trans (Keep.ofAlloc _ hk2)
    clear hk2
    go_wp2_with fail
    go_ret
    exact ⟨rfl, hk⟩

theorem inverse_walk {A0 A1 : Option Addr} {n0 n1 c0 c1 : Nat} {Z0 Z1 : Nat → Int} {w : World} (h0 : Rd w A0 n0 Z0) (h1 : Rd w A1 n1 Z1) :
    Calls Try.prog 5 #[.slice A0 n0 c0, .slice A1 n1 c1] w fun e w' => e = .returned (.bool true) ∧ Keep w w' := by
  by_cases h : n0 ≤ 100 ∧ n0 = n1
  · obtain ⟨h, rfl⟩ := h
    exact inverse_short A0 A1 n0 c0 c1 Z0 Z1 w h0 h1 h
  · exact inverse_long A0 A1 n0 n1 c0 c1 w (by omega)
end Go.Proofs.Ytkkoajkoiiolgaa
