/-
  The reference's Sub and Add. Conditions: at most 1048576 rows and elements.
-/
import Derived.Test.YtkkoajkoiiolgaaWrong
import Derived.Deep.RegionHeld3
namespace Go.Proofs.Ytkkoajkoiiolgaa
open Go.RowKit

def RSubPost (n : Nat) (Z : Nat → Int) (m : Nat) (Y : Nat → Int) (w : World) (e : Ending) (w' : World) : Prop :=
  Below w.heap.size w w' ∧
    ((SubOk n Z m Y ∧ ∃ A cap, e = .returned (.tuple #[.slice A n cap, .bool true]) ∧ Rd w' A n (fun k => Z k - Y k)) ∨
      (¬ SubOk n Z m Y ∧ e = .returned (.tuple #[.slice none 0 0, .bool false])))

set_option maxHeartbeats 1000000 in
theorem rsub_ne (A B : Option Addr) (n m c d : Nat) (Z Y : Nat → Int) (w : World) (h : n ≠ m) :
    Calls Try.prog 14 #[.slice A n c, .slice B m d] w (RSubPost n Z m Y w) := by
  have hb : ((n : Int) != (m : Int)) = true := by simp; omega
  replace h : Hid (n ≠ m) := h
  go_enter Try.func14, Try.ntmps14
  go_wp2
  go_ret2
  exact ⟨Below.refl _ _, Or.inr ⟨fun k => h.out k.1, rfl⟩⟩

/-- What was there is as it was. -/
def Keep (w w' : World) : Prop := Below w.heap.size w w'
theorem keep_cell {w w' : World} {a : Addr} {v : Value} (hb : Keep w w') (hc : w.cell? a = some v) : w'.cell? a = some v := cell_keep hb hc
theorem Keep.grown {w w' : World} (h : Keep w w') : w.grownBy w' none := ⟨h.os, h.tape, h.output, h.size, fun k hk _ => h.block k hk⟩
theorem Keep.trans {a b c : World} (h : Keep a b) (k : Keep b c) : Keep a c := Below.trans h (Below.mono k h.size)
theorem Keep.four {a b c d e : World} (h1 : Keep a b) (h2 : Keep b c) (h3 : Keep c d) (h4 : Keep d e) : Keep a e := h1.trans (h2.trans (h3.trans h4))
theorem Keep.ofDrew {w w' : World} (h : Keep w.drew w') : Keep w w' := ⟨h.os, h.tape, h.output, h.size, h.block⟩
theorem own_keep {w w' : World} {base n : Nat} {e : TypeId} {z : Nat} {v : Value} {xs : List Value} (h : w.ownsRow base e z v n xs) (k : Keep w w') : w'.ownsRow base e z v n xs :=
  h.kept k.grown (Classical.em (v.ownBlock = none))
theorem below_keep {B : Nat} {w a b : World} (h : Below B w a) (hB : B ≤ a.heap.size) (k : Keep a b) : Below B w b := h.trans (Below.mono k hB)
theorem of_k (n : Int) (w : World) : Calls Try.prog 23 #[.int .i64 n] w fun e w' => e = .returned (.agg #[.int .i64 (hi n), .int .i64 (lo n)]) ∧ Keep w w' := of_fn n w
theorem minus_k (a b : Int) (w : World) (h1 : -1152921504606846976 ≤ hi a) (h2 : hi a ≤ 1152921504606846976) (h3 : -1152921504606846976 ≤ hi b) (h4 : hi b ≤ 1152921504606846976) :
    Calls Try.prog 28 #[.agg #[.int .i64 (hi a), .int .i64 (lo a)], .agg #[.int .i64 (hi b), .int .i64 (lo b)]] w fun e w' => e = .returned (.agg #[.int .i64 (hi (a - b)), .int .i64 (lo (a - b))]) ∧ Keep w w' := minus_fn a b w h1 h2 h3 h4
theorem plus_k (a b : Int) (w : World) (h1 : -1152921504606846976 ≤ hi a) (h2 : hi a ≤ 1152921504606846976) (h3 : -1152921504606846976 ≤ hi b) (h4 : hi b ≤ 1152921504606846976) :
    Calls Try.prog 24 #[.agg #[.int .i64 (hi a), .int .i64 (lo a)], .agg #[.int .i64 (hi b), .int .i64 (lo b)]] w fun e w' => e = .returned (.agg #[.int .i64 (hi (a + b)), .int .i64 (lo (a + b))]) ∧ Keep w w' := plus_fn a b w h1 h2 h3 h4
theorem value_yk (a : Int) (w : World) (h : -9223372036854775808 ≤ a ∧ a ≤ 9223372036854775807) :
    Calls Try.prog 25 #[.agg #[.int .i64 (hi a), .int .i64 (lo a)]] w fun e w' => e = .returned (.tuple #[.int .i64 a, .bool true]) ∧ Keep w w' := value_yes a w h.1 h.2
theorem value_nk (a : Int) (w : World) (h : ¬ (-9223372036854775808 ≤ a ∧ a ≤ 9223372036854775807)) :
    Calls Try.prog 25 #[.agg #[.int .i64 (hi a), .int .i64 (lo a)]] w fun e w' => e = .returned (.tuple #[.int .i64 0, .bool false]) ∧ Keep w w' := value_no a w h

theorem hi_i64 {x : Int} (h : -9223372036854775808 ≤ x ∧ x ≤ 9223372036854775807) : -2147483648 ≤ hi x ∧ hi x ≤ 2147483647 := by unfold hi; omega

set_option maxHeartbeats 2000000 in
theorem rsub_eq (A B : Option Addr) (n c d : Nat) (Z Y : Nat → Int) (w : World) (hA : Rd w A n Z) (hB : Rd w B n Y) (hn : n ≤ 1048576) :
    Calls Try.prog 14 #[.slice A n c, .slice B n d] w (RSubPost n Z n Y w) := by
  obtain ⟨i0, hi0, hz0, hz1, hz2⟩ := info_parts Try.info2
  go_enter Try.func14, Try.ntmps14
  go_wp2
  go_loopg [6, 7] n (fun g ov i wr => ∃ k : Nat, k ≤ n ∧ g = n - k ∧ i = .int .i64 k ∧ Below w.heap.size w wr ∧ wr.ownsRow w.heap.size 2 1 ov k (rowL k fun j => Z j - Y j) ∧ Aside (∀ j, j < k → subOk (Z j) (Y j) = true))
  case atStart => exact ⟨0, Nat.zero_le _, rfl, rfl, Below.refl _ _, World.ownsRow_nil _ _ _ _, fun _ h => absurd h (Nat.not_lt_zero _)⟩
  case round =>
    obtain ⟨k, hk, rfl, rfl, hBk, hown, hin⟩ := hrel
    by_cases hlt : k < n
    · obtain ⟨b, off, rfl, ca⟩ := (hA.below hBk).adr (by omega)
      obtain ⟨b', off', rfl, cb⟩ := (hB.below hBk).adr (by omega)
      have g0 := ca k hlt
      have g1 := cb k hlt
      have r0 := hA.range k hlt
      have r1 := hB.range k hlt
      obtain ⟨p1, p2⟩ := hi_i64 r0
      obtain ⟨p3, p4⟩ := hi_i64 r1
      replace r0 : Hid (-9223372036854775808 ≤ Z k ∧ Z k ≤ 9223372036854775807) := r0
      replace r1 : Hid (-9223372036854775808 ≤ Y k ∧ Y k ≤ 9223372036854775807) := r1
      clear ca cb hA hB
      by_cases hr : -9223372036854775808 ≤ Z k - Y k ∧ Z k - Y k ≤ 9223372036854775807
      · replace hr : Hid (-9223372036854775808 ≤ Z k - Y k ∧ Z k - Y k ≤ 9223372036854775807) := hr
        go_wp2_with fail
        go_region_held3 (fun w' => w'.cell? ⟨b, off + k, none⟩ = some (.int .i64 (Z k)) ∧ w'.cell? ⟨b', off' + k, none⟩ = some (.int .i64 (Y k)))
          (first | go_keep | (go_split_ands; exact ⟨keep_cell (by assumption) (by assumption), keep_cell (by assumption) (by assumption)⟩))
          (first
            | (go_at_call 23; refine (of_k _ _).mono ?_; rintro e w1 ⟨rfl, hb1⟩)
            | (go_at_call 28; refine (minus_k _ _ _ (by omega) (by omega) (by omega) (by omega)).mono ?_; rintro e w1 ⟨rfl, hb1⟩)
            | (go_at_call 25; refine (value_yk _ _ hr.out).mono ?_; rintro e w1 ⟨rfl, hb1⟩))
        have hkp : Keep wr w1 := Keep.ofDrew (Keep.four (by assumption) (by assumption) (by assumption) (by assumption))
        have hsz := hBk.size
        have hB1 : Below w.heap.size w w1 := below_keep hBk hsz hkp
        have hsz1 := hB1.size
        by_cases hs : 0 ≤ Z k - Y k
        · have hown1 := own_keep hown hkp
          clear hown
          go_wp2_with (at_builtin; refine wpList_append_own _ rfl _ _ 24 rfl w.heap.size 2 i0 (.int .i64 0) 1 8 Try.underlying24 hi0 hz0 hz1 hz2 rfl (by decide) _ _ _ rfl (hown1.alloc _) ⟨w1.heap.size, 0, none⟩ 1 1 [.int .i64 (Z k - Y k)] rfl rfl (cell_one_new _ _ _) (ints_oneCell .i64 [Z k - Y k]) (by unfold maxLen; omega) (by omega) (by simp; omega) ?_; intro v' w2 hown2 hgrow hnil)
          have hB2 : Below w.heap.size w w2 := (hB1.alloc hsz1 _).grown hgrow (by simp; omega) (fun q hq => (hown1.lt q hq).1)
          rw [rowL_succ k fun j => Z j - Y j] at hown2
          go_roundg (n - (k + 1))
          case measure => omega
          case rel => exact ⟨k + 1, hlt, rfl, by go_num, hB2, hown2, fun j hj => by
            rcases Nat.lt_succ_iff_lt_or_eq.1 hj with h | rfl
            · exact hin.out j h
            · exact decide_eq_true ⟨by omega, hr.out.2⟩⟩
        · go_wp2
          go_ret2
          exact ⟨hB1, Or.inr ⟨(fun h => by have := (subOk_range (h.2 k hlt)).1; omega), rfl⟩⟩
      · replace hr : Hid (¬ (-9223372036854775808 ≤ Z k - Y k ∧ Z k - Y k ≤ 9223372036854775807)) := hr
        go_wp2_with fail
        go_region_held3 (fun w' => w'.cell? ⟨b, off + k, none⟩ = some (.int .i64 (Z k)) ∧ w'.cell? ⟨b', off' + k, none⟩ = some (.int .i64 (Y k)))
          (first | go_keep | (go_split_ands; exact ⟨keep_cell (by assumption) (by assumption), keep_cell (by assumption) (by assumption)⟩))
          (first
            | (go_at_call 23; refine (of_k _ _).mono ?_; rintro e w1 ⟨rfl, hb1⟩)
            | (go_at_call 28; refine (minus_k _ _ _ (by omega) (by omega) (by omega) (by omega)).mono ?_; rintro e w1 ⟨rfl, hb1⟩)
            | (go_at_call 25; refine (value_nk _ _ hr.out).mono ?_; rintro e w1 ⟨rfl, hb1⟩))
        have hkp : Keep wr w1 := Keep.ofDrew (Keep.four (by assumption) (by assumption) (by assumption) (by assumption))
        have hB1 : Below w.heap.size w w1 := below_keep hBk hBk.size hkp
        go_wp2
        go_ret2
        exact ⟨hB1, Or.inr ⟨(fun h => by have := subOk_range (h.2 k hlt); have := hr.out; omega), rfl⟩⟩
    · obtain rfl : k = n := by omega
      obtain ⟨A', cap', rfl, hrd⟩ := Rd.ofOwn hown (by omega) (fun j hj => by have := subOk_range (hin.out j hj); omega)
      go_wp2
      go_ret2
      exact ⟨hBk, Or.inl ⟨⟨rfl, hin.out⟩, _, _, rfl, hrd⟩⟩

theorem rsub_any (A B : Option Addr) (n m c d : Nat) (Z Y : Nat → Int) (w : World) (hA : Rd w A n Z) (hB : Rd w B m Y) (hn : n ≤ 1048576) :
    Calls Try.prog 14 #[.slice A n c, .slice B m d] w (RSubPost n Z m Y w) := by
  by_cases h : n = m
  · subst h; exact rsub_eq A B n c d Z Y w hA hB hn
  · exact rsub_ne A B n m c d Z Y w h
end Go.Proofs.Ytkkoajkoiiolgaa
