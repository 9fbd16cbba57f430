/-
  The walk of VecCompares: it answers true for every input. No condition.
-/
import Derived.Test.YtkkoajkoiiolgaaPair
namespace Go.Proofs.Ytkkoajkoiiolgaa
open Go.RowKit

/-- What Sub hands back, under one name for both ends: s says whether there is a difference. -/
def SubB (s : Bool) (n : Nat) (Z Y : Nat → Int) (w : World) (e : Ending) (w' : World) : Prop :=
  ∃ D c, e = .returned (.tuple #[.slice D (cond s n 0) c, .bool s]) ∧ Keep w w' ∧ Rd w' D (cond s n 0) (fun k => Z k - Y k)
theorem sub_b (A B : Option Addr) (n m c d : Nat) (Z Y : Nat → Int) (w : World) (hA : Rd w A n Z) (hB : Rd w B m Y) (hn : n ≤ 1048576) (s : Bool) (hs : s = true ↔ SubOk n Z m Y) :
    Calls Try.prog 13 #[.slice A n c, .slice B m d] w (SubB s n Z Y w) := by
  cases s
  · exact (sub_not A B n m c d Z Y w hA hB hn (fun h => by have := hs.2 h; cases this)).mono fun e w' ⟨he, hk⟩ => ⟨none, 0, he, hk, Rd.nil _ _ _⟩
  · exact (sub_ok A B n m c d Z Y w hA hB hn (hs.1 rfl)).mono fun e w' ⟨B', he, hk, hr⟩ => ⟨_, _, he, hk, hr⟩
theorem rsub_b (A B : Option Addr) (n m c d : Nat) (Z Y : Nat → Int) (w : World) (hA : Rd w A n Z) (hB : Rd w B m Y) (hn : n ≤ 1048576) (s : Bool) (hs : s = true ↔ SubOk n Z m Y) :
    Calls Try.prog 14 #[.slice A n c, .slice B m d] w (SubB s n Z Y w) := by
  refine (rsub_any A B n m c d Z Y w hA hB hn).mono ?_
  rintro e w' ⟨hb, ⟨hok, A', cap, he, hrow⟩ | ⟨hno, he⟩⟩
  · obtain rfl : s = true := hs.2 hok
    exact ⟨_, _, he, hb, hrow⟩
  · obtain rfl : s = false := by
      cases s
      · rfl
      · exact absurd (hs.1 rfl) hno
    exact ⟨none, 0, he, hb, Rd.nil _ _ _⟩

theorem same_refl (n : Nat) (Z : Nat → Int) : sameB n Z n Z = true := same_yes rfl fun _ _ => rfl

theorem most_yes (A B : Option Addr) (n c d : Nat) (Z Y : Nat → Int) (w : World) (hA : Rd w A n Z) (hB : Rd w B n Y) (hn : n ≤ 1048576) :
    Calls Try.prog 18 #[.slice A n c, .slice B n d] w fun e w' => ∃ D, e = .returned (.tuple #[.slice (some ⟨D, 0, none⟩) n n, .bool true]) ∧ Keep w w' ∧ w'.rowIs D 2 n (fun k => .int .i64 (max (Z k) (Y k))) := by
  refine (most_any A B n n c d Z Y w hA hB hn).mono ?_
  rintro e w' ⟨hb, ⟨hok, he, hrow⟩ | ⟨hno, he⟩⟩
  · exact ⟨_, he, hb, hrow⟩
  · exact absurd rfl hno
theorem most_no (A B : Option Addr) (n m c d : Nat) (Z Y : Nat → Int) (w : World) (hA : Rd w A n Z) (hB : Rd w B m Y) (hn : n ≤ 1048576) (h : n ≠ m) :
    Calls Try.prog 18 #[.slice A n c, .slice B m d] w fun e w' => e = .returned (.tuple #[.slice none 0 0, .bool false]) ∧ Keep w w' := by
  refine (most_any A B n m c d Z Y w hA hB hn).mono ?_
  rintro e w' ⟨hb, ⟨hok, he, hrow⟩ | ⟨hno, he⟩⟩
  · exact absurd hok h
  · exact ⟨he, hb⟩
theorem rfits_k {A B : Option Addr} {n m c d : Nat} {Z Y : Nat → Int} {w : World} (hA : Rd w A n Z) (hB : Rd w B m Y) (b : Bool) (h : fitsB n Z m Y = b) :
    Calls Try.prog 16 #[.slice A n c, .slice B m d] w fun e w' => e = .returned (.bool b) ∧ Keep w w' := (rfits_is A B n m c d Z Y w hA hB b h).mono fun _ _ h => ⟨h.1, h.2.keep⟩

set_option maxHeartbeats 1000000 in
theorem compares_long (A B : Option Addr) (n m ca cb : Nat) (w : World) (h : 300 < n ∨ (n ≤ 300 ∧ 300 < m)) :
    Calls Try.prog 4 #[.slice A n ca, .slice B m cb] w fun e w' => e = .returned (.bool true) ∧ Keep w w' := by
  rcases h with h | ⟨h1, h⟩
  all_goals
    go_enter Try.func4, Try.ntmps4
    go_wp2_with (go_at_call 9; refine (awake_fn _).mono ?_; rintro e w1 ⟨rfl, hk⟩)
    go_ret
    exact ⟨rfl, Keep.trans (by assumption) (by assumption)⟩

open Classical in
set_option maxHeartbeats 4000000 in
theorem compares_short (A B : Option Addr) (n m ca cb : Nat) (Z Y : Nat → Int) (w : World) (hA : Rd w A n Z) (hB : Rd w B m Y) (h1 : n ≤ 300) (h2 : m ≤ 300) :
    Calls Try.prog 4 #[.slice A n ca, .slice B m cb] w fun e w' => e = .returned (.bool true) ∧ Keep w w' := by
  obtain ⟨s, hs⟩ : ∃ s : Bool, s = true ↔ SubOk n Z m Y := ⟨decide (SubOk n Z m Y), decide_eq_true_iff⟩
  obtain ⟨f, hf⟩ : ∃ f : Bool, fitsB n Z m Y = f := ⟨_, rfl⟩
  obtain ⟨q, hq⟩ : ∃ q : Bool, sameB n Z m Y = q := ⟨_, rfl⟩
  replace hs : Hid (s = true ↔ SubOk n Z m Y) := hs
  replace hf : Hid (fitsB n Z m Y = f) := hf
  replace hq : Hid (sameB n Z m Y = q) := hq
  go_enter Try.func4, Try.ntmps4
  go_wp2_with fail
  refine (awake_fn _).mono ?_
  rintro e w1 ⟨rfl, hk⟩
  replace hA := hA.keep hk
  replace hB := hB.keep hk
  go_wp2_with fail
  refine (sub_b _ _ _ _ _ _ _ _ _ hA hB (by omega) s hs.out).mono ?_
  rintro e w2 ⟨D1, c1, rfl, hk2, hd1⟩
  replace hA := hA.keep hk2
  replace hB := hB.keep hk2
  replace hk := hk.trans hk2
  clear hk2
  go_wp2_with fail
  refine (rsub_b _ _ _ _ _ _ _ _ _ hA hB (by omega) s hs.out).mono ?_
  rintro e w3 ⟨D2, c2, rfl, hk3, hd2⟩
  replace hA := hA.keep hk3
  replace hB := hB.keep hk3
  replace hd1 := hd1.keep hk3
  replace hk := hk.trans hk3
  clear hk3
  go_wp2_with fail
  refine (rsame_k hd1 hd2 true (same_refl _ _)).mono ?_
  rintro e w4 ⟨rfl, hk4⟩
  replace hA := hA.keep hk4
  replace hB := hB.keep hk4
  replace hk := hk.trans hk4
  clear hk4 hd1 hd2
  go_wp2_with fail
  refine (fits_k hA hB f hf.out).mono ?_
  rintro e w5 ⟨rfl, hk5⟩
  replace hA := hA.keep hk5
  replace hB := hB.keep hk5
  replace hk := hk.trans hk5
  clear hk5
  go_wp2_with fail
  refine (rfits_k hA hB f hf.out).mono ?_
  rintro e w6 ⟨rfl, hk6⟩
  replace hA := hA.keep hk6
  replace hB := hB.keep hk6
  replace hk := hk.trans hk6
  clear hk6
  go_wp2_with fail
  refine (same_k hA hB q hq.out).mono ?_
  rintro e w7 ⟨rfl, hk7⟩
  replace hA := hA.keep hk7
  replace hB := hB.keep hk7
  replace hk := hk.trans hk7
  clear hk7
  go_wp2_with fail
  refine (rsame_k hA hB q hq.out).mono ?_
  rintro e w8 ⟨rfl, hk8⟩
  replace hA := hA.keep hk8
  replace hB := hB.keep hk8
  replace hk := hk.trans hk8
  clear hk8
  by_cases hnm : n = m
  · subst hnm
    go_wp2_with fail
    refine (most_yes _ _ _ _ _ _ _ _ hA hB (by omega)).mono ?_
    rintro e w9 ⟨D, rfl, hk9, hrow⟩
    replace hA := hA.keep hk9
    replace hB := hB.keep hk9
    replace hk := hk.trans hk9
    clear hk9
    go_wp2_with fail
    replace hk : Hid (Keep w w9) := hk
    replace hrow : Hid (w9.rowIs D 2 n (fun k => .int .i64 (max (Z k) (Y k)))) := hrow
    go_loopg [11] n (fun g i wr => ∃ k : Nat, k ≤ n ∧ g = n - k ∧ i = .int .i64 k ∧ Drawn w9 wr)
    case atStart => exact ⟨0, Nat.zero_le _, rfl, rfl, Drawn.refl _⟩
    case round =>
      obtain ⟨k, hk', rfl, rfl, hd⟩ := hrel
      by_cases hlt : k < n
      · obtain ⟨b, off, rfl, ca⟩ := (hA.below hd.below).adr (by omega)
        obtain ⟨b', off', rfl, cb⟩ := (hB.below hd.below).adr (by omega)
        have g0 := ca k hlt
        have g1 := cb k hlt
        have g2 := cell_keep hd.below (hrow.out.cell hlt)
        clear ca cb hA hB
        rcases Int.lt_or_le (Z k) (Y k) with hz | hz
        · rw [show max (Z k) (Y k) = Y k from by omega] at g2
          go_wp2
          go_quiet (fail)
          go_wp2
          go_roundg (n - (k + 1))
          case measure => omega
          case rel => exact ⟨k + 1, hlt, rfl, by go_num, hd.drewN _⟩
        · rw [show max (Z k) (Y k) = Z k from by omega] at g2
          go_wp2
          go_quiet (fail)
          go_wp2
          go_roundg (n - (k + 1))
          case measure => omega
          case rel => exact ⟨k + 1, hlt, rfl, by go_num, hd.drewN _⟩
      · go_wp2
        go_ret
        exact ⟨rfl, hk.out.trans hd.keep⟩
  · have hb : ((n : Int) == (m : Int)) = false := by simp; omega
    replace hnm : Hid (n ≠ m) := hnm
    go_wp2_with fail
    refine (most_no _ _ _ _ _ _ _ _ _ hA hB (by omega) hnm.out).mono ?_
    rintro e w9 ⟨rfl, hk9⟩
    go_wp2_with fail
    go_ret
    exact ⟨rfl, hk.trans hk9⟩

theorem compares_walk {A0 A1 : Option Addr} {n0 n1 c0 c1 : Nat} {Z0 Z1 : Nat → Int} {w : World} (h0 : Rd w A0 n0 Z0) (h1 : Rd w A1 n1 Z1) :
    Calls Try.prog 4 #[.slice A0 n0 c0, .slice A1 n1 c1] w fun e w' => e = .returned (.bool true) ∧ Keep w w' := by
  by_cases h : n0 ≤ 300 ∧ n1 ≤ 300
  · exact compares_short A0 A1 n0 n1 c0 c1 Z0 Z1 w h0 h1 h.1 h.2
  · exact compares_long A0 A1 n0 n1 c0 c1 w (by omega)
end Go.Proofs.Ytkkoajkoiiolgaa
