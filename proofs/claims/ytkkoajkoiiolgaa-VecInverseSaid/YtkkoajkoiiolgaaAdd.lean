/-
  vec.Zero, vec.sumAt and vec.Add: make of zeros; the sum of a column in 128 bits; the sum of rows. Conditions: at most 1048576 rows.
-/
import Derived.Test.YtkkoajkoiiolgaaFits
namespace Go.Proofs.Ytkkoajkoiiolgaa
open Go.RowKit

theorem Try.info2 : (Try.prog.info? 2).map (fun i => (i.zero, i.size, i.bytes)) = some (some (.int .i64 0), 1, 8) := by kernel_rfl

theorem val_bool {a b : Bool} (h : a = b) : Value.bool a = .bool b := by rw [h]

set_option maxHeartbeats 400000 in
theorem sumAt_fn (i : Nat) (L : Option Addr) (R C : Nat) (A : Nat → Option Addr) (len K : Nat → Nat) (Z : Nat → Nat → Int) (w : World) (hL : Rds w L R A len K Z) (hR : R ≤ 1048576) (hi : ∀ r, r < R → i < len r) (hi2 : i ≤ 9223372036854775807) :
    Calls Try.prog 22 #[.int .i64 i, .slice L R C] w fun e w' => e = .returned (.tuple #[.int .i64 (wrap64 (sumTo R fun r => Z r i)), .bool (inR (sumTo R fun r => Z r i))]) ∧ w' = w := by
  go_enter Try.func22, Try.ntmps22
  go_wp2
  go_loopg [6, 7, 14] R (fun g h l j wr => ∃ k : Nat, k ≤ R ∧ g = R - k ∧ j = .int .i64 k ∧ h = .int .i64 (hi64 (sumTo k fun r => Z r i)) ∧ l = .int .u64 (lo64 (sumTo k fun r => Z r i)) ∧ w = wr)
  case atStart => exact ⟨0, Nat.zero_le _, rfl, rfl, rfl, rfl, rfl⟩
  case round =>
    obtain ⟨k, hk, rfl, rfl, rfl, rfl, rfl⟩ := hrel
    by_cases hlt : k < R
    · obtain ⟨b, off, rfl, ca⟩ := hL.adr (by omega)
      have hsum : ∀ r, r < k → -9223372036854775808 ≤ Z r i ∧ Z r i ≤ 9223372036854775807 := fun r hr => (hL.row r (by omega)).range i (hi r (by omega))
      have hrow := hL.row k hlt
      have hik := hi k hlt
      obtain ⟨b', off', ea, cb⟩ := hrow.adr (by omega)
      have g0 := ca k hlt
      rw [ea] at g0
      have g1 := cb i hik
      obtain ⟨z1, z2⟩ := hrow.range i hik
      have hlen := hrow.small
      clear ca cb hrow hL hi ea
      have hadd := fun W => add64 (lo64 (sumTo k fun r => Z r i)) (lo64 (Z k i)) (lo64_nn _) (lo64_nn _) W
      rw [lo64_step, show (lo64 (sumTo k fun r => Z r i) + lo64 (Z k i)) / 18446744073709551616 = carry (sumTo k fun r => Z r i) (Z k i) from rfl] at hadd
      obtain ⟨h1, h2⟩ := hi64_bd (sumTo_bd (R := k) (f := fun r => Z r i) hsum) (by omega)
      have hu := u64_wrap (Z k i)
      have c1 := carry_nn (sumTo k fun r => Z r i) (Z k i)
      have c2 := carry_le (sumTo k fun r => Z r i) (Z k i)
      clear hsum
      go_wp2
      go_roundg (R - (k + 1))
      case measure => omega
      case rel => exact ⟨k + 1, hlt, rfl, by go_num, val_int (hi64_step z1 z2), rfl, rfl⟩
    · obtain rfl : k = R := by omega
      go_wp2
      go_ret2
      exact ⟨ret2 (val_int (wrap_lo64 _)) (val_bool ((inR_lo _).trans (inR_is _))), rfl⟩

set_option maxHeartbeats 400000 in
theorem zero_fn (n : Nat) (w : World) (hn : n ≤ 1048576) :
    Calls Try.prog 19 #[.int .i64 n] w fun e w' => e = .returned (.slice (some ⟨w.heap.size, 0, none⟩) n n) ∧ w' = w.alloc (.cells (madeCells #[.int .i64 0] n) 2) := by
  have hmk := run_make_row' (P := Try.prog) 24 2 (.int .i64 0) 8 Try.underlying24 Try.info2 rfl .i64 .i64 n (by omega) (by omega)
  go_enter Try.func19, Try.ntmps19
  go_wp2
  go_ret
  exact ⟨rfl, rfl⟩

theorem inR_range {n : Int} (h : inR n = true) : -9223372036854775808 ≤ n ∧ n ≤ 9223372036854775807 := by unfold inR at h; exact of_decide_eq_true h

theorem wrap64_of_inR {n : Int} (h : inR n = true) : wrap64 n = n := IntWalk.wrap64_in n (inR_range h)
theorem sumAt_yes (i : Nat) (L : Option Addr) (R C : Nat) (A : Nat → Option Addr) (len K : Nat → Nat) (Z : Nat → Nat → Int) (w : World) (hL : Rds w L R A len K Z) (hR : R ≤ 1048576) (hi : ∀ r, r < R → i < len r) (hi2 : i ≤ 9223372036854775807) (h : inR (sumTo R fun r => Z r i) = true) :
    Calls Try.prog 22 #[.int .i64 i, .slice L R C] w fun e w' => e = .returned (.tuple #[.int .i64 (sumTo R fun r => Z r i), .bool true]) ∧ w' = w :=
  (sumAt_fn i L R C A len K Z w hL hR hi hi2).mono fun e w' ⟨he, hw⟩ => ⟨by rw [he, h, wrap64_of_inR h], hw⟩
theorem sumAt_no (i : Nat) (L : Option Addr) (R C : Nat) (A : Nat → Option Addr) (len K : Nat → Nat) (Z : Nat → Nat → Int) (w : World) (hL : Rds w L R A len K Z) (hR : R ≤ 1048576) (hi : ∀ r, r < R → i < len r) (hi2 : i ≤ 9223372036854775807) (h : inR (sumTo R fun r => Z r i) = false) :
    Calls Try.prog 22 #[.int .i64 i, .slice L R C] w fun e w' => e = .returned (.tuple #[.int .i64 (wrap64 (sumTo R fun r => Z r i)), .bool false]) ∧ w' = w :=
  (sumAt_fn i L R C A len K Z w hL hR hi hi2).mono fun e w' ⟨he, hw⟩ => ⟨by rw [he, h], hw⟩

/-- The sum of R rows exists. -/
def AddOk (R : Nat) (len : Nat → Nat) (Z : Nat → Nat → Int) : Prop := 0 < R ∧ (∀ r, r < R → len r = len 0) ∧ ∀ k, k < len 0 → inR (sumTo R fun r => Z r k) = true

theorem add_none (L : Option Addr) (C : Nat) (w : World) :
    Calls Try.prog 10 #[.slice L 0 C] w fun e w' => e = .returned (.tuple #[.slice none 0 0, .bool false]) ∧ w' = w := by
  go_enter Try.func10, Try.ntmps10
  go_wp2
  go_ret2
  exact ⟨rfl, rfl⟩

/-- What Add hands back: the sum in a new row, or nothing. -/
def AddPost (R : Nat) (len : Nat → Nat) (Z : Nat → Nat → Int) (w : World) (e : Ending) (w' : World) : Prop :=
  Below w.heap.size w w' ∧
    ((AddOk R len Z ∧ e = .returned (.tuple #[.slice (some ⟨w.heap.size, 0, none⟩) (len 0) (len 0), .bool true]) ∧ w'.rowIs w.heap.size 2 (len 0) (fun k => .int .i64 (sumTo R fun r => Z r k))) ∨
      (¬ AddOk R len Z ∧ e = .returned (.tuple #[.slice none 0 0, .bool false])))

set_option maxHeartbeats 1000000 in
theorem add_some (L : Option Addr) (R C : Nat) (A : Nat → Option Addr) (len K : Nat → Nat) (Z : Nat → Nat → Int) (w : World) (hL : Rds w L R A len K Z) (hR : R ≤ 1048576) (hlen : ∀ r, r < R → len r ≤ 1048576) (h0 : 0 < R) :
    Calls Try.prog 10 #[.slice L R C] w (AddPost R len Z w) := by
  have hRz : (0 : Int) < (R : Int) := by omega
  have hRb : ((R : Int) == 0) = false := by simp; omega
  obtain ⟨b, off, rfl, ca⟩ := hL.adr h0
  have g0 := ca 0 h0
  rw [Nat.add_zero] at g0
  have hl0 := hlen 0 h0
  go_enter Try.func10, Try.ntmps10
  go_wp2_with (go_at_call 19; refine (zero_fn _ _ (by omega)).mono ?_; rintro e w' ⟨rfl, rfl⟩)
  have hB : Below w.heap.size w (w.alloc (.cells (madeCells #[.int .i64 0] (len 0)) 2)) := (Below.refl _ _).alloc (Nat.le_refl _) _
  have hrow : (w.alloc (.cells (madeCells #[.int .i64 0] (len 0)) 2)).rowIs w.heap.size 2 (len 0) (fun _ => .int .i64 0) := World.rowIs_made w _ _ 2
  generalize w.alloc (.cells (madeCells #[.int .i64 0] (len 0)) 2) = w1 at hB hrow ⊢
  clear g0 ca
  have hL1 := hL.below hB
  go_loopg [20] R (fun g i wr => ∃ k : Nat, k ≤ R ∧ g = R - k ∧ i = .int .i64 k ∧ w1 = wr ∧ Aside (∀ j, j < k → len j = len 0))
  case atStart => exact ⟨0, Nat.zero_le _, rfl, rfl, rfl, fun _ h => absurd h (Nat.not_lt_zero _)⟩
  case round =>
    obtain ⟨k, hk, rfl, rfl, rfl, hall⟩ := hrel
    by_cases hlt : k < R
    · obtain ⟨b1, off1, e1, ca⟩ := hL1.adr h0
      injection e1 with e1
      injection e1 with e1 e2 _
      subst e1 e2
      have g1 := ca k hlt
      clear ca
      by_cases hz : len k = len 0
      · have hzb : ((len k : Int) != (len 0 : Int)) = false := by simp [hz]
        have hz : Hid (len k = len 0) := hz
        go_wp2
        go_roundg (R - (k + 1))
        case measure => omega
        case rel => exact ⟨k + 1, hlt, rfl, by go_num, rfl, fun j hj => by
          rcases Nat.lt_succ_iff_lt_or_eq.1 hj with h | rfl
          · exact hall.out j h
          · exact hz.out⟩
      · have hzb : ((len k : Int) != (len 0 : Int)) = true := by simp; omega
        have hz : Hid (len k ≠ len 0) := hz
        go_wp2
        go_ret2
        exact ⟨hB, Or.inr ⟨fun h => hz.out (h.2.1 k hlt), rfl⟩⟩
    · obtain rfl : k = R := by omega
      go_wp2
      clear hlt
      go_loopg [32] (len 0) (fun g i wr => ∃ c : Nat, c ≤ len 0 ∧ g = len 0 - c ∧ i = .int .i64 c ∧ Below w.heap.size w wr ∧ wr.rowIs w.heap.size 2 (len 0) (fun j => if j < c then .int .i64 (sumTo k fun r => Z r j) else .int .i64 0) ∧ Aside (∀ j, j < c → inR (sumTo k fun r => Z r j) = true))
      case atStart => exact ⟨0, Nat.zero_le _, rfl, rfl, hB, hrow.congr (fun j _ => by simp), fun _ h => absurd h (Nat.not_lt_zero _)⟩
      case round =>
        obtain ⟨c, hc, rfl, rfl, hBc, hrc, hin⟩ := hrel
        by_cases hlt : c < len 0
        · have hLc := hL.below hBc
          have hi : ∀ r, r < k → c < len r := fun r hr => by rw [hall.out r hr]; exact hlt
          have hi2 : c ≤ 9223372036854775807 := by omega
          have g2 := hrc.cell hlt
          have g3 := hrc.frozen c
          cases hb : inR (sumTo k fun r => Z r c)
          · have hb : Hid (inR (sumTo k fun r => Z r c) = false) := hb
            go_wp2_with (go_at_call 22; refine (sumAt_no _ _ _ _ _ _ _ _ _ hLc hR hi hi2 hb.out).mono ?_; rintro e w' ⟨rfl, rfl⟩)
            go_ret2
            exact ⟨hBc, Or.inr ⟨(fun h => by have := h.2.2 c hlt; rw [hb.out] at this; cases this), rfl⟩⟩
          · have hb : Hid (inR (sumTo k fun r => Z r c) = true) := hb
            go_wp2_with (go_at_call 22; refine (sumAt_yes _ _ _ _ _ _ _ _ _ hLc hR hi hi2 hb.out).mono ?_; rintro e w' ⟨rfl, rfl⟩)
            go_roundg (len 0 - (c + 1))
            case measure => omega
            case rel => exact ⟨c + 1, hlt, rfl, by go_num, hBc.setCell (Nat.le_refl _) _, (hrc.set c _).congr (fun j _ => by
              by_cases e : j = c
              · subst e; simp
              · rw [if_neg e]
                by_cases h2 : j < c
                · rw [if_pos h2, if_pos (by omega)]
                · rw [if_neg h2, if_neg (by omega)]), fun j hj => by
              rcases Nat.lt_succ_iff_lt_or_eq.1 hj with h | rfl
              · exact hin.out j h
              · exact hb.out⟩
        · obtain rfl : c = len 0 := by omega
          go_wp2
          go_ret2
          exact ⟨hBc, Or.inl ⟨⟨h0, hall.out, hin.out⟩, rfl, hrc.congr (fun j hj => by rw [if_pos hj])⟩⟩
end Go.Proofs.Ytkkoajkoiiolgaa
