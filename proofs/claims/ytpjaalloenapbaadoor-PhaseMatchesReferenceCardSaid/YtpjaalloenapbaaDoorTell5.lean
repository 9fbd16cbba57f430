/-
  What phases tell and are called: the program's functions. Condition: the table of names holds its own.
-/
import Derived.Test.YtpjaalloenapbaaDoorRun5
namespace Go.Proofs.YtpjaalloenapbaaDoor
open Go.RowKit Go.Extern.Stop Go.Stop Go.Extern

theorem bytes_eq (a b : ByteArray) : (a.toList == b.toList) = decide (a = b) := by
  rw [ByteArray.toList_eq, ByteArray.toList_eq, Bool.eq_iff_iff]
  simp
  constructor
  · intro h
    exact ByteArray.ext (by first | exact h | exact Array.ext' h)
  · intro h
    rw [h]
def nmTbl : List ByteArray := [⟨#[]⟩, ⟨#[112, 101, 110, 100, 105, 110, 103]⟩, ⟨#[110, 111, 109, 105, 110, 97, 116, 101, 100]⟩, ⟨#[98, 111, 117, 110, 100]⟩, ⟨#[116, 101, 114, 109, 105, 110, 97, 116, 105, 110, 103]⟩, ⟨#[103, 111, 110, 101]⟩]
/-- The name of a phase. -/
def nm (p : Int) : ByteArray := if 0 ≤ p ∧ p ≤ 5 then nmTbl.getD p.toNat ⟨#[]⟩ else ⟨#[]⟩
theorem nm_out {p : Int} (h : p < 0 ∨ 5 < p) : nm p = ⟨#[]⟩ := by unfold nm; rw [if_neg (by omega)]
/-- The variable holds what the program's text lays. -/
def V5 (w : World) : Prop := ∀ i, i < 6 → w.cell? ⟨0, i, none⟩ = some (.string (nmTbl.getD i ⟨#[]⟩))
theorem V5.keep {w w' : World} (h : V5 w) (k : Keep w w') : V5 w' := fun i hi => k.cell (h i hi)
theorem cases6 {c : Int} (h0 : 0 ≤ c) (h1 : c ≤ 5) : c = 0 ∨ c = 1 ∨ c = 2 ∨ c = 3 ∨ c = 4 ∨ c = 5 := by omega

set_option maxHeartbeats 1000000 in
theorem name_fn (p : Int) (w : World) (hv : V5 w) : Calls Tryd.prog 16 #[.int .i64 p] w fun e w' => e = .returned (.string (nm p)) ∧ w = w' := by
  by_cases h : p < 0
  · rw [nm_out (by omega)]
    clear hv
    go_enter Tryd.func16, Tryd.ntmps16
    go_wp2
    go_ret
    exact ⟨rfl, rfl⟩
  · by_cases h' : 5 < p
    · rw [nm_out (by omega)]
      clear hv
      go_enter Tryd.func16, Tryd.ntmps16
      go_wp2
      go_ret
      exact ⟨rfl, rfl⟩
    · have e := cases6 (c := p) (by omega) (by omega)
      clear h h'
      rcases e with rfl | rfl | rfl | rfl | rfl | rfl
      · have hc := hv 0 (by decide)
        have e : nmTbl.getD 0 ⟨#[]⟩ = nm 0 := rfl
        rw [e] at hc
        clear hv e
        go_enter Tryd.func16, Tryd.ntmps16
        go_wp2
        go_ret
        exact ⟨rfl, rfl⟩
      · have hc := hv 1 (by decide)
        have e : nmTbl.getD 1 ⟨#[]⟩ = nm 1 := rfl
        rw [e] at hc
        clear hv e
        go_enter Tryd.func16, Tryd.ntmps16
        go_wp2
        go_ret
        exact ⟨rfl, rfl⟩
      · have hc := hv 2 (by decide)
        have e : nmTbl.getD 2 ⟨#[]⟩ = nm 2 := rfl
        rw [e] at hc
        clear hv e
        go_enter Tryd.func16, Tryd.ntmps16
        go_wp2
        go_ret
        exact ⟨rfl, rfl⟩
      · have hc := hv 3 (by decide)
        have e : nmTbl.getD 3 ⟨#[]⟩ = nm 3 := rfl
        rw [e] at hc
        clear hv e
        go_enter Tryd.func16, Tryd.ntmps16
        go_wp2
        go_ret
        exact ⟨rfl, rfl⟩
      · have hc := hv 4 (by decide)
        have e : nmTbl.getD 4 ⟨#[]⟩ = nm 4 := rfl
        rw [e] at hc
        clear hv e
        go_enter Tryd.func16, Tryd.ntmps16
        go_wp2
        go_ret
        exact ⟨rfl, rfl⟩
      · have hc := hv 5 (by decide)
        have e : nmTbl.getD 5 ⟨#[]⟩ = nm 5 := rfl
        rw [e] at hc
        clear hv e
        go_enter Tryd.func16, Tryd.ntmps16
        go_wp2
        go_ret
        exact ⟨rfl, rfl⟩

def wt (p : Int) : Bool := decide (p = 1 ∨ p = 2)
def hd (p : Int) : Bool := decide (p = 3 ∨ p = 4)
def pl (p : Int) : Bool := decide (p = 2 ∨ p = 3 ∨ p = 4)
set_option maxHeartbeats 1000000 in
theorem traits_fn (p : Int) (w : World) : Calls Tryd.prog 21 #[.int .i64 p] w fun e w' => e = .returned (.tuple #[.bool (wt p), .bool (hd p), .bool (pl p)]) ∧ w = w' := by
  by_cases h2 : p = 2
  · subst h2
    go_enter Tryd.func21, Tryd.ntmps21
    go_wp2
    go_ret3
    exact ⟨rfl, rfl⟩
  by_cases h1 : p = 1
  · subst h1
    go_enter Tryd.func21, Tryd.ntmps21
    go_wp2
    go_ret3
    exact ⟨rfl, rfl⟩
  by_cases h3 : p = 3
  · subst h3
    go_enter Tryd.func21, Tryd.ntmps21
    go_wp2
    go_ret3
    exact ⟨rfl, rfl⟩
  by_cases h4 : p = 4
  · subst h4
    go_enter Tryd.func21, Tryd.ntmps21
    go_wp2
    go_ret3
    exact ⟨rfl, rfl⟩
  have e1 : wt p = false := decide_eq_false (by omega)
  have e2 : hd p = false := decide_eq_false (by omega)
  have e3 : pl p = false := decide_eq_false (by omega)
  rw [e1, e2, e3]
  go_enter Tryd.func21, Tryd.ntmps21
  go_wp2
  go_ret3
  exact ⟨rfl, rfl⟩
theorem waits_fn (p : Int) (w : World) : Calls Tryd.prog 13 #[.int .i64 p] w fun e w' => e = .returned (.bool (wt p)) ∧ w = w' := by
  go_enter Tryd.func13, Tryd.ntmps13
  go_wp2_with fail
  refine (traits_fn p w).mono ?_
  rintro e w1 ⟨rfl, rfl⟩
  go_wp2
  go_ret
  exact ⟨rfl, rfl⟩
theorem holds_fn (p : Int) (w : World) : Calls Tryd.prog 14 #[.int .i64 p] w fun e w' => e = .returned (.bool (hd p)) ∧ w = w' := by
  go_enter Tryd.func14, Tryd.ntmps14
  go_wp2_with fail
  refine (traits_fn p w).mono ?_
  rintro e w1 ⟨rfl, rfl⟩
  go_wp2
  go_ret
  exact ⟨rfl, rfl⟩
theorem placed_fn (p : Int) (w : World) : Calls Tryd.prog 15 #[.int .i64 p] w fun e w' => e = .returned (.bool (pl p)) ∧ w = w' := by
  go_enter Tryd.func15, Tryd.ntmps15
  go_wp2_with fail
  refine (traits_fn p w).mono ?_
  rintro e w1 ⟨rfl, rfl⟩
  go_wp2
  go_ret
  exact ⟨rfl, rfl⟩

/-- The phase with a name, or 0. -/
def par (s : ByteArray) : Int := if nm 1 = s then 1 else if nm 2 = s then 2 else if nm 3 = s then 3 else if nm 4 = s then 4 else if nm 5 = s then 5 else 0
theorem par_hit {s : ByteArray} {j : Nat} (h1 : 1 ≤ j) (h5 : j ≤ 5) (hb : ∀ m : Nat, 1 ≤ m → m < j → nm m ≠ s) (h : nm j = s) : par s = j := by
  have hc : j = 1 ∨ j = 2 ∨ j = 3 ∨ j = 4 ∨ j = 5 := by omega
  unfold par
  rcases hc with rfl | rfl | rfl | rfl | rfl
  · rw [if_pos (show nm 1 = s from h)]; rfl
  · rw [if_neg (show nm 1 ≠ s from hb 1 (by omega) (by omega)), if_pos (show nm 2 = s from h)]; rfl
  · rw [if_neg (show nm 1 ≠ s from hb 1 (by omega) (by omega)), if_neg (show nm 2 ≠ s from hb 2 (by omega) (by omega)), if_pos (show nm 3 = s from h)]; rfl
  · rw [if_neg (show nm 1 ≠ s from hb 1 (by omega) (by omega)), if_neg (show nm 2 ≠ s from hb 2 (by omega) (by omega)), if_neg (show nm 3 ≠ s from hb 3 (by omega) (by omega)), if_pos (show nm 4 = s from h)]; rfl
  · rw [if_neg (show nm 1 ≠ s from hb 1 (by omega) (by omega)), if_neg (show nm 2 ≠ s from hb 2 (by omega) (by omega)), if_neg (show nm 3 ≠ s from hb 3 (by omega) (by omega)), if_neg (show nm 4 ≠ s from hb 4 (by omega) (by omega)), if_pos (show nm 5 = s from h)]; rfl
theorem par_none {s : ByteArray} (hb : ∀ m : Nat, 1 ≤ m → m < 6 → nm m ≠ s) : par s = 0 := by
  unfold par
  rw [if_neg (show nm 1 ≠ s from hb 1 (by omega) (by omega)), if_neg (show nm 2 ≠ s from hb 2 (by omega) (by omega)), if_neg (show nm 3 ≠ s from hb 3 (by omega) (by omega)), if_neg (show nm 4 ≠ s from hb 4 (by omega) (by omega)), if_neg (show nm 5 ≠ s from hb 5 (by omega) (by omega))]
set_option maxHeartbeats 1000000 in
theorem parse_fn (s : ByteArray) (w : World) (hv : V5 w) : Calls Tryd.prog 18 #[.string s] w fun e w' => e = .returned (.tuple #[.int .i64 (par s), .bool (decide (par s ≠ 0))]) ∧ w = w' := by
  replace hv := Lib.hid hv
  go_enter Tryd.func18, Tryd.ntmps18
  go_wp2
  go_loopg [4] 5 (fun g i wr => ∃ j : Nat, 1 ≤ j ∧ j ≤ 6 ∧ g = 6 - j ∧ i = .int .i64 j ∧ Hid (∀ m : Nat, 1 ≤ m → m < j → nm m ≠ s) ∧ w = wr)
  case atStart => exact ⟨1, by omega, by omega, rfl, rfl, fun m h1 h2 => by omega, rfl⟩
  case round =>
    obtain ⟨j, h1, h6, rfl, rfl, hb, rfl⟩ := hrel
    by_cases hlt : j ≤ 5
    · go_wp2_with fail
      refine (name_fn j w hv.out).mono ?_
      rintro e w1 ⟨rfl, rfl⟩
      obtain ⟨y, hy⟩ : ∃ y, y = nm j := ⟨_, rfl⟩
      rw [← hy]
      replace hy := Lib.hid hy
      by_cases he : y = s
      · have hq : (y.toList == s.toList) = true := by rw [bytes_eq]; exact decide_eq_true he
        have e0 := Lib.hid (par_hit h1 hlt hb.out (hy.out.symm.trans he))
        replace he := Lib.hid he
        go_wp2
        go_ret2
        refine ⟨?_, rfl⟩
        have hj : (j : Int) ≠ 0 := by omega
        rw [e0.out, decide_eq_true hj]
        rfl
      · have hq : (y.toList == s.toList) = false := by rw [bytes_eq]; exact decide_eq_false he
        have e0 : Hid (∀ m : Nat, 1 ≤ m → m < j + 1 → nm m ≠ s) := fun m g1 g2 => by
          rcases Nat.lt_succ_iff_lt_or_eq.1 g2 with g | rfl
          · exact hb.out m g1 g
          · rw [← hy.out]; exact he
        replace he := Lib.hid he
        go_wp2
        go_roundg (6 - (j + 1))
        case measure => omega
        case rel => exact ⟨j + 1, by omega, by omega, rfl, by go_num, e0, rfl⟩
    · obtain rfl : j = 6 := by omega
      have e0 := Lib.hid (par_none hb.out)
      go_wp2
      go_ret2
      exact ⟨by rw [e0.out]; rfl, rfl⟩
end Go.Proofs.YtpjaalloenapbaaDoor
