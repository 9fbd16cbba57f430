/-
  Slices of int64: how they read; the comparisons and the check of stage 1's functions in this cut. No condition.
-/
import Derived.Test.YtflkeabjcbjkhaaDoorErrs
import Derived.WideShapes
import Derived.Deep.AppendLies
namespace Go.Proofs.YtflkeabjcbjkhaaDoor
open Go.RowKit

def badAmt (x : Int) : Bool := decide (x < 0 ∨ 1099511627776 < x)
theorem bad_lt {x : Int} (h : x < 0) : Ending.returned (.bool true) = .returned (.bool (badAmt x)) := by
  unfold badAmt
  rw [decide_eq_true (Or.inl h)]
theorem bad_ge {x : Int} (h : 0 ≤ x) : Ending.returned (.bool (decide (1099511627776 < x))) = .returned (.bool (badAmt x)) := by
  unfold badAmt
  congr 2
  rw [decide_eq_decide]
  omega
theorem wrong_fn (x : Int) (w : World) :
    Calls Tryd.prog 52 #[.int .i64 x] w fun e w' => e = .returned (.bool (badAmt x)) ∧ w' = w := by
  by_cases h : x < 0
  · go_enter Tryd.func52, Tryd.ntmps52
    go_wp2
    go_ret
    exact ⟨bad_lt h, rfl⟩
  · go_enter Tryd.func52, Tryd.ntmps52
    go_wp2
    go_ret
    exact ⟨bad_ge h, rfl⟩


/-- The numbers of a slice: n of them, number k is Z k. -/
structure Rd (w : World) (A : Option Addr) (n : Nat) (Z : Nat → Int) : Prop where
  small : n ≤ 9223372036854775807
  range : ∀ k, k < n → -9223372036854775808 ≤ Z k ∧ Z k ≤ 9223372036854775807
  adr : 0 < n → ∃ b off, A = some ⟨b, off, none⟩ ∧ ∀ j, j < n → w.cell? ⟨b, off + j, none⟩ = some (.int .i64 (Z j))

theorem Rd.below {w w' : World} {A n Z} (h : Rd w A n Z) (hb : Below w.heap.size w w') : Rd w' A n Z :=
  ⟨h.small, h.range, fun hn => by
    obtain ⟨b, off, e, hc⟩ := h.adr hn
    exact ⟨b, off, e, fun j hj => by rw [hb.cell (p := ⟨b, off + j, none⟩) (World.block_lt_of_cell? _ _ (hc j hj))]; exact hc j hj⟩⟩

theorem below_drewN {B : Nat} {a w : World} (h : Below B a w) (q : Nat) : Below B a (w.drewN q) := ⟨h.os, h.tape, h.output, h.size, h.block⟩
/-- The world has at most drawn. -/
def Drawn (w w' : World) : Prop := ∃ q, w' = w.drewN q
theorem Drawn.refl (w : World) : Drawn w w := ⟨0, rfl⟩
theorem Drawn.drewN {w w' : World} (h : Drawn w w') (q : Nat) : Drawn w (w'.drewN q) := by
  obtain ⟨p, rfl⟩ := h
  exact ⟨p + q, World.drewN_drewN ..⟩
theorem Drawn.drew {w w' : World} (h : Drawn w w') : Drawn w w'.drew := h.drewN 1
theorem Drawn.trans {w w' w'' : World} (h : Drawn w w') (k : Drawn w' w'') : Drawn w w'' := by
  obtain ⟨p, rfl⟩ := k
  exact h.drewN p
theorem Drawn.below {w w' : World} (h : Drawn w w') : Below w.heap.size w w' := by
  obtain ⟨q, rfl⟩ := h
  exact below_drewN (Below.refl _ _) q
theorem Rd.nil (w : World) (A : Option Addr) (Z : Nat → Int) : Rd w A 0 Z := ⟨by omega, fun _ h => absurd h (Nat.not_lt_zero _), fun h => absurd h (Nat.lt_irrefl _)⟩

theorem Rd.ofRow {w : World} {b n : Nat} {Z : Nat → Int} (h : w.rowIs b 2 n (fun k => .int .i64 (Z k))) (hn : n ≤ 9223372036854775807) (hr : ∀ k, k < n → -9223372036854775808 ≤ Z k ∧ Z k ≤ 9223372036854775807) : Rd w (some ⟨b, 0, none⟩) n Z :=
  ⟨hn, hr, fun _ => ⟨b, 0, rfl, fun j hj => by rw [Nat.zero_add]; exact h.cell hj⟩⟩

/-- The cells of a row that append has made: number k is D k. -/
def rowL (n : Nat) (D : Nat → Int) : List Value := (List.range n).map fun k => .int .i64 (D k)
theorem rowL_succ (n : Nat) (D : Nat → Int) : rowL n D ++ [.int .i64 (D n)] = rowL (n + 1) D := by simp [rowL, List.range_succ]
theorem Rd.ofOwn {w : World} {base n : Nat} {v : Value} {D : Nat → Int} (h : w.ownsRow base 2 1 v n (rowL n D)) (hn : n ≤ 9223372036854775807) (hr : ∀ k, k < n → -9223372036854775808 ≤ D k ∧ D k ≤ 9223372036854775807) :
    ∃ A cap, v = .slice A n cap ∧ Rd w A n D := by
  rcases h.2 with ⟨rfl, rfl⟩ | ⟨g, cap, cur, rfl, _, hb, _, _, _, ht⟩
  · exact ⟨none, 0, rfl, Rd.nil _ _ _⟩
  · refine ⟨some ⟨g, 0, none⟩, cap, rfl, hn, hr, fun _ => ⟨g, 0, rfl, fun j hj => ?_⟩⟩
    have := h.cells (g := g) rfl j (.int .i64 (D j)) (by simp [rowL, hj])
    rwa [WideShapes.add_plain] at this

theorem Rd.congr {w : World} {A n Z Y} (h : Rd w A n Z) (e : ∀ k, k < n → Z k = Y k) : Rd w A n Y :=
  ⟨h.small, fun k hk => by rw [← e k hk]; exact h.range k hk, fun hn => by
    obtain ⟨b, off, e', hc⟩ := h.adr hn
    exact ⟨b, off, e', fun j hj => by rw [← e j hj]; exact hc j hj⟩⟩

theorem Drawn.keep {w w' : World} (h : Drawn w w') : Keep w w' := h.below
theorem Rd.keep {w w' : World} {A n Z} (h : Rd w A n Z) (hb : Keep w w') : Rd w' A n Z := h.below hb

/-- n = m and no element of Z is greater. -/
def fitsB (n : Nat) (Z : Nat → Int) (m : Nat) (Y : Nat → Int) : Bool := decide (n = m ∧ ∀ k, k < n → Z k ≤ Y k)
def sameB (n : Nat) (Z : Nat → Int) (m : Nat) (Y : Nat → Int) : Bool := decide (n = m ∧ ∀ k, k < n → Z k = Y k)

theorem fits_no {n m : Nat} {Z Y : Nat → Int} (h : n ≠ m) : fitsB n Z m Y = false := by simp [fitsB, h]
theorem fits_gt {n m : Nat} {Z Y : Nat → Int} {k : Nat} (hk : k < n) (h : Y k < Z k) : fitsB n Z m Y = false := by
  unfold fitsB
  rw [decide_eq_false_iff_not]
  intro ⟨_, h2⟩
  have := h2 k hk
  omega
theorem fits_yes {n m : Nat} {Z Y : Nat → Int} (h : n = m) (h2 : ∀ k, k < n → Z k ≤ Y k) : fitsB n Z m Y = true := by
  unfold fitsB
  exact decide_eq_true ⟨h, h2⟩

theorem same_no {n m : Nat} {Z Y : Nat → Int} (h : n ≠ m) : sameB n Z m Y = false := by simp [sameB, h]
theorem same_dif {n m : Nat} {Z Y : Nat → Int} {k : Nat} (hk : k < n) (h : Z k ≠ Y k) : sameB n Z m Y = false := by
  unfold sameB
  rw [decide_eq_false_iff_not]
  intro ⟨_, h2⟩
  exact h (h2 k hk)
theorem same_yes {n m : Nat} {Z Y : Nat → Int} (h : n = m) (h2 : ∀ k, k < n → Z k = Y k) : sameB n Z m Y = true := by
  unfold sameB
  exact decide_eq_true ⟨h, h2⟩
theorem retb {a b : Bool} (h : a = b) : Ending.returned (.bool a) = .returned (.bool b) := by rw [h]


set_option maxHeartbeats 400000 in
theorem equal_ne (A B : Option Addr) (n m c d : Nat) (Z Y : Nat → Int) (w : World) (h : n ≠ m) :
    Calls Tryd.prog 50 #[.slice A n c, .slice B m d] w fun e w' => e = .returned (.bool (sameB n Z m Y)) ∧ Drawn w w' := by
  go_enter Tryd.func50, Tryd.ntmps50
  go_wp2
  go_ret
  exact ⟨retb (same_no h).symm, Drawn.refl _⟩

set_option maxHeartbeats 400000 in
theorem equal_eq (A B : Option Addr) (n c d : Nat) (Z Y : Nat → Int) (w : World) (hA : Rd w A n Z) (hB : Rd w B n Y) :
    Calls Tryd.prog 50 #[.slice A n c, .slice B n d] w fun e w' => e = .returned (.bool (sameB n Z n Y)) ∧ Drawn w w' := by
  have hn := hA.small
  go_enter Tryd.func50, Tryd.ntmps50
  go_wp2
  go_loopg [13] n (fun g i wr => ∃ k : Nat, k ≤ n ∧ g = n - k ∧ i = .int .i64 k ∧ Drawn w wr ∧ Aside (∀ j, j < k → Z j = Y j))
  case atStart => exact ⟨0, Nat.zero_le _, rfl, rfl, Drawn.refl _, fun _ h => absurd h (Nat.not_lt_zero _)⟩
  case round =>
    obtain ⟨k, hk, rfl, rfl, hd, hall⟩ := hrel
    by_cases hlt : k < n
    · obtain ⟨b, off, rfl, ca⟩ := (hA.below hd.below).adr (by omega)
      obtain ⟨b', off', rfl, cb⟩ := (hB.below hd.below).adr (by omega)
      have g0 := ca k hlt
      have g1 := cb k hlt
      clear ca cb hA hB
      by_cases hz : Z k = Y k
      · have hzb : (Z k != Y k) = false := by simp [hz]
        have hz : Hid (Z k = Y k) := hz
        go_wp2
        go_quiet (fail)
        go_wp2
        go_roundg (n - (k + 1))
        case measure => omega
        case rel => exact ⟨k + 1, hlt, rfl, by go_num, hd.drewN _, fun j hj => by
          rcases Nat.lt_succ_iff_lt_or_eq.1 hj with h | rfl
          · exact hall.out j h
          · exact hz⟩
      · have hzb : (Z k != Y k) = true := by simp [hz]
        go_wp2
        go_quiet (fail)
        go_wp2
        go_ret
        exact ⟨retb (same_dif hlt (by omega)).symm, hd.drewN _⟩
    · obtain rfl : k = n := by omega
      go_wp2
      go_ret
      exact ⟨retb (same_yes rfl hall.out).symm, hd⟩

theorem equal_any (A B : Option Addr) (n m c d : Nat) (Z Y : Nat → Int) (w : World) (hA : Rd w A n Z) (hB : Rd w B m Y) :
    Calls Tryd.prog 50 #[.slice A n c, .slice B m d] w fun e w' => e = .returned (.bool (sameB n Z m Y)) ∧ Drawn w w' := by
  by_cases h : n = m
  · subst h; exact equal_eq A B n c d Z Y w hA hB
  · exact equal_ne A B n m c d Z Y w h

set_option maxHeartbeats 400000 in
theorem same_any (A B : Option Addr) (n m c d : Nat) (Z Y : Nat → Int) (w : World) (hA : Rd w A n Z) (hB : Rd w B m Y) :
    Calls Tryd.prog 40 #[.slice A n c, .slice B m d] w fun e w' => e = .returned (.bool (sameB n Z m Y)) ∧ Drawn w w' := by
  go_enter Tryd.func40, Tryd.ntmps40
  go_wp2_with (go_at_call 50; refine (equal_any _ _ _ _ _ _ _ _ _ hA hB).mono ?_; rintro e w' ⟨rfl, hd⟩)
  go_ret
  exact ⟨rfl, hd⟩

set_option maxHeartbeats 400000 in
theorem rfits_eq (A B : Option Addr) (n c d : Nat) (Z Y : Nat → Int) (w : World) (hA : Rd w A n Z) (hB : Rd w B n Y) :
    Calls Tryd.prog 42 #[.slice A n c, .slice B n d] w fun e w' => e = .returned (.bool (fitsB n Z n Y)) ∧ Drawn w w' := by
  have hn := hA.small
  go_enter Tryd.func42, Tryd.ntmps42
  go_wp2
  go_loopg [5] n (fun g i wr => ∃ k : Nat, k ≤ n ∧ g = n - k ∧ i = .int .i64 k ∧ Drawn w wr ∧ Aside (∀ j, j < k → Z j ≤ Y j))
  case atStart => exact ⟨0, Nat.zero_le _, rfl, rfl, Drawn.refl _, fun _ h => absurd h (Nat.not_lt_zero _)⟩
  case round =>
    obtain ⟨k, hk, rfl, rfl, hd, hall⟩ := hrel
    by_cases hlt : k < n
    · obtain ⟨b, off, rfl, ca⟩ := (hA.below hd.below).adr (by omega)
      obtain ⟨b', off', rfl, cb⟩ := (hB.below hd.below).adr (by omega)
      have g0 := ca k hlt
      have g1 := cb k hlt
      clear ca cb hA hB
      by_cases hz : Z k ≤ Y k
      · go_wp2
        go_quiet (fail)
        go_wp2
        go_roundg (n - (k + 1))
        case measure => omega
        case rel => exact ⟨k + 1, hlt, rfl, by go_num, hd.drewN _, fun j hj => by
          rcases Nat.lt_succ_iff_lt_or_eq.1 hj with h | rfl
          · exact hall.out j h
          · exact hz⟩
      · go_wp2
        go_quiet (fail)
        go_wp2
        go_ret
        exact ⟨retb (fits_gt hlt (by omega)).symm, hd.drewN _⟩
    · obtain rfl : k = n := by omega
      go_wp2
      go_ret
      exact ⟨retb (fits_yes rfl hall.out).symm, hd⟩

set_option maxHeartbeats 400000 in
theorem rfits_ne (A B : Option Addr) (n m c d : Nat) (Z Y : Nat → Int) (w : World) (hA : Rd w A n Z) (hB : Rd w B m Y) (hne : n ≠ m) :
    Calls Tryd.prog 42 #[.slice A n c, .slice B m d] w fun e w' => e = .returned (.bool (fitsB n Z m Y)) ∧ Drawn w w' := by
  have hn := hA.small
  have hm := hB.small
  have hneb : ((n : Int) == (m : Int)) = false := by simp; omega
  rw [fits_no hne]
  have hne : Hid (n ≠ m) := hne
  go_enter Tryd.func42, Tryd.ntmps42
  go_wp2
  go_loopg [5] n (fun g i wr => ∃ k : Nat, k ≤ n ∧ k ≤ m ∧ g = n - k ∧ i = .int .i64 k ∧ Drawn w wr)
  case atStart => exact ⟨0, Nat.zero_le _, Nat.zero_le _, rfl, rfl, Drawn.refl _⟩
  case round =>
    obtain ⟨k, hk, hk', rfl, rfl, hd⟩ := hrel
    by_cases hlt : k < n
    · by_cases hlt' : k < m
      · obtain ⟨b, off, rfl, ca⟩ := (hA.below hd.below).adr (by omega)
        obtain ⟨b', off', rfl, cb⟩ := (hB.below hd.below).adr (by omega)
        have g0 := ca k hlt
        have g1 := cb k hlt'
        clear ca cb hA hB
        by_cases hz : Z k ≤ Y k
        · go_wp2
          go_quiet (fail)
          go_wp2
          go_roundg (n - (k + 1))
          case measure => omega
          case rel => exact ⟨k + 1, hlt, hlt', rfl, by go_num, hd.drewN _⟩
        · go_wp2
          go_quiet (fail)
          go_wp2
          go_ret
          exact ⟨rfl, hd.drewN _⟩
      · go_wp2
        go_ret
        exact ⟨rfl, hd⟩
    · go_wp2
      go_ret
      exact ⟨rfl, hd⟩

theorem rfits_any (A B : Option Addr) (n m c d : Nat) (Z Y : Nat → Int) (w : World) (hA : Rd w A n Z) (hB : Rd w B m Y) :
    Calls Tryd.prog 42 #[.slice A n c, .slice B m d] w fun e w' => e = .returned (.bool (fitsB n Z m Y)) ∧ Drawn w w' := by
  by_cases h : n = m
  · subst h; exact rfits_eq A B n c d Z Y w hA hB
  · exact rfits_ne A B n m c d Z Y w hA hB h

theorem same_of_fits {n m : Nat} {Z Y : Nat → Int} (h1 : fitsB n Z m Y = true) : fitsB m Y n Z = sameB n Z m Y := by
  unfold fitsB at h1
  obtain ⟨rfl, h2⟩ := of_decide_eq_true h1
  unfold fitsB sameB
  rw [decide_eq_decide]
  exact ⟨fun h => ⟨rfl, fun k hk => by have := h2 k hk; have := h.2 k hk; omega⟩, fun h => ⟨rfl, fun k hk => by have := h.2 k hk; omega⟩⟩
theorem same_of_nofits {n m : Nat} {Z Y : Nat → Int} (h1 : fitsB n Z m Y = false) : sameB n Z m Y = false := by
  unfold fitsB at h1
  unfold sameB
  rw [decide_eq_false_iff_not] at h1 ⊢
  exact fun h => h1 ⟨h.1, fun k hk => by have := h.2 k hk; omega⟩

theorem rfits_is (A B : Option Addr) (n m c d : Nat) (Z Y : Nat → Int) (w : World) (hA : Rd w A n Z) (hB : Rd w B m Y) (b : Bool) (h : fitsB n Z m Y = b) :
    Calls Tryd.prog 42 #[.slice A n c, .slice B m d] w fun e w' => e = .returned (.bool b) ∧ Drawn w w' := by
  rw [← h]; exact rfits_any A B n m c d Z Y w hA hB
theorem same_is (A B : Option Addr) (n m c d : Nat) (Z Y : Nat → Int) (w : World) (hA : Rd w A n Z) (hB : Rd w B m Y) (b : Bool) (h : sameB n Z m Y = b) :
    Calls Tryd.prog 40 #[.slice A n c, .slice B m d] w fun e w' => e = .returned (.bool b) ∧ Drawn w w' := by
  rw [← h]; exact same_any A B n m c d Z Y w hA hB

set_option maxHeartbeats 400000 in
theorem rsame_is (A B : Option Addr) (n m c d : Nat) (Z Y : Nat → Int) (w : World) (hA : Rd w A n Z) (hB : Rd w B m Y) (b : Bool) (h : sameB n Z m Y = b) :
    Calls Tryd.prog 24 #[.slice A n c, .slice B m d] w fun e w' => e = .returned (.bool b) ∧ Drawn w w' := by
  cases h1 : fitsB n Z m Y
  · have hb := same_of_nofits h1
    have H1 : Hid (fitsB n Z m Y = false) := h1
    obtain rfl : false = b := hb.symm.trans h
    clear h1 hb h
    go_enter Tryd.func24, Tryd.ntmps24
    go_wp2_with (go_at_call 42; refine (rfits_is _ _ _ _ _ _ _ _ _ hA hB _ H1.out).mono ?_; rintro e w' ⟨rfl, hd⟩)
    go_ret
    exact ⟨rfl, hd⟩
  · have H2 : Hid (fitsB m Y n Z = b) := (same_of_fits h1).trans h
    have H1 : Hid (fitsB n Z m Y = true) := h1
    clear h1 h
    go_enter Tryd.func24, Tryd.ntmps24
    go_wp2_with fail
    refine (rfits_is _ _ _ _ _ _ _ _ _ hA hB _ H1.out).mono ?_
    rintro e w' ⟨rfl, hd⟩
    go_wp2_with fail
    refine (rfits_is _ _ _ _ _ _ _ _ _ (hB.below hd.below) (hA.below hd.below) _ H2.out).mono ?_
    rintro e w'' ⟨rfl, hd'⟩
    go_wp2_with fail
    go_ret
    exact ⟨rfl, hd.trans hd'⟩

def wrongOf (n : Nat) (Z : Nat → Int) (d : Int) : Int :=
  match (List.range n).find? (fun k => badAmt (Z k)) with
  | some k => k
  | none => if (n : Int) = d then -1 else max (min d n) 0
theorem wrongOf_bad {n : Nat} {Z : Nat → Int} {d : Int} {k : Nat} (hk : k < n) (hb : badAmt (Z k) = true) (h : ∀ j, j < k → badAmt (Z j) = false) : wrongOf n Z d = k := by
  have e : (List.range n).find? (fun k => badAmt (Z k)) = some k := by
    rw [List.find?_range_eq_some]
    exact ⟨hb, List.mem_range.2 hk, fun j hj => by rw [h j hj]; rfl⟩
  rw [wrongOf, e]
theorem wrongOf_ok {n : Nat} {Z : Nat → Int} {d : Int} (h : ∀ j, j < n → badAmt (Z j) = false) : wrongOf n Z d = if (n : Int) = d then -1 else max (min d n) 0 := by
  have e : (List.range n).find? (fun k => badAmt (Z k)) = none := by
    rw [List.find?_range_eq_none]
    exact fun j hj => by rw [h j hj]; rfl
  rw [wrongOf, e]
/-- The first bad index, or there is none. -/
theorem bad_or (n : Nat) (Z : Nat → Int) : (∃ k, k < n ∧ badAmt (Z k) = true ∧ ∀ j, j < k → badAmt (Z j) = false) ∨ ∀ j, j < n → badAmt (Z j) = false := by
  induction n with
  | zero => exact Or.inr fun _ h => absurd h (Nat.not_lt_zero _)
  | succ n ih =>
    rcases ih with ⟨k, h1, h2, h3⟩ | h
    · exact Or.inl ⟨k, by omega, h2, h3⟩
    · cases hb : badAmt (Z n)
      · refine Or.inr fun j hj => ?_
        rcases Nat.lt_succ_iff_lt_or_eq.1 hj with h' | rfl
        · exact h j h'
        · exact hb
      · exact Or.inl ⟨n, by omega, hb, h⟩

theorem wrong_is (x : Int) (w : World) (b : Bool) (h : badAmt x = b) : Calls Tryd.prog 52 #[.int .i64 x] w fun e w' => e = .returned (.bool b) ∧ w' = w := by
  rw [← h]; exact wrong_fn x w

set_option maxHeartbeats 400000 in
theorem index_bad (A : Option Addr) (n c : Nat) (Z : Nat → Int) (w : World) (hA : Rd w A n Z) (k : Nat) (hk : k < n) (hb : badAmt (Z k) = true) (h : ∀ j, j < k → badAmt (Z j) = false) :
    Calls Tryd.prog 51 #[.slice A n c, .func (.func 52) #[] #[]] w fun e w' => e = .returned (.int .i64 k) ∧ w' = w := by
  have hn := hA.small
  replace hb : Hid (badAmt (Z k) = true) := hb
  replace h : Hid (∀ j, j < k → badAmt (Z j) = false) := h
  go_enter Tryd.func51, Tryd.ntmps51
  go_wp2
  go_loopg [8] n (fun g i wr => ∃ j : Nat, j ≤ k ∧ g = n - j ∧ i = .int .i64 j ∧ w = wr)
  case atStart => exact ⟨0, Nat.zero_le _, rfl, rfl, rfl⟩
  case round =>
    obtain ⟨j, hj, rfl, rfl, rfl⟩ := hrel
    obtain ⟨b, off, rfl, ca⟩ := hA.adr (by omega)
    have hjn : j < n := by omega
    have g0 := ca j hjn
    clear ca hA
    by_cases hlt : j < k
    · have hf : Hid (badAmt (Z j) = false) := h.out j hlt
      go_wp2_with (go_at_call 52; refine (wrong_is _ _ _ hf.out).mono ?_; rintro e w' ⟨rfl, rfl⟩)
      go_roundg (n - (j + 1))
      case measure => omega
      case rel => exact ⟨j + 1, hlt, rfl, by go_num, rfl⟩
    · obtain rfl : j = k := by omega
      go_wp2_with (go_at_call 52; refine (wrong_is _ _ _ hb.out).mono ?_; rintro e w' ⟨rfl, rfl⟩)
      go_ret
      exact ⟨rfl, rfl⟩

set_option maxHeartbeats 400000 in
theorem index_ok (A : Option Addr) (n c : Nat) (Z : Nat → Int) (w : World) (hA : Rd w A n Z) (h : ∀ j, j < n → badAmt (Z j) = false) :
    Calls Tryd.prog 51 #[.slice A n c, .func (.func 52) #[] #[]] w fun e w' => e = .returned (.int .i64 (-1)) ∧ w' = w := by
  have hn := hA.small
  replace h : Hid (∀ j, j < n → badAmt (Z j) = false) := h
  go_enter Tryd.func51, Tryd.ntmps51
  go_wp2
  go_loopg [8] n (fun g i wr => ∃ j : Nat, j ≤ n ∧ g = n - j ∧ i = .int .i64 j ∧ w = wr)
  case atStart => exact ⟨0, Nat.zero_le _, rfl, rfl, rfl⟩
  case round =>
    obtain ⟨j, hj, rfl, rfl, rfl⟩ := hrel
    by_cases hlt : j < n
    · obtain ⟨b, off, rfl, ca⟩ := hA.adr (by omega)
      have g0 := ca j hlt
      clear ca hA
      have hf : Hid (badAmt (Z j) = false) := h.out j hlt
      go_wp2_with (go_at_call 52; refine (wrong_is _ _ _ hf.out).mono ?_; rintro e w' ⟨rfl, rfl⟩)
      go_roundg (n - (j + 1))
      case measure => omega
      case rel => exact ⟨j + 1, hlt, rfl, by go_num, rfl⟩
    · go_wp2
      go_ret
      exact ⟨rfl, rfl⟩

theorem ret_int {k : IntKind} {a b : Int} (h : a = b) : Ending.returned (.int k a) = .returned (.int k b) := by rw [h]

set_option maxHeartbeats 400000 in
theorem vwrong_any (A : Option Addr) (n c : Nat) (Z : Nat → Int) (d : Int) (w : World) (hA : Rd w A n Z) :
    Calls Tryd.prog 45 #[.slice A n c, .int .i64 d] w fun e w' => e = .returned (.int .i64 (wrongOf n Z d)) ∧ w' = w := by
  have hn := hA.small
  rcases bad_or n Z with ⟨k, hk, hb, h⟩ | h
  · have e0 : Hid (wrongOf n Z d = k) := wrongOf_bad hk hb h
    replace hb : Hid (badAmt (Z k) = true) := hb
    replace h : Hid (∀ j, j < k → badAmt (Z j) = false) := h
    go_enter Tryd.func45, Tryd.ntmps45
    go_wp2_with (go_at_call 51; refine (index_bad _ _ _ _ _ hA k hk hb.out h.out).mono ?_; rintro e w' ⟨rfl, rfl⟩)
    go_ret
    exact ⟨ret_int e0.out.symm, rfl⟩
  · have e0 : Hid (wrongOf n Z d = if (n : Int) = d then -1 else max (min d n) 0) := wrongOf_ok h
    replace h : Hid (∀ j, j < n → badAmt (Z j) = false) := h
    by_cases hd : (n : Int) = d
    · subst hd
      replace e0 := e0.out
      rw [if_pos rfl] at e0
      replace e0 : Hid (wrongOf n Z n = -1) := e0
      go_enter Tryd.func45, Tryd.ntmps45
      go_wp2_with (go_at_call 51; refine (index_ok _ _ _ _ _ hA h.out).mono ?_; rintro e w' ⟨rfl, rfl⟩)
      go_ret
      exact ⟨ret_int e0.out.symm, rfl⟩
    · replace e0 := e0.out
      rw [if_neg hd] at e0
      have hdb : ((n : Int) == d) = false := beq_eq_false_iff_ne.2 hd
      replace hd : Hid (¬ (n : Int) = d) := hd
      replace e0 : Hid (wrongOf n Z d = max (min d n) 0) := e0
      go_enter Tryd.func45, Tryd.ntmps45
      go_wp2_with (go_at_call 51; refine (index_ok _ _ _ _ _ hA h.out).mono ?_; rintro e w' ⟨rfl, rfl⟩)
      all_goals
        go_ret
        exact ⟨ret_int (by rw [e0.out]; omega), rfl⟩

theorem bad_not {x : Int} (h : badAmt x = false) : 0 ≤ x ∧ x ≤ 1099511627776 := by
  unfold badAmt at h
  rw [decide_eq_false_iff_not] at h
  omega
theorem bad_yes {x : Int} (h : badAmt x = true) : x < 0 ∨ 1099511627776 < x := by
  unfold badAmt at h
  exact of_decide_eq_true h

set_option maxHeartbeats 400000 in
theorem rwrong_any (A : Option Addr) (n c : Nat) (Z : Nat → Int) (d : Int) (w : World) (hA : Rd w A n Z) :
    Calls Tryd.prog 36 #[.slice A n c, .int .i64 d] w fun e w' => e = .returned (.int .i64 (wrongOf n Z d)) ∧ w' = w := by
  have hn := hA.small
  rcases bad_or n Z with ⟨k, hk, hb, h⟩ | h
  · have e0 : Hid (wrongOf n Z d = k) := wrongOf_bad hk hb h
    replace hb : Hid (badAmt (Z k) = true) := hb
    replace h : Hid (∀ j, j < k → badAmt (Z j) = false) := h
    go_enter Tryd.func36, Tryd.ntmps36
    go_wp2
    go_loopg [5] n (fun g i wr => ∃ j : Nat, j ≤ k ∧ g = n - j ∧ i = .int .i64 j ∧ w = wr)
    case atStart => exact ⟨0, Nat.zero_le _, rfl, rfl, rfl⟩
    case round =>
      obtain ⟨j, hj, rfl, rfl, rfl⟩ := hrel
      obtain ⟨b, off, rfl, ca⟩ := hA.adr (by omega)
      have hjn : j < n := by omega
      have g0 := ca j hjn
      clear ca hA
      by_cases hlt : j < k
      · obtain ⟨f1, f2⟩ := bad_not (h.out j hlt)
        go_wp2
        go_roundg (n - (j + 1))
        case measure => omega
        case rel => exact ⟨j + 1, hlt, rfl, by go_num, rfl⟩
      · obtain rfl : j = k := by omega
        rcases bad_yes hb.out with f | f
        · go_wp2
          go_ret
          exact ⟨ret_int e0.out.symm, rfl⟩
        · have f' : ¬ Z j < 0 := by omega
          go_wp2
          go_ret
          exact ⟨ret_int e0.out.symm, rfl⟩
  · have e0 : Hid (wrongOf n Z d = if (n : Int) = d then -1 else max (min d n) 0) := wrongOf_ok h
    replace h : Hid (∀ j, j < n → badAmt (Z j) = false) := h
    go_enter Tryd.func36, Tryd.ntmps36
    go_wp2
    go_loopg [5] n (fun g i wr => ∃ j : Nat, j ≤ n ∧ g = n - j ∧ i = .int .i64 j ∧ w = wr)
    case atStart => exact ⟨0, Nat.zero_le _, rfl, rfl, rfl⟩
    case round =>
      obtain ⟨j, hj, rfl, rfl, rfl⟩ := hrel
      by_cases hlt : j < n
      · obtain ⟨b, off, rfl, ca⟩ := hA.adr (by omega)
        have g0 := ca j hlt
        clear ca hA
        obtain ⟨f1, f2⟩ := bad_not (h.out j hlt)
        go_wp2
        go_roundg (n - (j + 1))
        case measure => omega
        case rel => exact ⟨j + 1, hlt, rfl, by go_num, rfl⟩
      · by_cases hd : (n : Int) = d
        · subst hd
          replace e0 := e0.out
          rw [if_pos rfl] at e0
          replace e0 : Hid (wrongOf n Z n = -1) := e0
          go_wp2
          go_ret
          exact ⟨ret_int e0.out.symm, rfl⟩
        · replace e0 := e0.out
          rw [if_neg hd] at e0
          have hdb : ((n : Int) == d) = false := beq_eq_false_iff_ne.2 hd
          replace hd : Hid (¬ (n : Int) = d) := hd
          replace e0 : Hid (wrongOf n Z d = max (min d n) 0) := e0
          by_cases d0 : d < 0
          · go_wp2
            go_ret
            exact ⟨ret_int (by rw [e0.out]; omega), rfl⟩
          · by_cases d1 : d < n
            · go_wp2
              go_ret
              exact ⟨ret_int (by rw [e0.out]; omega), rfl⟩
            · go_wp2
              go_ret
              exact ⟨ret_int (by rw [e0.out]; omega), rfl⟩

end Go.Proofs.YtflkeabjcbjkhaaDoor
