/-
  The functions of stage 1 in this cut: vec.Zero, Add, Sub, Fits, Wrong; the reference's Fits, Same, Wrong. Conditions: at most 1048576 rows and amounts.
-/
import Derived.Test.YtfidlljhmebpmaaDoorBase5
import Derived.Laws.Entries
import Derived.IntWalk
import Derived.Laws.Bits64
import Derived.WideShapes
import Derived.Deep.AppendLies
namespace Go.Proofs.YtfidlljhmebpmaaDoor.V12
open Go.RowKit

/-! The reference's numbers -/
def hi (n : Int) : Int := n / 4294967296
def lo (n : Int) : Int := n % 4294967296
theorem lo_nn (n : Int) : 0 ≤ lo n := by unfold lo; omega
theorem lo_le (n : Int) : lo n ≤ 4294967295 := by unfold lo; omega
theorem and_lo (n : Int) : bits .and .i64 n 4294967295 = lo n := by
  have e1 : (BitVec.ofInt 64 n &&& BitVec.ofInt 64 4294967295).toNat = (lo n).toNat := by
    rw [BitVec.toNat_and, BitVec.toNat_ofInt, show (BitVec.ofInt 64 4294967295).toNat = 2 ^ 32 - 1 from by decide, Nat.and_two_pow_sub_one_eq_mod]
    unfold lo
    omega
  show IntKind.i64.wrap ((BitVec.ofInt 64 n &&& BitVec.ofInt 64 4294967295).toNat : Int) = lo n
  have := lo_nn n
  have := lo_le n
  rw [e1, Int.toNat_of_nonneg (lo_nn n), IntWalk.i64_in _ (by omega)]
theorem hi_def (n : Int) : n / 4294967296 = hi n := rfl
theorem hi_add (a b : Int) : hi a + hi b + (lo a + lo b) / 4294967296 = hi (a + b) := by unfold hi lo; omega
theorem lo_add (a b : Int) : lo (lo a + lo b) = lo (a + b) := by unfold lo; omega
theorem hi_sub (a b : Int) : hi a - hi b + (lo a - lo b) / 4294967296 = hi (a - b) := by unfold hi lo; omega
theorem lo_sub (a b : Int) : lo (lo a - lo b) = lo (a - b) := by unfold lo; omega
theorem hi_lo (a : Int) : hi a * 4294967296 + lo a = a := by unfold hi lo; omega

/-! Sums of columns -/
def sumTo : Nat → (Nat → Int) → Int
  | 0, _ => 0
  | k + 1, f => sumTo k f + f k
def lo64 (n : Int) : Int := n % 18446744073709551616
def hi64 (n : Int) : Int := n / 18446744073709551616
theorem lo64_nn (n : Int) : 0 ≤ lo64 n := by unfold lo64; omega
theorem lo64_le (n : Int) : lo64 n ≤ 18446744073709551615 := by unfold lo64; omega
def inR (n : Int) : Bool := decide (-9223372036854775808 ≤ n ∧ n ≤ 9223372036854775807)

theorem sumTo_bd {R : Nat} {f : Nat → Int} (h : ∀ k, k < R → -9223372036854775808 ≤ f k ∧ f k ≤ 9223372036854775807) : -9223372036854775808 * (R : Int) ≤ sumTo R f ∧ sumTo R f ≤ 9223372036854775808 * (R : Int) := by
  induction R with
  | zero => simp [sumTo]
  | succ R ih =>
    obtain ⟨h1, h2⟩ := ih fun k hk => h k (by omega)
    obtain ⟨h3, h4⟩ := h R (by omega)
    simp only [sumTo]
    omega

theorem hi64_bd {R : Nat} {n : Int} (h : -9223372036854775808 * (R : Int) ≤ n ∧ n ≤ 9223372036854775808 * (R : Int)) (hR : R ≤ 1048576) : -1048576 ≤ hi64 n ∧ hi64 n ≤ 1048576 := by unfold hi64; omega

theorem lo64_step (s v : Int) : (lo64 s + lo64 v) % 18446744073709551616 = lo64 (s + v) := by unfold lo64; omega
theorem hi64_step {s v : Int} (h1 : -9223372036854775808 ≤ v) (h2 : v ≤ 9223372036854775807) : hi64 s + (v / 9223372036854775808 + (lo64 s + lo64 v) / 18446744073709551616) = hi64 (s + v) := by
  unfold hi64 lo64
  omega
def carry (s v : Int) : Int := (lo64 s + lo64 v) / 18446744073709551616
theorem carry_nn (s v : Int) : 0 ≤ carry s v := by unfold carry lo64; omega
theorem carry_le (s v : Int) : carry s v ≤ 1 := by unfold carry lo64; omega
theorem wrap_lo64 (n : Int) : wrap64 (lo64 n) = wrap64 n := by unfold wrap64 lo64; omega
theorem u64_wrap (n : Int) : IntKind.u64.wrap n = lo64 n := by rw [IntKind.wrap_u64]; rfl
theorem inR_lo (n : Int) : (hi64 n == wrap64 (lo64 n) / 9223372036854775808) = decide (hi64 n = wrap64 n / 9223372036854775808) := by
  rw [wrap_lo64]
  by_cases h : hi64 n = wrap64 n / 9223372036854775808
  · rw [beq_iff_eq.2 h, decide_eq_true h]
  · rw [beq_eq_false_iff_ne.2 h, decide_eq_false h]
theorem inR_is (n : Int) : decide (hi64 n = wrap64 n / 9223372036854775808) = inR n := by
  unfold hi64 inR wrap64
  rw [decide_eq_decide]
  omega

/-- x >= y && x-y >= 0 -/
def subOk (x y : Int) : Bool := decide (y ≤ x ∧ x - y ≤ 9223372036854775807)
theorem subOk_ge {x y : Int} (x1 : -9223372036854775808 ≤ x) (x2 : x ≤ 9223372036854775807) (y1 : -9223372036854775808 ≤ y) (y2 : y ≤ 9223372036854775807) (h : y ≤ x) :
    Value.bool (decide (0 ≤ wrap64 (x - y))) = .bool (subOk x y) := by
  unfold subOk wrap64
  congr 1
  rw [decide_eq_decide]
  omega
theorem subOk_lt {x y : Int} (h : x < y) : Value.bool false = .bool (subOk x y) := by
  unfold subOk
  congr 1
  symm
  rw [decide_eq_false_iff_not]
  omega
theorem val_int {k : IntKind} {a b : Int} (h : a = b) : Value.int k a = .int k b := by rw [h]
theorem ret2 {a b c d : Value} (h1 : a = c) (h2 : b = d) : Ending.returned (.tuple #[a, b]) = .returned (.tuple #[c, d]) := by rw [h1, h2]

def badAmt (x : Int) : Bool := decide (x < 0 ∨ 1099511627776 < x)
theorem bad_lt {x : Int} (h : x < 0) : Ending.returned (.bool true) = .returned (.bool (badAmt x)) := by
  unfold badAmt
  rw [decide_eq_true (Or.inl h)]
theorem bad_ge {x : Int} (h : 0 ≤ x) : Ending.returned (.bool (decide (1099511627776 < x))) = .returned (.bool (badAmt x)) := by
  unfold badAmt
  congr 2
  rw [decide_eq_decide]
  omega
/-- The rows of a slice of slices: R of them, row r has len r numbers. -/
structure Rds (w : World) (L : Option Addr) (R : Nat) (A : Nat → Option Addr) (len C : Nat → Nat) (Z : Nat → Nat → Int) : Prop where
  small : R ≤ 9223372036854775807
  adr : 0 < R → ∃ b off, L = some ⟨b, off, none⟩ ∧ ∀ j, j < R → w.cell? ⟨b, off + j, none⟩ = some (.slice (A j) (len j) (C j))
  row : ∀ r, r < R → Rd w (A r) (len r) (Z r)

theorem Rds.below {w w' : World} {L R A len C Z} (h : Rds w L R A len C Z) (hb : Below w.heap.size w w') : Rds w' L R A len C Z :=
  ⟨h.small, fun hn => by
    obtain ⟨b, off, e, hc⟩ := h.adr hn
    exact ⟨b, off, e, fun j hj => by rw [hb.cell (p := ⟨b, off + j, none⟩) (World.block_lt_of_cell? _ _ (hc j hj))]; exact hc j hj⟩, fun r hr => (h.row r hr).below hb⟩

theorem Rds.nil (w : World) (L : Option Addr) (A len C Z) : Rds w L 0 A len C Z := ⟨by omega, fun h => absurd h (Nat.lt_irrefl _), fun _ h => absurd h (Nat.not_lt_zero _)⟩

theorem rd_ofRow {w : World} {b n : Nat} {Z : Nat → Int} (h : w.rowIs b 2 n (fun k => .int .i64 (Z k))) (hn : n ≤ 9223372036854775807) (hr : ∀ k, k < n → -9223372036854775808 ≤ Z k ∧ Z k ≤ 9223372036854775807) : Rd w (some ⟨b, 0, none⟩) n Z :=
  ⟨hn, hr, fun _ => ⟨b, 0, rfl, fun j hj => by rw [Nat.zero_add]; exact h.cell hj⟩⟩

/-- The cells of a row that append has made: number k is D k. -/
def rowL (n : Nat) (D : Nat → Int) : List Value := (List.range n).map fun k => .int .i64 (D k)
theorem rowL_succ (n : Nat) (D : Nat → Int) : rowL n D ++ [.int .i64 (D n)] = rowL (n + 1) D := by simp [rowL, List.range_succ]
theorem rd_ofOwn {w : World} {base n : Nat} {v : Value} {D : Nat → Int} (h : w.ownsRow base 2 1 v n (rowL n D)) (hn : n ≤ 9223372036854775807) (hr : ∀ k, k < n → -9223372036854775808 ≤ D k ∧ D k ≤ 9223372036854775807) :
    ∃ A cap, v = .slice A n cap ∧ Rd w A n D := by
  rcases h.2 with ⟨rfl, rfl⟩ | ⟨g, cap, cur, rfl, _, hb, _, _, _, ht⟩
  · exact ⟨none, 0, rfl, Rd.nil _ _ _⟩
  · refine ⟨some ⟨g, 0, none⟩, cap, rfl, hn, hr, fun _ => ⟨g, 0, rfl, fun j hj => ?_⟩⟩
    have := h.cells (g := g) rfl j (.int .i64 (D j)) (by simp [rowL, hj])
    rwa [WideShapes.add_plain] at this


/-- n = m and no element of Z is greater. -/
def fitsB (n : Nat) (Z : Nat → Int) (m : Nat) (Y : Nat → Int) : Bool := decide (n = m ∧ ∀ k, k < n → Z k ≤ Y k)
def sameB (n : Nat) (Z : Nat → Int) (m : Nat) (Y : Nat → Int) : Bool := decide (n = m ∧ ∀ k, k < n → Z k = Y k)

theorem fits_no {n m : Nat} {Z Y : Nat → Int} (h : n ≠ m) : fitsB n Z m Y = false := by simp [fitsB, h]
theorem fits_gt {n m : Nat} {Z Y : Nat → Int} {k : Nat} (hk : k < n) (h : Y k < Z k) : fitsB n Z m Y = false := by
  unfold fitsB
  rw [decide_eq_false_iff_not]
  intro ⟨_, h2⟩
  have := h2 k hk
  omega
theorem fits_yes {n m : Nat} {Z Y : Nat → Int} (h : n = m) (h2 : ∀ k, k < n → Z k ≤ Y k) : fitsB n Z m Y = true := by
  unfold fitsB
  exact decide_eq_true ⟨h, h2⟩

theorem same_no {n m : Nat} {Z Y : Nat → Int} (h : n ≠ m) : sameB n Z m Y = false := by simp [sameB, h]
theorem same_dif {n m : Nat} {Z Y : Nat → Int} {k : Nat} (hk : k < n) (h : Z k ≠ Y k) : sameB n Z m Y = false := by
  unfold sameB
  rw [decide_eq_false_iff_not]
  intro ⟨_, h2⟩
  exact h (h2 k hk)
theorem same_yes {n m : Nat} {Z Y : Nat → Int} (h : n = m) (h2 : ∀ k, k < n → Z k = Y k) : sameB n Z m Y = true := by
  unfold sameB
  exact decide_eq_true ⟨h, h2⟩
theorem retb {a b : Bool} (h : a = b) : Ending.returned (.bool a) = .returned (.bool b) := by rw [h]


set_option maxHeartbeats 400000 in
theorem rfits_eq (A B : Option Addr) (n c d : Nat) (Z Y : Nat → Int) (w : World) (hA : Rd w A n Z) (hB : Rd w B n Y) :
    Calls Tryd.prog 49 #[.slice A n c, .slice B n d] w fun e w' => e = .returned (.bool (fitsB n Z n Y)) ∧ Drawn w w' := by
  have hn := hA.small
  go_enter Tryd.func49, Tryd.ntmps49
  go_wp2
  go_loopg [5] n (fun g i wr => ∃ k : Nat, k ≤ n ∧ g = n - k ∧ i = .int .i64 k ∧ Drawn w wr ∧ Aside (∀ j, j < k → Z j ≤ Y j))
  case atStart => exact ⟨0, Nat.zero_le _, rfl, rfl, Drawn.refl _, fun _ h => absurd h (Nat.not_lt_zero _)⟩
  case round =>
    obtain ⟨k, hk, rfl, rfl, hd, hall⟩ := hrel
    by_cases hlt : k < n
    · obtain ⟨b, off, rfl, ca⟩ := (hA.below hd.below).adr (by omega)
      obtain ⟨b', off', rfl, cb⟩ := (hB.below hd.below).adr (by omega)
      have g0 := ca k hlt
      have g1 := cb k hlt
      clear ca cb hA hB
      by_cases hz : Z k ≤ Y k
      · go_wp2
        go_quiet (fail)
        go_wp2
        go_roundg (n - (k + 1))
        case measure => omega
        case rel => exact ⟨k + 1, hlt, rfl, by go_num, hd.drewN _, fun j hj => by
          rcases Nat.lt_succ_iff_lt_or_eq.1 hj with h | rfl
          · exact hall.out j h
          · exact hz⟩
      · go_wp2
        go_quiet (fail)
        go_wp2
        go_ret
        exact ⟨retb (fits_gt hlt (by omega)).symm, hd.drewN _⟩
    · obtain rfl : k = n := by omega
      go_wp2
      go_ret
      exact ⟨retb (fits_yes rfl hall.out).symm, hd⟩

set_option maxHeartbeats 400000 in
theorem rfits_ne (A B : Option Addr) (n m c d : Nat) (Z Y : Nat → Int) (w : World) (hA : Rd w A n Z) (hB : Rd w B m Y) (hne : n ≠ m) :
    Calls Tryd.prog 49 #[.slice A n c, .slice B m d] w fun e w' => e = .returned (.bool (fitsB n Z m Y)) ∧ Drawn w w' := by
  have hn := hA.small
  have hm := hB.small
  have hneb : ((n : Int) == (m : Int)) = false := by simp; omega
  rw [fits_no hne]
  have hne : Hid (n ≠ m) := hne
  go_enter Tryd.func49, Tryd.ntmps49
  go_wp2
  go_loopg [5] n (fun g i wr => ∃ k : Nat, k ≤ n ∧ k ≤ m ∧ g = n - k ∧ i = .int .i64 k ∧ Drawn w wr)
  case atStart => exact ⟨0, Nat.zero_le _, Nat.zero_le _, rfl, rfl, Drawn.refl _⟩
  case round =>
    obtain ⟨k, hk, hk', rfl, rfl, hd⟩ := hrel
    by_cases hlt : k < n
    · by_cases hlt' : k < m
      · obtain ⟨b, off, rfl, ca⟩ := (hA.below hd.below).adr (by omega)
        obtain ⟨b', off', rfl, cb⟩ := (hB.below hd.below).adr (by omega)
        have g0 := ca k hlt
        have g1 := cb k hlt'
        clear ca cb hA hB
        by_cases hz : Z k ≤ Y k
        · go_wp2
          go_quiet (fail)
          go_wp2
          go_roundg (n - (k + 1))
          case measure => omega
          case rel => exact ⟨k + 1, hlt, hlt', rfl, by go_num, hd.drewN _⟩
        · go_wp2
          go_quiet (fail)
          go_wp2
          go_ret
          exact ⟨rfl, hd.drewN _⟩
      · go_wp2
        go_ret
        exact ⟨rfl, hd⟩
    · go_wp2
      go_ret
      exact ⟨rfl, hd⟩

theorem rfits_any (A B : Option Addr) (n m c d : Nat) (Z Y : Nat → Int) (w : World) (hA : Rd w A n Z) (hB : Rd w B m Y) :
    Calls Tryd.prog 49 #[.slice A n c, .slice B m d] w fun e w' => e = .returned (.bool (fitsB n Z m Y)) ∧ Drawn w w' := by
  by_cases h : n = m
  · subst h; exact rfits_eq A B n c d Z Y w hA hB
  · exact rfits_ne A B n m c d Z Y w hA hB h

theorem same_of_fits {n m : Nat} {Z Y : Nat → Int} (h1 : fitsB n Z m Y = true) : fitsB m Y n Z = sameB n Z m Y := by
  unfold fitsB at h1
  obtain ⟨rfl, h2⟩ := of_decide_eq_true h1
  unfold fitsB sameB
  rw [decide_eq_decide]
  exact ⟨fun h => ⟨rfl, fun k hk => by have := h2 k hk; have := h.2 k hk; omega⟩, fun h => ⟨rfl, fun k hk => by have := h.2 k hk; omega⟩⟩
theorem same_of_nofits {n m : Nat} {Z Y : Nat → Int} (h1 : fitsB n Z m Y = false) : sameB n Z m Y = false := by
  unfold fitsB at h1
  unfold sameB
  rw [decide_eq_false_iff_not] at h1 ⊢
  exact fun h => h1 ⟨h.1, fun k hk => by have := h.2 k hk; omega⟩

theorem rfits_is (A B : Option Addr) (n m c d : Nat) (Z Y : Nat → Int) (w : World) (hA : Rd w A n Z) (hB : Rd w B m Y) (b : Bool) (h : fitsB n Z m Y = b) :
    Calls Tryd.prog 49 #[.slice A n c, .slice B m d] w fun e w' => e = .returned (.bool b) ∧ Drawn w w' := by
  rw [← h]; exact rfits_any A B n m c d Z Y w hA hB
set_option maxHeartbeats 400000 in
theorem rsame_is (A B : Option Addr) (n m c d : Nat) (Z Y : Nat → Int) (w : World) (hA : Rd w A n Z) (hB : Rd w B m Y) (b : Bool) (h : sameB n Z m Y = b) :
    Calls Tryd.prog 36 #[.slice A n c, .slice B m d] w fun e w' => e = .returned (.bool b) ∧ Drawn w w' := by
  cases h1 : fitsB n Z m Y
  · have hb := same_of_nofits h1
    have H1 : Hid (fitsB n Z m Y = false) := h1
    obtain rfl : false = b := hb.symm.trans h
    clear h1 hb h
    go_enter Tryd.func36, Tryd.ntmps36
    go_wp2_with (go_at_call 49; refine (rfits_is _ _ _ _ _ _ _ _ _ hA hB _ H1.out).mono ?_; rintro e w' ⟨rfl, hd⟩)
    go_ret
    exact ⟨rfl, hd⟩
  · have H2 : Hid (fitsB m Y n Z = b) := (same_of_fits h1).trans h
    have H1 : Hid (fitsB n Z m Y = true) := h1
    clear h1 h
    go_enter Tryd.func36, Tryd.ntmps36
    go_wp2_with fail
    refine (rfits_is _ _ _ _ _ _ _ _ _ hA hB _ H1.out).mono ?_
    rintro e w' ⟨rfl, hd⟩
    go_wp2_with fail
    refine (rfits_is _ _ _ _ _ _ _ _ _ (hB.below hd.below) (hA.below hd.below) _ H2.out).mono ?_
    rintro e w'' ⟨rfl, hd'⟩
    go_wp2_with fail
    go_ret
    exact ⟨rfl, hd.trans hd'⟩

theorem Tryd.info12 : (Tryd.prog.info? 2).map (fun i => (i.zero, i.size, i.bytes)) = some (some (.int .i64 0), 1, 8) := by kernel_rfl

theorem val_bool {a b : Bool} (h : a = b) : Value.bool a = .bool b := by rw [h]

theorem inR_range {n : Int} (h : inR n = true) : -9223372036854775808 ≤ n ∧ n ≤ 9223372036854775807 := by unfold inR at h; exact of_decide_eq_true h

theorem wrap64_of_inR {n : Int} (h : inR n = true) : wrap64 n = n := IntWalk.wrap64_in n (inR_range h)
/-- The sum of R rows exists. -/
def AddOk (R : Nat) (len : Nat → Nat) (Z : Nat → Nat → Int) : Prop := 0 < R ∧ (∀ r, r < R → len r = len 0) ∧ ∀ k, k < len 0 → inR (sumTo R fun r => Z r k) = true

/-- What Add hands back: the sum in a new row, or nothing. -/
def AddPost (R : Nat) (len : Nat → Nat) (Z : Nat → Nat → Int) (w : World) (e : Ending) (w' : World) : Prop :=
  Below w.heap.size w w' ∧
    ((AddOk R len Z ∧ e = .returned (.tuple #[.slice (some ⟨w.heap.size, 0, none⟩) (len 0) (len 0), .bool true]) ∧ w'.rowIs w.heap.size 2 (len 0) (fun k => .int .i64 (sumTo R fun r => Z r k))) ∨
      (¬ AddOk R len Z ∧ e = .returned (.tuple #[.slice none 0 0, .bool false])))

theorem subOk_range {x y : Int} (h : subOk x y = true) : y ≤ x ∧ x - y ≤ 9223372036854775807 := by unfold subOk at h; exact of_decide_eq_true h
def SubOk (n : Nat) (Z : Nat → Int) (m : Nat) (Y : Nat → Int) : Prop := n = m ∧ ∀ k, k < n → subOk (Z k) (Y k) = true
def SubPost (n : Nat) (Z : Nat → Int) (m : Nat) (Y : Nat → Int) (w : World) (e : Ending) (w' : World) : Prop :=
  Below w.heap.size w w' ∧
    ((SubOk n Z m Y ∧ e = .returned (.tuple #[.slice (some ⟨w.heap.size, 0, none⟩) n n, .bool true]) ∧ w'.rowIs w.heap.size 2 n (fun k => .int .i64 (Z k - Y k))) ∨
      (¬ SubOk n Z m Y ∧ e = .returned (.tuple #[.slice none 0 0, .bool false])))

theorem rowIs_drewN {w : World} {b : Nat} {t : TypeId} {n : Nat} {f : Nat → Value} (h : w.rowIs b t n f) (q : Nat) : (w.drewN q).rowIs b t n f := h

def MostPost (n : Nat) (Z : Nat → Int) (m : Nat) (Y : Nat → Int) (w : World) (e : Ending) (w' : World) : Prop :=
  Below w.heap.size w w' ∧
    ((n = m ∧ e = .returned (.tuple #[.slice (some ⟨w.heap.size, 0, none⟩) n n, .bool true]) ∧ w'.rowIs w.heap.size 2 n (fun k => .int .i64 (max (Z k) (Y k)))) ∨
      (n ≠ m ∧ e = .returned (.tuple #[.slice none 0 0, .bool false])))

def wrongOf (n : Nat) (Z : Nat → Int) (d : Int) : Int :=
  match (List.range n).find? (fun k => badAmt (Z k)) with
  | some k => k
  | none => if (n : Int) = d then -1 else max (min d n) 0
theorem wrongOf_bad {n : Nat} {Z : Nat → Int} {d : Int} {k : Nat} (hk : k < n) (hb : badAmt (Z k) = true) (h : ∀ j, j < k → badAmt (Z j) = false) : wrongOf n Z d = k := by
  have e : (List.range n).find? (fun k => badAmt (Z k)) = some k := by
    rw [List.find?_range_eq_some]
    exact ⟨hb, List.mem_range.2 hk, fun j hj => by rw [h j hj]; rfl⟩
  rw [wrongOf, e]
theorem wrongOf_ok {n : Nat} {Z : Nat → Int} {d : Int} (h : ∀ j, j < n → badAmt (Z j) = false) : wrongOf n Z d = if (n : Int) = d then -1 else max (min d n) 0 := by
  have e : (List.range n).find? (fun k => badAmt (Z k)) = none := by
    rw [List.find?_range_eq_none]
    exact fun j hj => by rw [h j hj]; rfl
  rw [wrongOf, e]
/-- The first bad index, or there is none. -/
theorem bad_or (n : Nat) (Z : Nat → Int) : (∃ k, k < n ∧ badAmt (Z k) = true ∧ ∀ j, j < k → badAmt (Z j) = false) ∨ ∀ j, j < n → badAmt (Z j) = false := by
  induction n with
  | zero => exact Or.inr fun _ h => absurd h (Nat.not_lt_zero _)
  | succ n ih =>
    rcases ih with ⟨k, h1, h2, h3⟩ | h
    · exact Or.inl ⟨k, by omega, h2, h3⟩
    · cases hb : badAmt (Z n)
      · refine Or.inr fun j hj => ?_
        rcases Nat.lt_succ_iff_lt_or_eq.1 hj with h' | rfl
        · exact h j h'
        · exact hb
      · exact Or.inl ⟨n, by omega, hb, h⟩

theorem ret_int {k : IntKind} {a b : Int} (h : a = b) : Ending.returned (.int k a) = .returned (.int k b) := by rw [h]

theorem bad_not {x : Int} (h : badAmt x = false) : 0 ≤ x ∧ x ≤ 1099511627776 := by
  unfold badAmt at h
  rw [decide_eq_false_iff_not] at h
  omega
theorem bad_yes {x : Int} (h : badAmt x = true) : x < 0 ∨ 1099511627776 < x := by
  unfold badAmt at h
  exact of_decide_eq_true h

end Go.Proofs.YtfidlljhmebpmaaDoor.V12
