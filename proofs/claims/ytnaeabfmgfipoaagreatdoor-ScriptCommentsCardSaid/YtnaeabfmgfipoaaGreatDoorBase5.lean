/-
  A row of operations of the call's own. No condition.
  Numbers that are read are in range; reading line by line. No condition.
  Operations that came in; an operation's line and its code, the program's and the reference's. Conditions: the listed variables hold their own; at most 100 amounts.
  (*strings.Builder).WriteString on a builder of the call's own. Condition: what it holds then takes at most 2^47 bytes.
  (*strings.Builder).WriteByte and String on a builder of the call's own. Condition: what it holds then takes at most 2^47 bytes.
  The program's Write: the lines, or the first operation without one. Conditions: the listed variables hold their own; at most 300 operations with at most 100 amounts each.
  The program's Read says what the lines say. Conditions: the listed variables hold their own; at most 1048576 bytes.
  The law's 'wrong' at a fault with its own code and index. Condition: errors.errorType holds its own.
  The calls of the law's awake, each with its answer. Condition: the listed variables hold their own.
  The law's awake returns true. Condition: the listed variables hold their own.
  From a walk ('it returns true, and what was there is as it was') to a law's row; how arguments open; what the laid variables give. No condition.
-/
import Derived.Test.YtnaeabfmgfipoaaGreatDoorBase4
import Derived.Test.YtnaeabfmgfipoaaGreatDoorBase2
import Derived.Lib.Strings
import Derived.Lib.Slices
import Derived.Lib.Walk
import Derived.Lib.Builder
import Derived.Lib.AppendStr
import Derived.Laws.Externs
import Derived.Test.YtnaeabfmgfipoaaGreatDoorBase3
import Derived.Test.YtnaeabfmgfipoaaGreatDoorBase1
import Derived.OneCell
import Derived.Deep.AppendLies
import Derived.WalkMore
import Derived.Deep.LoopGhost
import Derived.Deep.RegionHeld3
import Derived.Test.YtnaeabfmgfipoaaGreatDoorRows
import Derived.ProofKit
import Derived.OpenShut
import Derived.SizedLaws
import Derived.Deep.Modes
import Derived.Deep.Frames
import Derived.Deep.Matrix
import Derived.LaidMore
import Derived.LaidHandle
import Derived.LaidLaws
import Derived.ChangeSame
import Derived.ChangeVars
import Derived.JoinedOf
import Derived.Stop.Joined
import Derived.Stop.LaidErr
import Derived.Lib.LaidTab
namespace Go.Proofs.YtnaeabfmgfipoaaGreatDoor
open Go.RowKit

theorem Tryz.infoOp : (Tryz.prog.info? 34).map (fun i => (i.zero, i.size, i.bytes)) = some (some (.agg #[.int .i64 0, .int .i64 0, .int .i64 0, .int .i64 0, .bool false, .slice none 0 0]), 6, 64) := by kernel_rfl
/-- The six cells of an operation. -/
def opC (p : OpD × Value) : List Value := [.int .i64 p.1.kind, .int .i64 p.1.id, .int .i64 p.1.cls, .int .i64 p.1.n, .bool p.1.flag, p.2]
def opCs (L : List (OpD × Value)) : List Value := L.flatMap opC
theorem opCs_snoc (L : List (OpD × Value)) (p : OpD × Value) : opCs (L ++ [p]) = opCs L ++ opC p := by unfold opCs; rw [List.flatMap_append]; simp
theorem opCs_len : ∀ (L : List (OpD × Value)), (opCs L).length = 6 * L.length
  | [] => rfl
  | p :: L => by
    have h := opCs_len L
    show (opC p ++ opCs L).length = _
    rw [List.length_append, h, List.length_cons]
    show 6 + _ = _
    omega
theorem opCs_get : ∀ (L : List (OpD × Value)) (j : Nat) (h : j < L.length) (i : Nat), i < 6 → (opCs L)[6 * j + i]? = (opC L[j])[i]?
  | [], j, h, _, _ => by simp at h
  | p :: L, 0, _, i, hi => by
    show (opC p ++ opCs L)[6 * 0 + i]? = _
    rw [List.getElem?_append_left (by show _ < 6; omega)]
    simp
  | p :: L, j + 1, h, i, hi => by
    show (opC p ++ opCs L)[6 * (j + 1) + i]? = _
    rw [List.getElem?_append_right (by show 6 ≤ _; omega)]
    have e : 6 * (j + 1) + i - (opC p).length = 6 * j + i := by show _ - 6 = _; omega
    rw [e, opCs_get L j (by simp at h; omega) i hi]
    rfl
structure OpsAt (w : World) (base : Nat) (v : Value) (L : List (OpD × Value)) : Prop where
  row : w.ownsRow base 34 6 v L.length (opCs L)
  am : ∀ p ∈ L, w.ownsRow base 2 1 p.2 p.1.amounts.length (ints p.1.amounts)
theorem OpsAt.nil (w : World) (base : Nat) : OpsAt w base (.slice none 0 0) [] := ⟨World.ownsRow_nil _ _ _ _, fun p hp => by cases hp⟩
theorem OpsAt.keep {w w' : World} {base : Nat} {v : Value} {L : List (OpD × Value)} (h : OpsAt w base v L) (k : Keep w w') : OpsAt w' base v L := ⟨own_keep h.row k, fun p hp => own_keep (h.am p hp) k⟩
theorem row_kind {w : World} {base n z : Nat} {e : TypeId} {v : Value} {xs : List Value} (h : w.ownsRow base e z v n xs) {g : Nat} (hg : v.ownBlock = some g) : ∃ cur, w.heap[g]? = some (.cells cur e (0, 0)) := by
  rcases h.2 with ⟨rfl, _⟩ | ⟨g', cap, cur, rfl, _, h5, _⟩
  · simp [Value.ownBlock] at hg
  · have : g' = g := by simpa [Value.ownBlock] using hg
    subst this
    exact ⟨cur, h5⟩
/-- Two rows of different elements lie in different blocks. -/
theorem rows_apart {w : World} {b1 b2 n1 n2 z1 z2 : Nat} {e1 e2 : TypeId} {v1 v2 : Value} {xs1 xs2 : List Value} (h1 : w.ownsRow b1 e1 z1 v1 n1 xs1) (h2 : w.ownsRow b2 e2 z2 v2 n2 xs2) (he : e1 ≠ e2) : v1.ownBlock = none ∨ v1.ownBlock ≠ v2.ownBlock := by
  cases hv : v1.ownBlock with
  | none => exact Or.inl rfl
  | some g =>
    right
    intro e
    obtain ⟨c1, k1⟩ := row_kind h1 hv
    obtain ⟨c2, k2⟩ := row_kind h2 e.symm
    rw [k1] at k2
    injection k2 with k2
    injection k2 with _ k2
    exact he k2
theorem base_le {w : World} {base base' n z : Nat} {e : TypeId} {v : Value} {xs : List Value} (h : w.ownsRow base e z v n xs) (hb : base' ≤ base) : w.ownsRow base' e z v n xs := own_base h hb
/-- One operation more. -/
theorem OpsAt.more {w w' : World} {base : Nat} {v v' : Value} {L : List (OpD × Value)} {p : OpD × Value} (h : OpsAt w base v L) (hp : w.ownsRow base 2 1 p.2 p.1.amounts.length (ints p.1.amounts))
    (hr : w'.ownsRow base 34 6 v' (L.length + 1) (opCs L ++ opC p)) (hg : w.grownBy w' v.ownBlock) : OpsAt w' base v' (L ++ [p]) where
  row := by rw [opCs_snoc, List.length_append]; exact hr
  am := fun q hq => by
    rcases List.mem_append.1 hq with hq | hq
    · exact (h.am q hq).kept hg (rows_apart (h.am q hq) h.row (by decide))
    · obtain rfl : q = p := by simpa using hq
      exact hp.kept hg (rows_apart hp h.row (by decide))
/-- The cells of the j-th. -/
theorem OpsAt.cells {w : World} {base : Nat} {v : Value} {L : List (OpD × Value)} (h : OpsAt w base v L) {j : Nat} (hj : j < L.length) : ∃ g cap, v = .slice (some ⟨g, 0, none⟩) L.length cap ∧ ∀ i u, (opC L[j])[i]? = some u → w.cell? ⟨g, 6 * j + i, none⟩ = some u := by
  obtain ⟨g, cap, rfl, _, _⟩ := h.row.form (by omega)
  refine ⟨g, cap, rfl, fun i u hu => ?_⟩
  have hi : i < 6 := by have := (List.getElem?_eq_some_iff.1 hu).1; exact this
  have hc := h.row.cells (g := g) rfl (6 * j + i) u (by rw [opCs_get L j hj i hi]; exact hu)
  have hadd : (⟨g, 0, none⟩ : Addr).add (6 * j + i) = ⟨g, 6 * j + i, none⟩ := by unfold Addr.add; split <;> simp_all
  rw [hadd] at hc
  exact hc
/-- Its amounts read so. -/
theorem rd_ints {w : World} {base : Nat} {v : Value} {l : List Int} (h : w.ownsRow base 2 1 v l.length (ints l)) (hr : ∀ x ∈ l, (-9223372036854775808 ≤ x ∧ x ≤ 9223372036854775807)) (hl : l.length ≤ 9223372036854775807) : ∃ A cap, v = .slice A l.length cap ∧ Rd w A l.length (fun j => l.getD j 0) := by
  rcases h.2 with ⟨rfl, h0⟩ | ⟨g, cap, cur, rfl, hb, hg, _⟩
  · exact ⟨none, 0, by rw [h0], ⟨hl, fun k hk => by omega, fun hk => by omega⟩⟩
  · refine ⟨some ⟨g, 0, none⟩, cap, rfl, ⟨hl, fun k hk => ?_, fun _ => ⟨g, 0, rfl, fun j hj => ?_⟩⟩⟩
    · rw [List.getD_eq_getElem?_getD, List.getElem?_eq_getElem hk]
      exact hr _ (List.getElem_mem hk)
    · have hc := h.cells (g := g) rfl j (.int .i64 (l.getD j 0)) (by unfold ints; rw [List.getElem?_map, List.getElem?_eq_getElem hj, List.getD_eq_getElem?_getD, List.getElem?_eq_getElem hj]; rfl)
      have hadd : (⟨g, 0, none⟩ : Addr).add j = ⟨g, j, none⟩ := by unfold Addr.add; split <;> simp_all
      rw [hadd] at hc
      rw [Nat.zero_add]
      exact hc
end Go.Proofs.YtnaeabfmgfipoaaGreatDoor
namespace Go.Proofs.YtnaeabfmgfipoaaGreatDoor
open Go.RowKit

theorem acc_le {B : Nat → Int} {k : Nat} {v : Int} (h : acc B k = some v) : 0 ≤ v ∧ v ≤ 4611686018427387904 := by
  have hd := acc_digs h
  rw [acc_val hd] at h
  by_cases hv : valD B k ≤ 4611686018427387904
  · rw [if_pos hv] at h
    injection h with h
    have := valD_pos hd
    omega
  · rw [if_neg hv] at h; cases h
theorem numOf_range {s : ByteArray} {v : Int} (h : numOf s = some v) : -9223372036854775808 ≤ v ∧ v ≤ 9223372036854775807 := by
  unfold numOf at h
  by_cases hc : (digitsOf s).size = 0 ∨ 19 < (digitsOf s).size ∨ (byteAt (digitsOf s) 0 = 48 ∧ ¬ s = ⟨#[48]⟩)
  · rw [if_pos hc] at h; cases h
  · rw [if_neg hc] at h
    cases ha : acc (byteAt (digitsOf s)) (digitsOf s).size with
    | none => rw [ha] at h; cases h
    | some u =>
      rw [ha] at h
      have := acc_le ha
      injection h with h
      cases hn : isNeg s
      · rw [hn] at h; simp at h; omega
      · rw [hn] at h; simp at h; omega
theorem numsRead_range : ∀ (l : List ByteArray) (r : List Int), numsRead l = some r → ∀ x ∈ r, -9223372036854775808 ≤ x ∧ x ≤ 9223372036854775807
  | [], r, h, x, hx => by cases h; cases hx
  | w :: l, r, h, x, hx => by
    unfold numsRead at h
    cases hw : numOf w with
    | none => rw [hw] at h; cases h
    | some v =>
      rw [hw] at h
      cases hl : numsRead l with
      | none => rw [hl] at h; cases h
      | some r' =>
        rw [hl] at h
        injection h with h
        subst h
        rcases List.mem_cons.1 hx with rfl | hx
        · exact numOf_range hw
        · exact numsRead_range l r' hl x hx
def inRangeD (d : OpD) : Prop := ∀ x ∈ d.amounts, -9223372036854775808 ≤ x ∧ x ≤ 9223372036854775807
theorem build_range {k : Int} {f : Bool} {l : List Int} {d : OpD} (h : buildOp k f l = some d) (hl : ∀ x ∈ l, -9223372036854775808 ≤ x ∧ x ≤ 9223372036854775807) : inRangeD d ∧ d.amounts.length ≤ l.length := by
  unfold buildOp at h
  split at h
  · cases h
  · injection h with h
    subst h
    exact ⟨fun x hx => hl x (List.mem_of_mem_drop hx), by show (List.drop _ _).length ≤ _; rw [List.length_drop]; omega⟩
theorem numsRead_len : ∀ (l : List ByteArray) (r : List Int), numsRead l = some r → r.length = l.length := by
  intro l r h
  rw [numsRead_eq] at h
  split at h
  · injection h with h; rw [← h, vals_len]
  · cases h
theorem parse_range {ws : List ByteArray} {d : OpD} (h : parseOf ws = some d) : inRangeD d ∧ d.amounts.length ≤ ws.length := by
  cases ws with
  | nil => cases h
  | cons w0 r =>
    rw [parseOf] at h
    by_cases h0 : kindOf w0 = 0
    · rw [if_pos h0] at h; cases h
    · rw [if_neg h0] at h
      by_cases h1 : kindOf w0 = 1
      · rw [if_pos h1] at h
        by_cases h2 : r.length ≠ 3 ∨ (r.getD 2 ⟨#[]⟩ ≠ yesW ∧ r.getD 2 ⟨#[]⟩ ≠ noW)
        · rw [if_pos h2] at h; cases h
        · rw [if_neg h2] at h
          cases hn : numsRead (r.take 2) with
          | none => rw [hn] at h; cases h
          | some l =>
            rw [hn] at h
            have h2 := build_range h (numsRead_range _ _ hn)
            have h3 := numsRead_len _ _ hn
            rw [List.length_take] at h3
            exact ⟨h2.1, by rw [List.length_cons]; omega⟩
      · rw [if_neg h1] at h
        cases hn : numsRead r with
        | none => rw [hn] at h; cases h
        | some l =>
          rw [hn] at h
          have h2 := build_range h (numsRead_range _ _ hn)
          have h3 := numsRead_len _ _ hn
          exact ⟨h2.1, by rw [List.length_cons]; omega⟩
/-- What has been read, and what the rest says. -/
def comb (acc : List OpD) : List OpD ⊕ Nat → List OpD ⊕ Nat
  | .inl os => .inl (acc ++ os)
  | .inr m => .inr m
theorem comb_nil (r : List OpD ⊕ Nat) : comb [] r = r := by cases r <;> rfl
theorem comb_skip {acc : List OpD} {n : Nat} {l : ByteArray} {r : List ByteArray} (h : skipL l = true) : comb acc (readFrom n (l :: r)) = comb acc (readFrom (n + 1) r) := by rw [readFrom, if_pos h]
theorem comb_bad {acc : List OpD} {n : Nat} {l : ByteArray} {r : List ByteArray} (h : skipL l = false) (hp : parseOf (wordsOf l) = none) : comb acc (readFrom n (l :: r)) = .inr n := by rw [readFrom, if_neg (by rw [h]; exact Bool.noConfusion), hp]; rfl
theorem comb_good {acc : List OpD} {n : Nat} {l : ByteArray} {r : List ByteArray} {d : OpD} (h : skipL l = false) (hp : parseOf (wordsOf l) = some d) : comb acc (readFrom n (l :: r)) = comb (acc ++ [d]) (readFrom (n + 1) r) := by
  rw [readFrom, if_neg (by rw [h]; exact Bool.noConfusion), hp]
  cases readFrom (n + 1) r with
  | inl os => show Sum.inl (acc ++ d :: os) = Sum.inl ((acc ++ [d]) ++ os); rw [List.append_assoc]; rfl
  | inr m => rfl
def restN (more : Bool) (s : ByteArray) : List ByteArray := if more then splitC 10 s else []
theorem restN_take (s : ByteArray) : restN true s = headC 10 s :: restN (moreC 10 s) (restC 10 s) := split_take 10 s
end Go.Proofs.YtnaeabfmgfipoaaGreatDoor
namespace Go.Proofs.YtnaeabfmgfipoaaGreatDoor
open Go.RowKit

structure OpV where
  k : Int
  i : Int
  c : Int
  n : Int
  f : Bool
  A : Option Addr
  m : Nat
  cp : Nat
  Z : Nat → Int
namespace OpV
def val (p : OpV) : Value := .agg #[.int .i64 p.k, .int .i64 p.i, .int .i64 p.c, .int .i64 p.n, .bool p.f, .slice p.A p.m p.cp]
def cells (p : OpV) : List Value := [.int .i64 p.k, .int .i64 p.i, .int .i64 p.c, .int .i64 p.n, .bool p.f, .slice p.A p.m p.cp]
def nums (p : OpV) : List Int := allN p.k p.i p.c p.n p.m p.Z
def out (p : OpV) : Prop := p.k < 1 ∨ 7 < p.k
instance (p : OpV) : Decidable p.out := inferInstanceAs (Decidable (p.k < 1 ∨ 7 < p.k))
def code (p : OpV) : Int := if p.out then 1 else lineC p.nums
def line (p : OpV) : ByteArray := if p.out then ⟨#[]⟩ else lineT p.k p.f (kindNm p.k) p.nums
def good (p : OpV) : Bool := decide (p.code = 0)
end OpV
/-- It reads so. -/
structure OpIs (w : World) (p : OpV) : Prop where
  rd : Rd w p.A p.m p.Z
  nil : p.A = none → p.m = 0 ∧ p.cp = 0
  rng : I64 p.k ∧ I64 p.i ∧ I64 p.c ∧ I64 p.n
theorem OpIs.keep {w w' : World} {p : OpV} (h : OpIs w p) (k : Keep w w') : OpIs w' p := ⟨h.rd.keep k, h.nil, h.rng⟩
theorem code_out {p : OpV} (h : p.out) : p.code = 1 ∧ p.line = ⟨#[]⟩ ∧ p.good = false := by
  have hc : p.code = 1 := if_pos h
  exact ⟨hc, if_pos h, by unfold OpV.good; rw [hc]; rfl⟩
theorem code_in {p : OpV} (h : ¬ p.out) : p.code = lineC p.nums ∧ p.line = lineT p.k p.f (kindNm p.k) p.nums ∧ p.good = okL p.nums := by
  have hc : p.code = lineC p.nums := if_neg h
  refine ⟨hc, if_neg h, ?_⟩
  unfold OpV.good
  rw [hc]
  unfold lineC
  cases okL p.nums <;> rfl
theorem sline_fn (p : OpV) (w : World) (hv : V4 w) (h : OpIs w p) (hm : p.m ≤ 100) : Calls Tryz.prog 13 #[p.val] w fun e w' => e = .returned (.tuple #[.string p.line, .bool p.good]) ∧ Keep w w' := by
  by_cases ho : p.out
  · obtain ⟨_, h2, h3⟩ := code_out ho
    rw [h2, h3]
    exact sline_out p.k p.i p.c p.n p.f p.A p.m p.cp w hv.base ho
  · obtain ⟨_, h2, h3⟩ := code_in ho
    rw [h2, h3]
    have hk : ((p.k.toNat : Nat) : Int) = p.k := by unfold OpV.out at ho; omega
    have hl := sline_in p.k.toNat p.i p.c p.n p.f p.A p.m p.cp p.Z w hv h.rd hm h.rng.2.1 h.rng.2.2.1 h.rng.2.2.2 (by rw [hk]; exact ho)
    rw [hk] at hl
    exact hl
theorem rline_is (p : OpV) (w : World) (h : OpIs w p) (hm : p.m ≤ 100) : Calls Tryz.prog 14 #[p.val] w fun e w' => e = .returned (.tuple #[.string p.line, .int .i64 p.code]) ∧ Keep w w' := by
  have hr := rline_fn p.k p.i p.c p.n p.f p.A p.m p.cp p.Z w h.rd hm
  by_cases ho : p.out
  · obtain ⟨h1, h2, _⟩ := code_out ho
    rw [h1, h2]
    exact hr.1 ho
  · obtain ⟨h1, h2, _⟩ := code_in ho
    rw [h1, h2]
    exact hr.2 ho
theorem slinecode_fn (p : OpV) (w : World) (hv : V4 w) (hg : p.good = false) : Calls Tryz.prog 42 #[p.val] w fun e w' => e = .returned (.int .i64 p.code) ∧ Keep w w' := by
  by_cases ho : p.out
  · obtain ⟨h1, _, _⟩ := code_out ho
    rw [h1]
    exact linecode_out p.k p.i p.c p.n p.f p.A p.m p.cp w hv.base ho
  · obtain ⟨h1, _, h3⟩ := code_in ho
    have hc : p.code = 4 := by rw [h1]; unfold lineC; rw [← h3, hg]; rfl
    rw [hc]
    exact linecode_in p.k p.i p.c p.n p.f p.A p.m p.cp w hv.base ho
theorem good_code {p : OpV} (h : p.good = true) : p.code = 0 := of_decide_eq_true h
theorem bad_code {p : OpV} (h : p.good = false) : p.code ≠ 0 := of_decide_eq_false h
theorem line_size (p : OpV) (hm : p.m ≤ 100) : p.line.size ≤ 2300 := by
  unfold OpV.line
  split
  · exact Nat.zero_le _
  · unfold lineT
    split
    · rename_i ho hok
      have h1 := joinN_size p.nums (kindNm p.k) (okL_in hok)
      have h2 := allN_len p.k p.i p.c p.n p.m p.Z
      have h3 := kindNm_size4 p.k
      have h4 : p.nums.length ≤ 3 + p.m := h2
      split
      · rw [ByteArray.size_append]
        have : (if p.f then (⟨#[32, 121, 101, 115]⟩ : ByteArray) else ⟨#[32, 110, 111]⟩).size ≤ 4 := by cases p.f <;> decide
        omega
      · omega
    · exact Nat.zero_le _
/-- The operations of a slice. -/
structure RdOps (w : World) (A : Option Addr) (n : Nat) (P : Nat → OpV) : Prop where
  adr : 0 < n → ∃ b off, A = some ⟨b, off, none⟩ ∧ ∀ j, j < n → ∀ i u, (P j).cells[i]? = some u → w.cell? ⟨b, off + j * 6 + i, none⟩ = some u
  is : ∀ j, j < n → OpIs w (P j)
theorem RdOps.keep {w w' : World} {A : Option Addr} {n : Nat} {P : Nat → OpV} (h : RdOps w A n P) (k : Keep w w') : RdOps w' A n P :=
  ⟨fun hn => by obtain ⟨b, off, e, hc⟩ := h.adr hn; exact ⟨b, off, e, fun j hj i u hu => k.cell (hc j hj i u hu)⟩, fun j hj => (h.is j hj).keep k⟩
theorem ops_at (A : Option Addr) (n cp j b off : Nat) (hA : A = some ⟨b, off, none⟩) (hj : j < n) (W : World) : (Instr.indexAt 23 (.slice A n cp) (.int .i64 j)).run Tryz.prog W = .ok (.pointer (some ⟨b, off + j * 6, none⟩)) W := by
  rw [hA]
  go_simp
def lines (P : Nat → OpV) (q : Nat) : List ByteArray := (List.range q).map fun j => (P j).line
theorem glue_snoc : ∀ (L : List ByteArray) (x : ByteArray), glue (L ++ [x]) = glue L ++ (x ++ ⟨#[10]⟩)
  | [], x => by
    show (x ++ ⟨#[10]⟩) ++ (⟨#[]⟩ : ByteArray) = (⟨#[]⟩ : ByteArray) ++ (x ++ ⟨#[10]⟩)
    apply ByteArray.ext
    simp [ByteArray.data_append]
  | l :: L, x => by
    show (l ++ ⟨#[10]⟩) ++ glue (L ++ [x]) = ((l ++ ⟨#[10]⟩) ++ glue L) ++ (x ++ ⟨#[10]⟩)
    rw [glue_snoc L x]; exact ByteArray.append_assoc.symm
theorem lines_snoc (P : Nat → OpV) (q : Nat) : lines P (q + 1) = lines P q ++ [(P q).line] := by unfold lines; rw [List.range_succ, List.map_append]; rfl
end Go.Proofs.YtnaeabfmgfipoaaGreatDoor
namespace Go.Proofs.YtnaeabfmgfipoaaGreatDoor
open Go.RowKit Go.Extern.Stop Go.Stop Go.Extern

theorem Tryz.sizeOfBuilder : ∃ j, Tryz.prog.info? 79 = some j ∧ j.size = 2 := by
  have h : (Tryz.prog.info? 79).map (·.size) = some 2 := by kernel_rfl
  exact Option.map_eq_some_iff.1 h
set_option maxRecDepth 100000 in
set_option maxHeartbeats 1000000 in
theorem check_used (b : Nat) (w : World) (h0 : w.cell? ⟨b, 0, none⟩ = some (.pointer (some ⟨b, 0, none⟩))) :
    Calls Tryz.prog 57 #[.pointer (some ⟨b, 0, none⟩)] w fun e w' => e = .returned (.tuple #[]) ∧ w = w' := by
  obtain ⟨j, hj, _⟩ := Tryz.sizeOfBuilder
  go_enter Tryz.func57, Tryz.ntmps57
  go_wp2
  rw [Lib.run_neq_ptr_same w _ Tryz.underlying77 hj]
  go_wp2
  go_end0
  exact ⟨rfl, rfl⟩
set_option maxRecDepth 100000 in
set_option maxHeartbeats 1000000 in
theorem check_fresh (b : Nat) (w : World) (h0 : w.cell? ⟨b, 0, none⟩ = some (.pointer none)) (hs : w.shape? b = some (79, 2)) (hf : w.frozen? ⟨b, 0, none⟩ = false) :
    Calls Tryz.prog 57 #[.pointer (some ⟨b, 0, none⟩)] w fun e w' => e = .returned (.tuple #[]) ∧ w' = w.setCell ⟨b, 0, none⟩ (.pointer (some ⟨b, 0, none⟩)) := by
  obtain ⟨j, hj, hjs⟩ := Tryz.sizeOfBuilder
  have q1 := Lib.run_to_unsafe w ⟨b, 0, none⟩ Tryz.underlying77 Tryz.underlying103 hj (by rw [hjs]; decide) hs (Nat.zero_lt_succ 1)
  have q2 := @run_callFunc_extern Tryz.prog 67 _ Extern.AbiNoEscape.same Tryz.func67 (by kernel_rfl) (by kernel_rfl) (by kernel_rfl) (by kernel_rfl)
  have q3 := @Lib.run_noEscape Tryz.prog
  have q4 := Lib.run_from_unsafe w ⟨b, 0, none⟩ Tryz.underlying103 Tryz.underlying77 hj hs (by kernel_rfl)
  go_enter Tryz.func57, Tryz.ntmps57
  go_wp2
  go_end0
  exact ⟨rfl, rfl⟩

/-- A builder of the call's own, in block b, from block B on, that holds the bytes l. -/
def Bld (B b : Nat) (l : List UInt8) (w : World) : Prop := Lib.IsBuilder 79 5 B b (Lib.byteCells l) w
theorem bytes_cells (s : ByteArray) (l : List UInt8) : Lib.byteCells l ++ Lib.strCells s = Lib.byteCells (l ++ s.data.toList) := by
  simp [Lib.byteCells, Lib.strCells]
theorem Bld.fresh (w : World) {B : Nat} (hB : B ≤ w.heap.size) : Bld B w.heap.size [] (w.alloc (.cells #[.pointer none, .slice none 0 0] 79)) := by
  refine .inl ⟨hB, .slice none 0 0, ?_, World.ownsRow_nil _ _ _ _, fun h => by cases h⟩
  show (w.heap.push _)[w.heap.size]? = _
  simp

set_option maxRecDepth 100000 in
set_option maxHeartbeats 2000000 in
theorem write_fn (B b : Nat) (l : List UInt8) (s : ByteArray) (w : World) (h : Bld B b l w) (hl : l.length + s.size ≤ 140737488355328) (hB : B ≤ w.heap.size) :
    Calls Tryz.prog 43 #[.pointer (some ⟨b, 0, none⟩), .string s] w fun e w' => e = .returned (.tuple #[.int .i64 s.size, .nilIface]) ∧ Bld B b (l ++ s.data.toList) w' ∧ Below B w w' := by
  have hc : Calls Tryz.prog 57 #[.pointer (some ⟨b, 0, none⟩)] w fun e w' => e = .returned (.tuple #[]) ∧ Lib.BuilderAt 79 5 B b (.pointer (some ⟨b, 0, none⟩)) (Lib.byteCells l) w' ∧ Below B w w' := by
    rcases h with h | h
    · refine (check_fresh b w h.cell0 h.shape h.frozen0).mono ?_
      rintro e w' ⟨rfl, rfl⟩
      exact ⟨rfl, h.used _, (Below.refl B w).setCell (p := ⟨b, 0, none⟩) h.1 _⟩
    · refine (check_used b w h.cell0).mono ?_
      rintro e w' ⟨rfl, rfl⟩
      exact ⟨rfl, h, Below.refl B _⟩
  have hc := Lib.hid hc
  have hlen : (Lib.byteCells l).length = l.length := by simp [Lib.byteCells]
  obtain ⟨i0, hi, hz0, hz1, hz2⟩ := info_parts (show (Tryz.prog.info? 5).map (fun i => (i.zero, i.size, i.bytes)) = some (some (.int .u8 0), 1, 1) by kernel_rfl)
  clear h
  go_enter Tryz.func43, Tryz.ntmps43
  go_wp2_with (go_at_call 57; refine hc.out.mono ?_)
  rintro e w1 ⟨rfl, ⟨hBb, v, hbk, hown, hne⟩, hb1⟩
  have c0 : w1.cell? ⟨b, 0, none⟩ = some (.pointer (some ⟨b, 0, none⟩)) := by rw [Lib.cell_of_heap hbk]; rfl
  have c1 : w1.cell? ⟨b, 1, none⟩ = some v := by rw [Lib.cell_of_heap hbk]; rfl
  go_wp2_with (at_builtin; refine Lib.wpList_append_own_string _ rfl _ _ 64 9 rfl B 5 i0 Tryz.underlying64 Tryz.underlying9 hi hz0 hz1 hz2 _ _ _ rfl hown s rfl ?c3 ?c4 ?c5 ?_)
  case c3 => unfold maxLen; omega
  case c4 => omega
  case c5 => have := hb1.size; omega
  intro v' w2 hown' hgrow _
  have hlt : b < w1.heap.size := by
    rcases Nat.lt_or_ge b w1.heap.size with h' | h'
    · exact h'
    · simp [Array.getElem?_eq_none h'] at hbk
  have hb2 : w2.heap[b]? = some (.cells #[.pointer (some ⟨b, 0, none⟩), v] 79 (0, 0)) := by
    rw [hgrow.block b hlt (fun e => hne e.symm)]
    exact hbk
  have d0 : w2.cell? ⟨b, 0, none⟩ = some (.pointer (some ⟨b, 0, none⟩)) := by rw [Lib.cell_of_heap hb2]; rfl
  have d1 : w2.cell? ⟨b, 1, none⟩ = some v := by rw [Lib.cell_of_heap hb2]; rfl
  have f1 : w2.frozen? ⟨b, 1, none⟩ = false := Lib.frozen_of_heap hb2 1
  obtain ⟨ao, n', cap, rfl⟩ : ∃ ao n' cap, v' = .slice ao n' cap := by
    rcases hown'.2 with ⟨hv, _⟩ | ⟨g, cap, cur, hv, _⟩ <;> exact ⟨_, _, _, hv⟩
  have hfin : Below B w (w2.setCell ⟨b, 1, none⟩ (.slice ao n' cap)) := (hb1.grown hgrow (by have := hb1.size; omega) (fun k hk => (hown.lt k hk).1)).setCell (p := ⟨b, 1, none⟩) hBb _
  have hput := Lib.BuilderAt.put (T := 79) (e := 5) hBb hb2 (bs' := Lib.byteCells l ++ Lib.strCells s) (by rw [List.length_append, Lib.strCells_length, hlen]; exact hown') (by decide)
  rw [bytes_cells] at hput
  have hput := Lib.hid hput
  have hfin := Lib.hid hfin
  clear hown' hgrow hown hbk hb2 hlen hl
  go_wp2
  go_ret2
  exact ⟨rfl, .inr hput.out, hfin.out⟩
end Go.Proofs.YtnaeabfmgfipoaaGreatDoor
namespace Go.Proofs.YtnaeabfmgfipoaaGreatDoor
open Go.RowKit Go.Extern.Stop Go.Stop Go.Extern

theorem ten_cells (l : List UInt8) : Lib.byteCells l ++ [.int .u8 10] = Lib.byteCells (l ++ [10]) := by simp [Lib.byteCells]
set_option maxRecDepth 100000 in
set_option maxHeartbeats 2000000 in
theorem wbyte_fn (B b : Nat) (l : List UInt8) (w : World) (h : Bld B b l w) (hl : l.length + 1 ≤ 140737488355328) (hB : B ≤ w.heap.size) :
    Calls Tryz.prog 44 #[.pointer (some ⟨b, 0, none⟩), .int .u8 10] w fun e w' => e = .returned .nilIface ∧ Bld B b (l ++ [10]) w' ∧ Below B w w' := by
  have hc : Calls Tryz.prog 57 #[.pointer (some ⟨b, 0, none⟩)] w fun e w' => e = .returned (.tuple #[]) ∧ Lib.BuilderAt 79 5 B b (.pointer (some ⟨b, 0, none⟩)) (Lib.byteCells l) w' ∧ Below B w w' := by
    rcases h with h | h
    · refine (check_fresh b w h.cell0 h.shape h.frozen0).mono ?_
      rintro e w' ⟨rfl, rfl⟩
      exact ⟨rfl, h.used _, (Below.refl B w).setCell (p := ⟨b, 0, none⟩) h.1 _⟩
    · refine (check_used b w h.cell0).mono ?_
      rintro e w' ⟨rfl, rfl⟩
      exact ⟨rfl, h, Below.refl B _⟩
  have hc := Lib.hid hc
  have hlen : (Lib.byteCells l).length = l.length := by simp [Lib.byteCells]
  obtain ⟨i0, hi, hz0, hz1, hz2⟩ := info_parts (show (Tryz.prog.info? 5).map (fun i => (i.zero, i.size, i.bytes)) = some (some (.int .u8 0), 1, 1) by kernel_rfl)
  clear h
  go_enter Tryz.func44, Tryz.ntmps44
  go_wp2_with (go_at_call 57; refine hc.out.mono ?_)
  rintro e w1 ⟨rfl, ⟨hBb, v, hbk, hown, hne⟩, hb1⟩
  have c0 : w1.cell? ⟨b, 0, none⟩ = some (.pointer (some ⟨b, 0, none⟩)) := by rw [Lib.cell_of_heap hbk]; rfl
  have c1 : w1.cell? ⟨b, 1, none⟩ = some v := by rw [Lib.cell_of_heap hbk]; rfl
  have hs1 := hb1.size
  have hown1 : w1.ownsRow B 5 1 v l.length (Lib.byteCells l) := by rw [hlen] at hown; exact hown
  obtain ⟨A, cap, rfl⟩ : ∃ A cap, v = .slice A l.length cap := by
    rcases hown1.2 with ⟨hv, h0⟩ | ⟨g, cap, cur, hv, _⟩
    · exact ⟨none, 0, by rw [hv, h0]⟩
    · exact ⟨_, _, hv⟩
  have hownA := Lib.hid (own_keep hown1 (Keep.one _ (.cells #[.int .u8 10] 5)))
  replace hown := Lib.hid hown
  replace hown1 := Lib.hid hown1
  replace hbk := Lib.hid hbk
  replace hne := Lib.hid hne
  replace hb1 := Lib.hid hb1
  go_wp2_with (at_builtin; refine wpList_append_lies _ rfl (.tmp 11) (.tmp 13) 64 rfl B 5 i0 (.int .u8 0) 1 1 Tryz.underlying64 hi hz0 hz1 hz2 rfl (by decide) (.slice A l.length cap) l.length (Lib.byteCells l) rfl hownA.out ⟨w1.heap.size, 0, none⟩ 1 1 [.int .u8 10] rfl rfl (cell_one_new _ _ _) (by intro u hu; simp at hu; subst hu; rfl) (by omega) (by unfold maxLen; omega) (by omega) (by simp; omega) _ rfl ?_; intro g2 cap2 w2 hown' hgrow hat hlt; have hlt1 : b < w1.heap.size := lt_of_block hbk.out; have hb2 : w2.heap[b]? = some (.cells #[.pointer (some ⟨b, 0, none⟩), .slice A l.length cap] 79 (0, 0)) := (by rw [hgrow.block b (by simp; omega) (fun e => hne.out e.symm)]; exact (Keep.one w1 _).block hbk.out); have d0 : w2.cell? ⟨b, 0, none⟩ = some (.pointer (some ⟨b, 0, none⟩)) := (by rw [Lib.cell_of_heap hb2]; rfl); have d1 : w2.cell? ⟨b, 1, none⟩ = some (.slice A l.length cap) := (by rw [Lib.cell_of_heap hb2]; rfl); have f1 : w2.frozen? ⟨b, 1, none⟩ = false := Lib.frozen_of_heap hb2 1; have hfin := Lib.hid (((Below.trans hb1.out ((Below.refl B w1).alloc (Nat.le_trans hB hs1) (.cells #[.int .u8 10] 5))).grown hgrow (Nat.le_trans hB (Nat.le_trans hs1 (by simp))) (fun k hk => (hownA.out.lt k hk).1)).setCell (p := ⟨b, 1, none⟩) hBb (.slice (some ⟨g2, 0, none⟩) (l.length + 1) cap2)); have hput := Lib.hid (Lib.BuilderAt.put (T := 79) (e := 5) hBb hb2 (bs' := Lib.byteCells (l ++ [10])) (v' := .slice (some ⟨g2, 0, none⟩) (l.length + 1) cap2) (by rw [← ten_cells, List.length_append, hlen]; exact hown') (by decide)); replace hown' := Lib.hid hown'; replace hgrow := Lib.hid hgrow; replace hb2 := Lib.hid hb2; replace hat := Lib.hid hat)
  go_wp2
  go_ret
  exact ⟨rfl, .inr hput.out, hfin.out⟩
end Go.Proofs.YtnaeabfmgfipoaaGreatDoor
namespace Go.Proofs.YtnaeabfmgfipoaaGreatDoor
open Go.RowKit Go.Extern.Stop Go.Stop Go.Extern

/-- What Write hands back. -/
def WRes (w : World) (n : Nat) (P : Nat → OpV) (e : Ending) (w' : World) : Prop := Keep w w' ∧
  ((∃ q, q < n ∧ (∀ j, j < q → (P j).good = true) ∧ (P q).good = false ∧ e = .returned (.tuple #[.string ⟨#[]⟩, (Base.fault (P q).code q).val])) ∨
   ((∀ j, j < n → (P j).good = true) ∧ e = .returned (.tuple #[.string (glue (lines P n)), .nilIface])))
theorem glue_size (P : Nat → OpV) (n : Nat) (hm : ∀ j, j < n → (P j).m ≤ 100) : ∀ q, q ≤ n → (glue (lines P q)).size ≤ 2301 * q
  | 0, _ => Nat.le_refl _
  | q + 1, hq => by
    have ih := glue_size P n hm q (by omega)
    have h1 := line_size (P q) (hm q (by omega))
    have h10 : (⟨#[10]⟩ : ByteArray).size = 1 := rfl
    rw [lines_snoc, glue_snoc, ByteArray.size_append, ByteArray.size_append]
    omega
theorem glue_data (P : Nat → OpV) (q : Nat) : (glue (lines P (q + 1))).data.toList = ((glue (lines P q)).data.toList ++ (P q).line.data.toList) ++ [10] := by
  rw [lines_snoc, glue_snoc, ByteArray.data_append, ByteArray.data_append, Array.toList_append, Array.toList_append, List.append_assoc]
theorem bld_keep {B b : Nat} {p : Value} {bs : List Value} {w w' : World} (h : Lib.BuilderAt 79 5 B b p bs w) (k : Keep w w') : Lib.BuilderAt 79 5 B b p bs w' := by
  obtain ⟨h1, v, h2, h3, h4⟩ := h
  exact ⟨h1, v, k.block h2, own_keep h3 k, h4⟩
theorem list_size (s : ByteArray) : s.data.toList.length = s.size := by cases s; rfl

set_option maxRecDepth 100000 in
set_option maxHeartbeats 16000000 in
theorem swrite_fn (A : Option Addr) (n cp : Nat) (P : Nat → OpV) (w : World) (hv : V4 w) (hP : RdOps w A n P) (hn : n ≤ 300) (hm : ∀ j, j < n → (P j).m ≤ 100) :
    Calls Tryz.prog 18 #[.slice A n cp] w (WRes w n P) := by
  have hB0 := Bld.fresh w (B := w.heap.size) (Nat.le_refl _)
  have k0 : Keep w (w.alloc (.cells #[.pointer none, .slice none 0 0] 79)) := Keep.one _ _
  obtain ⟨b, hb⟩ : ∃ b, b = w.heap.size := ⟨_, rfl⟩
  have hB0' : Hid (Bld b b [] (w.alloc (.cells #[.pointer none, .slice none 0 0] 79))) := by rw [hb]; exact hB0
  replace k0 := Lib.hid k0
  replace hv := Lib.hid hv
  replace hP := Lib.hid hP
  replace hm := Lib.hid hm
  clear hB0
  go_enter Tryz.func18, Tryz.ntmps18
  go_wp2_with fail
  rw [← hb]
  replace hb := Lib.hid hb
  go_loopg [11] (n) (fun g iv wr => ∃ (q : Nat), q ≤ n ∧ g = n - q ∧ iv = .int .i64 q ∧ Hid (Keep w wr) ∧ Hid (Bld b b (glue (lines P q)).data.toList wr) ∧ Hid (∀ j, j < q → (P j).good = true))
  case atStart => exact ⟨0, Nat.zero_le _, rfl, rfl, k0, hB0', fun j hj => by omega⟩
  case round =>
    obtain ⟨q, hq, rfl, rfl, hk, hB, hgd⟩ := hrel
    obtain ⟨wq, hwq⟩ : ∃ x, x = wr := ⟨_, rfl⟩
    subst hwq
    by_cases hqn : q < n
    · obtain ⟨ab, ao, hAe, hcell⟩ := (hP.out.keep hk.out).adr (by omega)
      have hia := ops_at A n cp q ab ao hAe hqn
      have c0 := hcell q hqn 0 _ rfl
      have c1 := hcell q hqn 1 _ rfl
      have c2 := hcell q hqn 2 _ rfl
      have c3 := hcell q hqn 3 _ rfl
      have c4 := hcell q hqn 4 _ rfl
      have c5 := hcell q hqn 5 _ rfl
      rw [Nat.add_zero] at c0
      clear hcell
      have hmq := hm.out q hqn
      have hop := Lib.hid ((hP.out.is q hqn).keep hk.out)
      have hgs := glue_size P n hm.out q hq
      have hls := line_size (P q) hmq
      have hx0 := Box.new wq (.int .i64 (P q).k) (.int .i64 (P q).i) (.int .i64 (P q).c) (.int .i64 (P q).n) (.bool (P q).f) (.slice (P q).A (P q).m (P q).cp)
      obtain ⟨wx, hwx⟩ : ∃ wx, wx = wq.alloc (.cells #[.int .i64 (P q).k, .int .i64 (P q).i, .int .i64 (P q).c, .int .i64 (P q).n, .bool (P q).f, .slice (P q).A (P q).m (P q).cp] 34) := ⟨_, rfl⟩
      have kx : Keep wq (wq.alloc (.cells #[.int .i64 (P q).k, .int .i64 (P q).i, .int .i64 (P q).c, .int .i64 (P q).n, .bool (P q).f, .slice (P q).A (P q).m (P q).cp] 34)) := Keep.one _ _
      rw [← hwx] at hx0 kx
      have x0 := hx0.ce0
      have x1 := hx0.ce1
      have x2 := hx0.ce2
      have x3 := hx0.ce3
      have x4 := hx0.ce4
      have x5 := hx0.ce5
      rw [hwx] at x0 x1 x2 x3 x4 x5
      have hl := Lib.hid (sline_fn (P q) wx (hv.out.keep (hk.out.trans kx)) (hop.out.keep kx) hmq)
      have hlv : ∀ wy, Keep wx wy → wy.cell? ⟨wq.heap.size, 0, none⟩ = some (.int .i64 (P q).k) ∧ wy.cell? ⟨wq.heap.size, 1, none⟩ = some (.int .i64 (P q).i) ∧ wy.cell? ⟨wq.heap.size, 2, none⟩ = some (.int .i64 (P q).c) ∧ wy.cell? ⟨wq.heap.size, 3, none⟩ = some (.int .i64 (P q).n) ∧ wy.cell? ⟨wq.heap.size, 4, none⟩ = some (.bool (P q).f) ∧ wy.cell? ⟨wq.heap.size, 5, none⟩ = some (.slice (P q).A (P q).m (P q).cp) := fun wy ky => ⟨ky.cell hx0.ce0, ky.cell hx0.ce1, ky.cell hx0.ce2, ky.cell hx0.ce3, ky.cell hx0.ce4, ky.cell hx0.ce5⟩
      replace hlv := Lib.hid hlv
      replace hx0 := Lib.hid hx0
      replace kx := Lib.hid kx
      replace hAe := Lib.hid hAe
      unfold OpV.val at hl
      go_wp2_with fail
      rw [← hwx]
      replace hwx := Lib.hid hwx
      refine hl.out.mono ?_
      rintro e w2 ⟨rfl, k2⟩
      obtain ⟨y0, y1, y2, y3, y4, y5⟩ := hlv.out w2 k2
      have K2 := Lib.hid ((hk.out.trans kx.out).trans k2)
      have kq2 := kx.out.trans k2
      have hB2 : Hid (Bld b b (glue (lines P q)).data.toList w2) := by
        rcases hB.out with h | h
        · exact Or.inl (bld_keep h kq2)
        · exact Or.inr (bld_keep h kq2)
      have hsz2 := K2.out.size
      have hbs : b ≤ w.heap.size := Nat.le_of_eq hb.out
      have hbs2 : Hid (b = w.heap.size) := hb
      replace k2 := Lib.hid k2
      replace kq2 := Lib.hid kq2
      clear c0 c1 c2 c3 c4 c5 x0 x1 x2 x3 x4 x5
      have hlc := fun hg => slinecode_fn (P q) w2 (hv.out.keep K2.out) hg
      unfold OpV.val at hlc
      replace hlc := Lib.hid hlc
      have hl3 : Hid ((glue (lines P q)).data.toList.length + (P q).line.size ≤ 140737488355328 ∧ ((glue (lines P q)).data.toList ++ (P q).line.data.toList).length + 1 ≤ 140737488355328) := by
        have hll := list_size (glue (lines P q))
        have hl2 := list_size (P q).line
        show _ ∧ _
        rw [List.length_append]
        omega
      obtain ⟨G, hG⟩ : ∃ G, G = (P q).good := ⟨_, rfl⟩
      rw [← hG]
      cases G
      · have hG' : Hid ((P q).good = false) := hG.symm
        clear hG
        go_wp2_with fail
        refine (hlc.out hG'.out).mono ?_
        rintro e w3 ⟨rfl, k3⟩
        have K3 := Lib.hid (K2.out.trans k3)
        replace k3 := Lib.hid k3
        go_wp2_with fail
        refine (new_fn (P q).code q _).mono ?_
        rintro e w4 ⟨rfl, rfl⟩
        go_wp2
        go_ret2
        exact ⟨K3.out, Or.inl ⟨q, hqn, hgd.out, hG'.out, rfl⟩⟩
      · have hgd2 : Hid (∀ j, j < q + 1 → (P j).good = true) := fun j hj => by
          by_cases he : j = q
          · rw [he]; exact hG.symm
          · exact hgd.out j (by omega)
        clear hG
        have hw1 := Lib.hid (write_fn b b (glue (lines P q)).data.toList (P q).line w2 hB2.out hl3.out.1 (by omega))
        go_wp2_with fail
        refine hw1.out.mono ?_
        rintro e w3 ⟨rfl, hB3, k3⟩
        have hs3 := k3.size
        have hw2 := Lib.hid (wbyte_fn b b _ w3 hB3 hl3.out.2 (by omega))
        replace hB3 := Lib.hid hB3
        replace k3 := Lib.hid k3
        go_wp2_with fail
        refine hw2.out.mono ?_
        rintro e w4 ⟨rfl, hB4, k4⟩
        have K4 : Hid (Keep w w4) := by
          have h := Below.trans k3.out k4
          rw [hbs2.out] at h
          exact Below.trans (B := w.heap.size) K2.out h
        have hB5 : Hid (Bld b b (glue (lines P (q + 1))).data.toList w4) := by rw [glue_data]; exact hB4
        replace hB4 := Lib.hid hB4
        replace k4 := Lib.hid k4
        clear y0 y1 y2 y3 y4 y5 hia
        go_wp2
        go_roundg (n - (q + 1))
        case measure => omega
        case rel => exact ⟨q + 1, by omega, rfl, by go_num, K4, hB5, hgd2⟩
    · obtain rfl : q = n := by omega
      have hst := Tryz.Builder_String_any b b (glue (lines P q)).data.toList wq hB.out (by have := hk.out.size; have := hb.out; omega)
      replace hst := Lib.hid hst
      go_wp2_with fail
      refine hst.out.mono ?_
      rintro e w2 ⟨rfl, k2⟩
      have K2 : Hid (Keep w w2) := by rw [hb.out] at k2; exact Below.trans (B := w.heap.size) hk.out k2
      replace k2 := Lib.hid k2
      go_wp2
      go_ret2
      exact ⟨K2.out, Or.inr ⟨hgd.out, rfl⟩⟩
end Go.Proofs.YtnaeabfmgfipoaaGreatDoor
namespace Go.Proofs.YtnaeabfmgfipoaaGreatDoor
open Go.RowKit Go.Extern.Stop Go.Stop Go.Extern

/-- What Read hands back. -/
def RRes (w : World) (r : List OpD ⊕ Nat) (e : Ending) (w' : World) : Prop := Keep w w' ∧ match r with
  | .inr q => e = .returned (.tuple #[.slice none 0 0, (Base.fault 9 q).val])
  | .inl ds => ∃ v L, e = .returned (.tuple #[v, .nilIface]) ∧ L.map (·.1) = ds ∧ OpsAt w' w.heap.size v L ∧ ∀ d ∈ ds, inRangeD d ∧ d.amounts.length ≤ 1048577
theorem RRes.bad {w w' : World} {r : List OpD ⊕ Nat} {q : Nat} (hr : r = .inr q) (k : Keep w w') : RRes w r (.returned (.tuple #[.slice none 0 0, (Base.fault 9 q).val])) w' := by
  subst hr; exact ⟨k, rfl⟩
theorem RRes.good {w w' : World} {r : List OpD ⊕ Nat} {v : Value} {L : List (OpD × Value)} (hr : r = .inl (L.map (·.1))) (k : Keep w w') (h : OpsAt w' w.heap.size v L) (hd : ∀ d ∈ L.map (·.1), inRangeD d ∧ d.amounts.length ≤ 1048577) : RRes w r (.returned (.tuple #[v, .nilIface])) w' := by
  subst hr; exact ⟨k, v, L, rfl, rfl, h, hd⟩

set_option maxRecDepth 100000 in
set_option maxHeartbeats 16000000 in
theorem sread_fn (s : ByteArray) (w : World) (hv : V4 w) (hs : s.size ≤ 1048576) :
    Calls Tryz.prog 9 #[.string s] w (RRes w (readOf s)) := by
  obtain ⟨res, hres⟩ : ∃ res, res = readOf s := ⟨_, rfl⟩
  rw [← hres]
  have h0 : Hid (res = comb [] (readFrom 0 (restN true s))) := by rw [comb_nil]; exact hres
  clear hres
  obtain ⟨i0, hi0, hz0, hz1, hz2⟩ := info_parts Tryz.infoOp
  replace hv := Lib.hid hv
  go_enter Tryz.func9, Tryz.ntmps9
  go_wp2
  go_loopg [0, 4, 5, 6] (s.size + 1) (fun g tv lv mv iv wr => ∃ (q : Nat) (s' : ByteArray) (m : Bool) (v : Value) (L : List (OpD × Value)), g = (if m then s'.size + 1 else 0) ∧ tv = .string s' ∧ lv = v ∧ mv = .bool m ∧ iv = .int .i64 q ∧ Hid (Keep w wr) ∧ Hid (OpsAt wr w.heap.size v L) ∧ Hid (res = comb (L.map (·.1)) (readFrom q (restN m s'))) ∧ Hid (q + (if m then s'.size + 1 else 0) ≤ 1048577) ∧ Hid (L.length ≤ q) ∧ Hid (∀ d ∈ L.map (·.1), inRangeD d ∧ d.amounts.length ≤ 1048577))
  case atStart => exact ⟨0, s, true, .slice none 0 0, [], rfl, rfl, rfl, rfl, rfl, Keep.refl _, OpsAt.nil _ _, h0, by show Hid (0 + (s.size + 1) ≤ 1048577); exact (by omega : 0 + (s.size + 1) ≤ 1048577), Nat.zero_le _, fun d hd => by cases hd⟩
  case round =>
    obtain ⟨q, s', m, v, L, rfl, rfl, rfl, rfl, rfl, hk, hO, hR, hB, hl, hD⟩ := hrel
    obtain ⟨wq, hwq⟩ : ∃ x, x = wr := ⟨_, rfl⟩
    subst hwq
    obtain ⟨A, cap, rfl⟩ := own_shape hO.out.row
    cases m with
    | false =>
      have hfin : Hid (res = .inl (L.map (·.1))) := by
        rw [hR.out]
        show Sum.inl (L.map (·.1) ++ []) = _
        rw [List.append_nil]
      go_wp2
      go_ret2
      exact RRes.good hfin.out hk.out hO.out hD.out
    | true =>
      have hB' := hB.out
      simp only [if_true] at hB'
      have hql : q ≤ 1048576 := by omega
      have hll := hl.out
      rw [restN_take] at hR
      go_wp2_with fail
      refine (cut_fn s' 10 wq (by omega)).mono ?_
      rintro e w1 ⟨rfl, hd1⟩
      have k1 := Lib.hid (hk.out.trans hd1.keep)
      have O1 := Lib.hid (hO.out.keep hd1.keep)
      replace hd1 := Lib.hid hd1
      have hhs := headC_size 10 s'
      have hrs := restC_size 10 s'
      have hrl : Hid ((if moreC 10 s' then (restC 10 s').size + 1 else 0) < s'.size + 1) := by
        show _ < _
        cases hm : moreC 10 s'
        · simp
        · simp only [if_true]
          have := restC_less 10 s' hm
          omega
      obtain ⟨X, hX⟩ : ∃ X, X = headC 10 s' := ⟨_, rfl⟩
      obtain ⟨Y, hY⟩ : ∃ Y, Y = restC 10 s' := ⟨_, rfl⟩
      obtain ⟨M, hM⟩ : ∃ M, M = moreC 10 s' := ⟨_, rfl⟩
      rw [← hX] at hR hhs ⊢
      rw [← hY] at hR hrl hrs ⊢
      rw [← hM] at hR hrl ⊢
      replace hX := Lib.hid hX
      replace hY := Lib.hid hY
      replace hM := Lib.hid hM
      have hB2 : Hid (q + 1 + (if M then Y.size + 1 else 0) ≤ 1048577) := by
        have h := hrl.out
        show _ ≤ _
        omega
      have he := empty_iff X
      by_cases hx0 : X.size = 0
      · have hsk : skipL X = true := decide_eq_true (Or.inl hx0)
        rw [comb_skip hsk] at hR
        rw [decide_eq_true hx0] at he
        go_wp2
        go_roundg (if M then Y.size + 1 else 0)
        case measure => exact hrl.out
        case rel => exact ⟨q + 1, Y, M, _, L, rfl, rfl, rfl, rfl, by go_num, k1, O1, hR, hB2, Nat.le_succ_of_le hll, hD⟩
      · rw [decide_eq_false hx0] at he
        have hix : ∀ w, (Instr.index 9 (.string X) (.int .i64 0)).run Tryz.prog w = .ok (.int .u8 (byteAt X 0)) w := index_at X 0 (by omega)
        by_cases h35 : byteAt X 0 = 35
        · have hsk : skipL X = true := decide_eq_true (Or.inr h35)
          rw [comb_skip hsk] at hR
          rw [h35] at hix
          go_wp2
          go_roundg (if M then Y.size + 1 else 0)
          case measure => exact hrl.out
          case rel => exact ⟨q + 1, Y, M, _, L, rfl, rfl, rfl, rfl, by go_num, k1, O1, hR, hB2, Nat.le_succ_of_le hll, hD⟩
        · have hsk : skipL X = false := decide_eq_false (by rintro (e | e); exact hx0 e; exact h35 e)
          have hb : (byteAt X 0 == 35) = false := beq_eq_false_iff_ne.2 h35
          have hP := Lib.hid (sparse_fn X w1 (hv.out.keep k1.out) (by omega))
          cases hp : parseOf (wordsOf X) with
          | none =>
            rw [comb_bad hsk hp] at hR
            rw [hp] at hP
            clear hp
            go_wp2_with fail
            refine hP.out.mono ?_
            rintro e w2 ⟨k2, rfl⟩
            replace k2 := Lib.hid k2
            go_wp2_with fail
            refine (new_fn 9 q _).mono ?_
            rintro e w3 ⟨rfl, rfl⟩
            go_wp2
            go_ret2
            exact RRes.bad hR.out ((k1.out.trans k2.out).alloc _)
          | some d =>
            rw [comb_good hsk hp] at hR
            have hdr := parse_range hp
            have hwl : (wordsOf X).length ≤ X.size + 1 := wds_len X _
            rw [hp] at hP
            clear hp
            go_wp2_with fail
            refine hP.out.mono ?_
            rintro e w2 ⟨k2, av, rfl, hav⟩
            obtain ⟨A2, cap2, rfl⟩ := own_shape hav
            have k3 := Lib.hid (k1.out.trans k2)
            have O3 := Lib.hid (O1.out.keep k2)
            have hav3 := Lib.hid (base_le hav k1.out.size)
            replace k2 := Lib.hid k2
            replace hav := Lib.hid hav
            have X0 := Box.new w2 (.int .i64 d.kind) (.int .i64 d.id) (.int .i64 d.cls) (.int .i64 d.n) (.bool d.flag) (.slice A2 d.amounts.length cap2)
            have e0 := X0.ce0
            have e1 := X0.ce1
            have e2 := X0.ce2
            have e3 := X0.ce3
            have e4 := X0.ce4
            have e5 := X0.ce5
            have kk : Keep w2 ((w2.alloc (.cells #[.int .i64 d.kind, .int .i64 d.id, .int .i64 d.cls, .int .i64 d.n, .bool d.flag, .slice A2 d.amounts.length cap2] 34)).alloc (.cells #[.int .i64 d.kind, .int .i64 d.id, .int .i64 d.cls, .int .i64 d.n, .bool d.flag, .slice A2 d.amounts.length cap2] 34)) := (Keep.one _ _).alloc _
            have O4 := Lib.hid (O3.out.keep kk)
            have hav4 := Lib.hid (own_keep hav3.out kk)
            have k4 := Lib.hid (k3.out.trans kk)
            have N1 := World.news_of_block (w := (w2.alloc (.cells #[.int .i64 d.kind, .int .i64 d.id, .int .i64 d.cls, .int .i64 d.n, .bool d.flag, .slice A2 d.amounts.length cap2] 34)).alloc (.cells #[.int .i64 d.kind, .int .i64 d.id, .int .i64 d.cls, .int .i64 d.n, .bool d.flag, .slice A2 d.amounts.length cap2] 34)) (heap_alloc_new (w2.alloc (.cells #[.int .i64 d.kind, .int .i64 d.id, .int .i64 d.cls, .int .i64 d.n, .bool d.flag, .slice A2 d.amounts.length cap2] 34)) _)
            rw [World.size_alloc] at N1
            replace N1 := Lib.hid N1
            have hsz := k3.out.size
            replace X0 := Lib.hid X0
            replace kk := Lib.hid kk
            go_wp2_with (at_builtin; refine wpList_append_lies _ rfl (.tmp 35) (.tmp 37) 23 rfl w.heap.size 34 i0 (.agg #[.int .i64 0, .int .i64 0, .int .i64 0, .int .i64 0, .bool false, .slice none 0 0]) 6 64 Tryz.underlying23 hi0 hz0 hz1 hz2 rfl (by decide) (.slice A L.length cap) L.length (opCs L) (by simp [Act.eval]) O4.out.row ⟨w2.heap.size + 1, 0, none⟩ 1 1 (opC (d, .slice A2 d.amounts.length cap2)) (by simp [Act.eval]) rfl N1.out (by intro u hu; simp [opC] at hu; rcases hu with rfl | rfl | rfl | rfl | rfl | rfl <;> rfl) (by omega) (by unfold maxLen; omega) (by omega) (by simp; omega) _ rfl ?_; intro g5 cap5 w5 hown5 hgrow5 hat5 hlt5; have O5 := Lib.hid (O4.out.more (p := (d, .slice A2 d.amounts.length cap2)) hav4.out hown5 hgrow5); have k5 := Lib.hid (keep_grown k4.out hgrow5 (fun g hg => (O4.out.row.lt g hg).1)); replace hown5 := Lib.hid hown5; replace hgrow5 := Lib.hid hgrow5; replace hat5 := Lib.hid hat5; replace hlt5 := Lib.hid hlt5)
            have hD2 : Hid (∀ d' ∈ (L ++ [(d, Value.slice A2 d.amounts.length cap2)]).map (·.1), inRangeD d' ∧ d'.amounts.length ≤ 1048577) := by
              intro d' hd'
              rw [List.map_append] at hd'
              rcases List.mem_append.1 hd' with h | h
              · exact hD.out d' h
              · obtain rfl : d' = d := by simpa using h
                exact ⟨hdr.1, by omega⟩
            have hR2 : Hid (res = comb ((L ++ [(d, Value.slice A2 d.amounts.length cap2)]).map (·.1)) (readFrom (q + 1) (restN M Y))) := by
              rw [List.map_append]
              exact hR
            clear e0 e1 e2 e3 e4 e5
            go_roundg (if M then Y.size + 1 else 0)
            case measure => exact hrl.out
            case rel => exact ⟨q + 1, Y, M, _, L ++ [(d, .slice A2 d.amounts.length cap2)], rfl, rfl, rfl, rfl, by go_num, k5, O5, hR2, hB2, by show Hid ((L ++ [_]).length ≤ q + 1); rw [List.length_append]; exact Nat.succ_le_succ hll, hD2⟩
end Go.Proofs.YtnaeabfmgfipoaaGreatDoor
namespace Go.Proofs.YtnaeabfmgfipoaaGreatDoor
open Go.RowKit Go.Extern.Stop Go.Stop Go.Extern

theorem wrong4_yes (x y : Int) (w : World) (hg : ErrT w) : Calls Tryz.prog 11 #[(Base.fault x y).val, .int .i64 x, .int .i64 y] w fun e w' => e = .returned (.bool true) ∧ Keep w w' := by
  replace hg := Lib.hid hg
  have hC := Lib.hid (Chain.base (w := w) (.fault x y))
  have hV : Hid ((Base.fault x y).val = .iface 89 (.agg #[.int .i64 x, .int .i64 y])) := rfl
  rw [hV.out] at hC ⊢
  replace hC := hC.out
  replace hC := Lib.hid hC
  go_enter Tryz.func11, Tryz.ntmps11
  go_wp2_with fail
  refine (code_yes x [] (.fault x y) _ _ (.base _) (Or.inr ⟨_, rfl⟩) hg.out).mono ?_
  rintro e w1 ⟨rfl, h⟩
  have k1 := Lib.hid h
  replace h := Lib.hid h
  go_wp2_with fail
  refine (at_yes x y [] _ _ (.base _) (hg.out.keep k1.out)).mono ?_
  rintro e w2 ⟨rfl, h⟩
  have k2 := Lib.hid (k1.out.trans h)
  replace h := Lib.hid h
  go_wp2
  go_ret
  exact ⟨rfl, k2.out⟩
end Go.Proofs.YtnaeabfmgfipoaaGreatDoor
namespace Go.Proofs.YtnaeabfmgfipoaaGreatDoor
open Go.RowKit Go.Extern.Stop Go.Stop Go.Extern

def pick {α : Type} (a b : α) : Nat → α
  | 0 => a
  | _ => b
theorem Rd.two4 {w : World} {T : TypeId} (a b : Int) (ha : I64 a) (hb : I64 b) : Rd (w.alloc (.cells #[.int .i64 a, .int .i64 b] T)) (some ⟨w.heap.size, 0, none⟩) 2 (pick a b) := by
  refine ⟨by omega, fun k hk => ?_, fun _ => ⟨w.heap.size, 0, rfl, fun j hj => ?_⟩⟩
  · rcases (show k = 0 ∨ k = 1 by omega) with rfl | rfl
    · exact ha
    · exact hb
  · rw [cell_of_row _ w.heap.size _ _ _ _ (heap_alloc_new w _)]
    rcases (show j = 0 ∨ j = 1 by omega) with rfl | rfl <;> rfl
theorem Rd.one4 {w : World} {T : TypeId} (a : Int) (ha : I64 a) : Rd (w.alloc (.cells #[.int .i64 a] T)) (some ⟨w.heap.size, 0, none⟩) 1 (fun _ => a) := by
  refine ⟨by omega, fun k hk => ha, fun _ => ⟨w.heap.size, 0, rfl, fun j hj => ?_⟩⟩
  rw [cell_of_row _ w.heap.size _ _ _ _ (heap_alloc_new w _)]
  obtain rfl : j = 0 := by omega
  rfl
theorem i64_lit {x : Int} (h : decide (-9223372036854775808 ≤ x ∧ x ≤ 9223372036854775807) = true) : I64 x := by unfold I64; exact of_decide_eq_true h
theorem d1 (n : Nat) (h : n < 10) : decB (n : Int) = ⟨#[(48 + n).toUInt8]⟩ := by
  rw [decB_nn (by omega)]
  exact decN_lt (by omega)
theorem dm2 : decB (-2) = ⟨#[45, 50]⟩ := by
  have h : decB (-2) = ⟨#[45]⟩ ++ decN 2 := by unfold decB; rw [if_pos (by omega)]; rfl
  rw [h, decN_lt (by omega)]
  rfl
theorem line_pod (A : Option Addr) (cp : Nat) (w : World) (hv : V4 w) (hA : Rd w A 2 (pick 3 4)) (h0 : A = none → 2 = 0 ∧ cp = 0) :
    Calls Tryz.prog 13 #[.agg #[.int .i64 4, .int .i64 1, .int .i64 2, .int .i64 5, .bool false, .slice A 2 cp]] w fun e w' => e = .returned (.tuple #[.string ⟨#[112, 111, 100, 32, 49, 32, 50, 32, 53, 32, 51, 32, 52]⟩, .bool true]) ∧ Keep w w' := by
  have h := sline_fn ⟨4, 1, 2, 5, false, A, 2, cp, pick 3 4⟩ w hv ⟨hA, h0, i64_lit rfl, i64_lit rfl, i64_lit rfl, i64_lit rfl⟩ (by show 2 ≤ 100; omega)
  have e1 : (OpV.mk 4 1 2 5 false A 2 cp (pick 3 4)).line = ⟨#[112, 111, 100, 32, 49, 32, 50, 32, 53, 32, 51, 32, 52]⟩ := by
    show joinN (kindNm 4) [1, 2, 5, 3, 4] = _
    unfold joinN joinN joinN joinN joinN joinN
    rw [show decB 1 = _ from d1 1 (by omega), show decB 2 = _ from d1 2 (by omega), show decB 5 = _ from d1 5 (by omega), show decB 3 = _ from d1 3 (by omega), show decB 4 = _ from d1 4 (by omega)]
    decide +kernel
  have e2 : (OpV.mk 4 1 2 5 false A 2 cp (pick 3 4)).good = true := rfl
  rw [e1, e2] at h
  exact h
theorem line_class (w : World) (hv : V4 w) :
    Calls Tryz.prog 13 #[.agg #[.int .i64 1, .int .i64 1, .int .i64 0, .int .i64 (-2), .bool true, .slice none 0 0]] w fun e w' => e = .returned (.tuple #[.string ⟨#[99, 108, 97, 115, 115, 32, 49, 32, 45, 50, 32, 121, 101, 115]⟩, .bool true]) ∧ Keep w w' := by
  have h := sline_fn ⟨1, 1, 0, -2, true, none, 0, 0, fun _ => 0⟩ w hv ⟨Rd.nil _ _ _, fun _ => ⟨rfl, rfl⟩, i64_lit rfl, i64_lit rfl, i64_lit rfl, i64_lit rfl⟩ (by show 0 ≤ 100; omega)
  have e1 : (OpV.mk 1 1 0 (-2) true none 0 0 (fun _ => 0)).line = ⟨#[99, 108, 97, 115, 115, 32, 49, 32, 45, 50, 32, 121, 101, 115]⟩ := by
    show joinN (kindNm 1) [1, -2] ++ ⟨#[32, 121, 101, 115]⟩ = _
    unfold joinN joinN joinN
    rw [show decB 1 = _ from d1 1 (by omega), dm2]
    decide +kernel
  have e2 : (OpV.mk 1 1 0 (-2) true none 0 0 (fun _ => 0)).good = true := rfl
  rw [e1, e2] at h
  exact h
theorem parse_node (w : World) (hv : V4 w) :
    Calls Tryz.prog 15 #[.string ⟨#[110, 111, 100, 101, 32, 51, 32, 55]⟩] w fun e w' => ∃ A cap, e = .returned (.tuple #[.agg #[.int .i64 2, .int .i64 3, .int .i64 0, .int .i64 0, .bool false, .slice A 1 cap], .bool true]) ∧ Rd w' A 1 (fun j => [7].getD j 0) ∧ Keep w w' := by
  have h := sparse_fn ⟨#[110, 111, 100, 101, 32, 51, 32, 55]⟩ w hv (by decide)
  have e1 : parseOf (wordsOf ⟨#[110, 111, 100, 101, 32, 51, 32, 55]⟩) = some ⟨2, 3, 0, 0, false, [7]⟩ := by kernel_rfl
  rw [e1] at h
  refine h.mono ?_
  rintro e w' ⟨k, av, rfl, hown⟩
  obtain ⟨A, cap, rfl, hR⟩ := rd_ints hown (fun x hx => by simp at hx; subst hx; omega) (by decide)
  exact ⟨A, cap, rfl, hR, k⟩
theorem read_two (w : World) (hv : V4 w) :
    Calls Tryz.prog 9 #[.string ⟨#[35, 32, 120, 10, 116, 105, 99, 107, 32, 53, 10, 10, 99, 121, 99, 108, 101, 10]⟩] w fun e w' => ∃ A cap, e = .returned (.tuple #[.slice A 2 cap, .nilIface]) ∧ Keep w w' := by
  have h := sread_fn ⟨#[35, 32, 120, 10, 116, 105, 99, 107, 32, 53, 10, 10, 99, 121, 99, 108, 101, 10]⟩ w hv (by decide)
  have e1 : readOf ⟨#[35, 32, 120, 10, 116, 105, 99, 107, 32, 53, 10, 10, 99, 121, 99, 108, 101, 10]⟩ = .inl [⟨6, 0, 0, 5, false, []⟩, ⟨7, 0, 0, 0, false, []⟩] := by kernel_rfl
  rw [e1] at h
  refine h.mono ?_
  rintro e w' ⟨k, v, L, rfl, hL, hO, _⟩
  have hlen : L.length = 2 := by have := congrArg List.length hL; simpa using this
  obtain ⟨A, cap, rfl⟩ := own_shape hO.row
  exact ⟨A, cap, by rw [hlen], k⟩
theorem read_bad (w : World) (hv : V4 w) :
    Calls Tryz.prog 9 #[.string ⟨#[10, 120]⟩] w fun e w' => e = .returned (.tuple #[.slice none 0 0, (Base.fault 9 1).val]) ∧ Keep w w' := by
  have h := sread_fn ⟨#[10, 120]⟩ w hv (by decide)
  have e1 : readOf ⟨#[10, 120]⟩ = .inr 1 := by kernel_rfl
  rw [e1] at h
  refine h.mono ?_
  rintro e w' ⟨k, rfl⟩
  exact ⟨rfl, k⟩
theorem number_m7 (w : World) (hv : V4 w) :
    Calls Tryz.prog 19 #[.string ⟨#[45, 55]⟩] w fun e w' => e = .returned (.tuple #[.int .i64 (-7), .bool true]) ∧ Keep w w' := by
  have h := snumber_fn ⟨#[45, 55]⟩ w hv (by decide)
  have e1 : numOf ⟨#[45, 55]⟩ = some (-7) := by kernel_rfl
  rw [e1] at h
  exact h
theorem write_tick (w : World) (hv : V4 w) :
    Calls Tryz.prog 18 #[.slice (some ⟨w.heap.size, 0, none⟩) 1 1] (w.alloc (.cells #[.int .i64 6, .int .i64 0, .int .i64 0, .int .i64 5, .bool false, .slice none 0 0] 34)) fun e w' => e = .returned (.tuple #[.string ⟨#[116, 105, 99, 107, 32, 53, 10]⟩, .nilIface]) ∧ Keep w w' := by
  have hX := Box.new w (.int .i64 6) (.int .i64 0) (.int .i64 0) (.int .i64 5) (.bool false) (.slice none 0 0)
  have hR : RdOps (w.alloc (.cells #[.int .i64 6, .int .i64 0, .int .i64 0, .int .i64 5, .bool false, .slice none 0 0] 34)) (some ⟨w.heap.size, 0, none⟩) 1 (fun _ => ⟨6, 0, 0, 5, false, none, 0, 0, fun _ => 0⟩) := by
    refine ⟨fun _ => ⟨w.heap.size, 0, rfl, fun j hj i u hu => ?_⟩, fun j hj => ⟨Rd.nil _ _ _, fun _ => ⟨rfl, rfl⟩, i64_lit rfl, i64_lit rfl, i64_lit rfl, i64_lit rfl⟩⟩
    obtain rfl : j = 0 := by omega
    rw [cell_of_row _ w.heap.size _ _ _ _ hX.at_]
    have e : 0 + 0 * 6 + i = i := by omega
    rw [e, ← hu]
    show (#[.int .i64 6, .int .i64 0, .int .i64 0, .int .i64 5, .bool false, .slice none 0 0] : Array Value)[i]? = _
    rw [← Array.getElem?_toList]
    rfl
  refine (swrite_fn (some ⟨w.heap.size, 0, none⟩) 1 1 _ _ (hv.keep (Keep.one _ _)) hR (by omega) (fun j hj => by show 0 ≤ 100; omega)).mono ?_
  have eg : (OpV.mk 6 0 0 5 false none 0 0 (fun _ => 0)).good = true := rfl
  rintro e w' ⟨k, h⟩
  refine ⟨?_, (Keep.one _ _).trans k⟩
  rcases h with ⟨q, hq, _, hb, _⟩ | ⟨_, rfl⟩
  · rw [eg] at hb; cases hb
  · have e1 : glue (lines (fun _ => OpV.mk 6 0 0 5 false none 0 0 (fun _ => 0)) 1) = ⟨#[116, 105, 99, 107, 32, 53, 10]⟩ := by
      show (joinN (kindNm 6) [5] ++ ⟨#[10]⟩) ++ (⟨#[]⟩ : ByteArray) = _
      unfold joinN joinN
      rw [show decB 5 = _ from d1 5 (by omega)]
      decide +kernel
    rw [e1]
end Go.Proofs.YtnaeabfmgfipoaaGreatDoor
namespace Go.Proofs.YtnaeabfmgfipoaaGreatDoor
open Go.RowKit Go.Extern.Stop Go.Stop Go.Extern

theorem equal_7 (A B : Option Addr) (c d : Nat) (w : World) (hA : Rd w A 1 (fun j => [7].getD j 0)) (hB : Rd w B 1 (fun _ => 7)) :
    Calls Tryz.prog 12 #[.agg #[.int .i64 2, .int .i64 3, .int .i64 0, .int .i64 0, .bool false, .slice A 1 c], .agg #[.int .i64 2, .int .i64 3, .int .i64 0, .int .i64 0, .bool false, .slice B 1 d]] w fun e w' => e = .returned (.bool true) ∧ Keep w w' := by
  have hs : ∀ k, k < 1 → (fun j => ([7] : List Int).getD j 0) k = (fun _ => (7 : Int)) k := by
    intro k hk
    have h0 : k = 0 := by omega
    subst h0
    rfl
  have h := requal_fn 2 3 0 0 false A 1 c _ 2 3 0 0 false B 1 d _ w hA hB true (same_yes rfl hs)
  rw [eqO_self] at h
  exact h
theorem node_7 (w : World) : Calls Tryz.prog 24 #[.int .i64 3, .slice (some ⟨w.heap.size, 0, none⟩) 1 1] (w.alloc (.cells #[.int .i64 7] 2)) fun e w' => ∃ A cp, e = .returned (.agg #[.int .i64 2, .int .i64 3, .int .i64 0, .int .i64 0, .bool false, .slice A 1 cp]) ∧ Keep w w' ∧ Rd w' A 1 (fun _ => 7) := by
  refine (node_fn 3 (some ⟨w.heap.size, 0, none⟩) 1 1 (fun _ => 7) _ (Rd.one4 7 (i64_lit rfl)) (fun h => by cases h) (by omega)).mono ?_
  rintro e w' ⟨A, cp, rfl, k, hown⟩
  exact ⟨A, cp, rfl, (Keep.one _ _).trans k, Rd.own hown (by omega) (fun k hk => i64_lit rfl)⟩

set_option maxRecDepth 100000 in
set_option maxHeartbeats 16000000 in
theorem awake4_true (w : World) (hv : V4 w) : Calls Tryz.prog 8 #[] w fun e w' => e = .returned (.bool true) ∧ Keep w w' := by
  have hv := Lib.hid hv
  have hR := Lib.hid (Rd.two4 (w := w) (T := 2) 3 4 (i64_lit rfl) (i64_lit rfl))
  have hN := node_7
  replace hN := Lib.hid hN
  go_enter Tryz.func8, Tryz.ntmps8
  go_wp2_with fail
  refine (pod_fn 1 2 5 _ 2 2 (pick 3 4) _ hR.out (fun h => by cases h) (by omega)).mono ?_
  rintro e w1 ⟨A, cp, rfl, k1, hown⟩
  have hA := Lib.hid (Rd.own hown (by omega) hR.out.range)
  obtain ⟨A', cap', hA', h0'⟩ := own_form hown
  have h0 : A = none → 2 = 0 ∧ cp = 0 := by
    simp only [Value.slice.injEq] at hA'
    obtain ⟨rfl, _, rfl⟩ := hA'
    exact h0'
  replace h0 := Lib.hid h0
  have K1 := Lib.hid ((Keep.one _ _).trans k1)
  clear hown k1 hR hA' h0'
  go_wp2_with fail
  refine (line_pod A cp _ (hv.out.keep K1.out) hA.out h0.out).mono ?_
  rintro e w2 ⟨rfl, k2⟩
  have K2 := Lib.hid (K1.out.trans k2)
  replace k2 := Lib.hid k2
  go_wp2_with fail
  refine (class_fn 1 (-2) true _).mono ?_
  rintro e w3 ⟨rfl, k3⟩
  have K3 := Lib.hid (K2.out.trans k3)
  replace k3 := Lib.hid k3
  go_wp2_with fail
  refine (line_class _ (hv.out.keep K3.out)).mono ?_
  rintro e w4 ⟨rfl, k4⟩
  have K4 := Lib.hid (K3.out.trans k4)
  replace k4 := Lib.hid k4
  go_wp2_with fail
  refine (parse_node _ (hv.out.keep K4.out)).mono ?_
  rintro e w5 ⟨B, cb, rfl, hB, k5⟩
  have X := Box.new w5 (.int .i64 2) (.int .i64 3) (.int .i64 0) (.int .i64 0) (.bool false) (.slice B 1 cb)
  have kx : Keep w5 (w5.alloc (.cells #[.int .i64 2, .int .i64 3, .int .i64 0, .int .i64 0, .bool false, .slice B 1 cb] 34)) := Keep.one _ _
  have K5 := Lib.hid ((K4.out.trans k5).trans kx)
  obtain ⟨w6, hw6⟩ : ∃ w6, w6 = w5.alloc (.cells #[.int .i64 2, .int .i64 3, .int .i64 0, .int .i64 0, .bool false, .slice B 1 cb] 34) := ⟨_, rfl⟩
  obtain ⟨b0, hb0⟩ : ∃ b0, b0 = w5.heap.size := ⟨_, rfl⟩
  have hB6 := hB.keep kx
  rw [← hw6] at X K5 hB6
  rw [← hb0] at X
  replace k5 := Lib.hid k5
  replace hB := Lib.hid hB
  replace hB6 := Lib.hid hB6
  replace kx := Lib.hid kx
  have p0 := X.ce0
  have p1 := X.ce1
  have p2 := X.ce2
  have p3 := X.ce3
  have p4 := X.ce4
  have p5 := X.ce5
  replace X := Lib.hid X
  replace hb0 := Lib.hid hb0
  replace hw6 := Lib.hid hw6
  go_wp2_with fail
  rw [← hw6.out, ← hb0.out]
  refine (read_two _ (hv.out.keep K5.out)).mono ?_
  rintro e w7 ⟨C, cc, rfl, k7⟩
  have L7 := Lib.hid k7
  replace k7 := Lib.hid k7
  go_wp2_with fail
  refine (read_bad _ (hv.out.keep (K5.out.trans L7.out))).mono ?_
  rintro e w8 ⟨rfl, k8⟩
  have L8 := Lib.hid (L7.out.trans k8)
  replace k8 := Lib.hid k8
  go_wp2_with fail
  refine (number_m7 _ (hv.out.keep (K5.out.trans L8.out))).mono ?_
  rintro e w9 ⟨rfl, k9⟩
  have L9 := Lib.hid (L8.out.trans k9)
  replace k9 := Lib.hid k9
  go_wp2_with fail
  refine (tick_fn 5 _).mono ?_
  rintro e wa ⟨rfl, ka⟩
  have La := Lib.hid (L9.out.trans ka)
  replace ka := Lib.hid ka
  go_wp2_with fail
  refine (write_tick _ (hv.out.keep (K5.out.trans La.out))).mono ?_
  rintro e wb ⟨rfl, kb⟩
  have Lb := Lib.hid (La.out.trans kb)
  replace kb := Lib.hid kb
  have q0 := Lb.out.cell p0
  have q1 := Lb.out.cell p1
  have q2 := Lb.out.cell p2
  have q3 := Lb.out.cell p3
  have q4 := Lb.out.cell p4
  have q5 := Lb.out.cell p5
  go_wp2_with fail
  go_region_held3 (fun w' => w'.cell? ⟨b0, 0, none⟩ = some (.int .i64 2) ∧ w'.cell? ⟨b0, 1, none⟩ = some (.int .i64 3) ∧ w'.cell? ⟨b0, 2, none⟩ = some (.int .i64 0) ∧ w'.cell? ⟨b0, 3, none⟩ = some (.int .i64 0) ∧ w'.cell? ⟨b0, 4, none⟩ = some (.bool false) ∧ w'.cell? ⟨b0, 5, none⟩ = some (.slice B 1 cb))
    (first | assumption | exact ⟨q0, q1, q2, q3, q4, q5⟩ | exact ⟨M3.out.cell p0, M3.out.cell p1, M3.out.cell p2, M3.out.cell p3, M3.out.cell p4, M3.out.cell p5⟩ | exact ⟨M2.out.cell p0, M2.out.cell p1, M2.out.cell p2, M2.out.cell p3, M2.out.cell p4, M2.out.cell p5⟩ | exact ⟨M1.out.cell p0, M1.out.cell p1, M1.out.cell p2, M1.out.cell p3, M1.out.cell p4, M1.out.cell p5⟩ | exact ⟨(Lb.out.drew.alloc _).cell p0, (Lb.out.drew.alloc _).cell p1, (Lb.out.drew.alloc _).cell p2, (Lb.out.drew.alloc _).cell p3, (Lb.out.drew.alloc _).cell p4, (Lb.out.drew.alloc _).cell p5⟩)
    (first
      | (go_at_call 24; refine (hN.out wb.drew).mono ?_; rintro e wc ⟨A9, c9, rfl, kc, hR9⟩; have M1 := Lib.hid (Lb.out.drew.trans kc); replace hR9 := Lib.hid hR9; replace kc := Lib.hid kc)
      | (go_at_call 12; refine (equal_7 B A9 cb c9 _ (hB6.out.keep M1.out) hR9.out).mono ?_; rintro e wd ⟨rfl, kd⟩; have M2 := Lib.hid (M1.out.trans kd); replace kd := Lib.hid kd)
      | (go_at_call 11; refine (wrong4_yes 9 1 _ (hv.out.keep (K5.out.trans M2.out)).base.err).mono ?_; rintro e we ⟨rfl, ke⟩; have M3 := Lib.hid (M2.out.trans ke); replace ke := Lib.hid ke))
  go_wp2
  go_ret
  exact ⟨rfl, K5.out.trans M3.out⟩
end Go.Proofs.YtnaeabfmgfipoaaGreatDoor
namespace Go.Proofs.YtnaeabfmgfipoaaGreatDoor
open Go.ChangeShapes Go.WideShapes Go.ChangeAt Go.WideMaps Go.WideElems Go.RowKit

section
variable {H : Type} {enc : TypeId × Value → H} {P : Program}

theorem trodAll_stays (hl : laidOutB P = true) {W W' : World} {sp' : Nat → Bool} : ∀ {ts : List TypeId} {vs : List Value} {ds : List (DataW H)} {ps : List MemPlace}, (∀ t ∈ ts, P.readableRec t = true ∧ t < P.types.size) →
    DataW.TrodAll enc P W 0 (fun _ => true) true ts vs ds ps → (∀ p ∈ ps, W.sameAt W' p) → (∀ p ∈ ps, sp' p.block = true) → DataW.TrodAll enc P W' 0 sp' true ts vs ds ps
  | [], vs, ds, ps, _, h, _, _ => by
    obtain ⟨rfl, rfl, rfl⟩ := trodAll_nil h
    exact trodAll_mk0
  | t :: ts, vs, ds, ps, hr, h, hs, hb => by
    obtain ⟨v, vs1, d, ds1, a, b, rfl, rfl, rfl, h1, h2⟩ := trodAll_cons h
    refine trodAll_cons_mk ?_ ?_
    · exact WideElems.Trod_stays hl (hr t (by simp)).1 (hr t (by simp)).2 h1 (fun p hp => hs p (by simp [hp])) (fun p hp => hb p (by simp [hp]))
    · exact trodAll_stays hl (fun t' ht => hr t' (by simp [ht])) h2 (fun p hp => hs p (by simp [hp])) (fun p hp => hb p (by simp [hp]))

/-- A LAW's POST: the call answered true, nothing that was there has turned: the arguments read as they did. -/
theorem law_post (hl : laidOutB P = true) {f : Func} {s : ChangeSpec} {tb : TypeId} {W W' : World} {args : Array Value} {ds gs : List (DataW H)} {before : List MemPlace}
    (hvars : s.vars = []) (hr : ∀ t ∈ f.params.toList, P.readableRec t = true ∧ t < P.types.size) (ht : f.resultTypes = #[tb]) (hb : P.underlying tb = some .bool)
    (hW : DataW.Whole enc P f.params.toList s.vars false W args.toList ds gs before)
    (hfn : s.fn H (ds ++ gs) = { results := [.lit (.bool true)], args := ds }) (hk : Below W.heap.size W W') :
    s.post enc P f false true false false W args (.bool true) W' := by
  have hlt : ∀ x ∈ before, x.block < W.heap.size := fun x hx => hW.lt x hx
  have hW0 := hW
  obtain ⟨p, q, hA, hV, rfl, _, _⟩ := hW
  rw [hvars] at hV
  obtain ⟨rfl, rfl⟩ := trodVars_none hV
  simp only [List.append_nil] at hlt
  refine ⟨ds, [], p ++ [], [], p, [], hW0, ?_, ?_, ?_, hk.frame _, fun h => by cases h⟩
  · rw [hfn, ht]
    exact trodAll_cons_mk (shut_bool hb _) trodAll_mk0
  · rw [hfn]
    exact trodAll_stays hl hr hA (fun x hx => hk.same (hlt x hx)) (fun x hx => by simpa using hlt x hx)
  · rw [hfn, hvars]
    rfl

/-- A laid array of strings: its cells. -/
theorem strings_laid {W : World} {t e : TypeId} {n fuel : Nat} {cs : Array Value} {bs : List (List UInt8)} {p : List MemPlace} (ht : P.underlying t = some (.array n e)) (he : P.underlying e = some .string) (hc : P.cellsOf e = 1)
    (h : DataW.trod (fun _ => ()) P W 0 (fun _ => true) false fuel t cs.toList = some (.agg (bs.map fun b => .lit (.string b)), p)) :
    ∀ i, i < n → cs[i]? = some (.string ⟨(bs.getD i []).toArray⟩) := by
  obtain ⟨xs, m, rfl, hx, _, hn, hel⟩ := DataW.trod_array ht h
  intro i hi
  have h0 := hel i hi
  rw [hc, Nat.mul_one] at h0
  have hxi : xs[i]? = some xs[i] := List.getElem?_eq_getElem (by omega)
  rw [hxi] at h0
  obtain ⟨s, e1, e2, _⟩ := DataW.trod_string he h0
  have hcs : cs[i]? = some (.string s) := by
    have : (cs.toList.drop i).head? = some (.string s) := by
      cases hd : cs.toList.drop i with
      | nil => rw [hd] at e1; cases e1
      | cons c r => rw [hd] at e1; simp at e1; rw [e1]; rfl
    rw [List.head?_drop] at this
    simpa using this
  rw [hcs]
  simp only [Prod.mk.injEq, DataW.agg.injEq] at hx
  have hb : bs[i]? = some s.data.toList := by
    have h1 : (bs.map fun b => (DataW.lit (.string b) : DataW Unit))[i]? = (xs.map (·.1))[i]? := by rw [hx.1]
    rw [List.getElem?_map, List.getElem?_map, hxi, e2] at h1
    cases hbi : bs[i]? with
    | none => rw [hbi] at h1; cases h1
    | some b => rw [hbi] at h1; simp at h1; rw [h1]
  rw [List.getD_eq_getElem?_getD, hb]
  simp
/-- A slice of int64 that came in. -/
theorem rd_trod64 {W : World} {t e : TypeId} {v : Value} {fuel : Nat} {x : DataW H × List MemPlace} (ht : P.underlying t = some (.slice e)) (he : P.underlying e = some (.int .i64)) (hc : P.cellsOf e = 1)
    (hf : DataW.trod enc P W 0 (fun _ => true) true fuel t [v] = some x) : ∃ A n c Z, v = .slice A n c ∧ Rd W A n Z ∧ (A = none → n = 0 ∧ c = 0) := by
  rcases open_ints ht he hc hf with ⟨hcs, _⟩ | ⟨x, l, c, zs, hcs, _, hl, hm, hz, _, hcell, hwz⟩
  · simp at hcs
    exact ⟨none, 0, 0, fun _ => 0, hcs, Rd.nil _ _ _, fun _ => ⟨rfl, rfl⟩⟩
  · simp at hcs
    simp only [if_true] at hz
    unfold maxLen at hm
    refine ⟨_, _, _, fun k => zs.getD k 0, hcs, ⟨by omega, fun k hk => ?_, fun hn => ?_⟩, fun h => by cases h⟩
    · have hk' : k < zs.length := by omega
      have hw := hwz (zs.getD k 0) (by rw [show zs.getD k 0 = zs[k] from by simp [List.getD, hk']]; exact List.getElem_mem hk')
      simp [Lit.wf, IntKind.min, IntKind.max, IntKind.signed, IntKind.bits] at hw
      simpa using hw
    · obtain ⟨b, off, spot⟩ := x
      have hspot : spot = none := by simpa [Addr.add] using World.cell?_spot (hcell 0 (by omega))
      subst hspot
      exact ⟨b, off, rfl, fun j hj => by have := hcell j (by omega); rwa [add_plain] at this⟩
theorem rd_open {W : World} {base : Nat} {t e : TypeId} {v : Value} {d : DataW H} {p : List MemPlace} (ht : P.underlying t = some (.slice e)) (he : P.underlying e = some (.int .i64)) (hc : P.cellsOf e = 1)
    (hv : Value.okWide P W .any base t v) (h : DataW.Trod enc P W 0 (fun _ => true) true t v d p) : ∃ A n c Z, v = .slice A n c ∧ Rd W A n Z ∧ (A = none → n = 0 ∧ c = 0) := by
  obtain ⟨a0, len, cap, rfl⟩ := okWide_slice ht hv
  obtain ⟨fuel, hf⟩ := h
  have hcs : (Value.slice a0 len cap).cells.toList = [.slice a0 len cap] := by simp [Value.cells]
  rw [hcs] at hf
  exact rd_trod64 ht he hc hf
end

theorem Tryz.own : ownKnob Tryz.prog.godebug = none := by kernel_rfl
theorem Tryz.laidOut : laidOutB Tryz.prog = true := by kernel_rfl
theorem Tryz.cellsI64 : Tryz.prog.cellsOf 2 = 1 := by kernel_rfl
theorem Tryz.cellsStr : Tryz.prog.cellsOf 9 = 1 := by kernel_rfl
def seatLaid : List (String × DataW Unit) := [("math/bits.deBruijn32tab", Rows.laid_math_bits_deBruijn32tab), ("math/bits.deBruijn64tab", Rows.laid_math_bits_deBruijn64tab), ("internal/strconv.uint64pow10", Rows.laid_internal_strconv_uint64pow10), ("errors.errorType", Rows.laid_errors_errorType), ("strconv.ErrRange", Rows.laid_strconv_ErrRange), ("strconv.ErrSyntax", Rows.laid_strconv_ErrSyntax), ("hammock/fault.kindNames", Rows.laid_hammock_fault_kindNames), ("hammock/script.fields", Rows.laid_hammock_script_fields)]
theorem door_met (os : Os) (args : Array Value) : laidMetH Tryz.prog seatLaid ((World.doorLaid Tryz.prog 400 os).forCall (fun _ _ => 0) ⟨#[], args, []⟩).memory :=
  laidMetH_of_parts3 (fuel := 8) (laidMet_of_run' 8 (by kernel_rfl) (by kernel_rfl)) (by kernel_rfl) (by kernel_rfl)
theorem Tryz.gE : Tryz.prog.globalNamed "errors.errorType" = some 3 := by kernel_rfl
theorem Tryz.gK : Tryz.prog.globalNamed "hammock/fault.kindNames" = some 1 := by kernel_rfl
theorem Tryz.gtK : (Tryz.prog.globals[1]?).map (·.type) = some 93 := by kernel_rfl
theorem Tryz.gF : Tryz.prog.globalNamed "hammock/script.fields" = some 0 := by kernel_rfl
theorem Tryz.gtF : (Tryz.prog.globals[0]?).map (·.type) = some 69 := by kernel_rfl
theorem Tryz.gR : Tryz.prog.globalNamed "strconv.ErrRange" = some 5 := by kernel_rfl
theorem Tryz.gtR : (Tryz.prog.globals[5]?).map (·.type) = some 25 := by kernel_rfl
theorem Tryz.rt : (Tryz.prog.cutTypes.find? (·.1 == "internal/reflectlite.rtype")).map (·.2) = some 140 := by kernel_rfl
theorem Tryz.oneRow : ((List.range 192).filter fun t => Tryz.prog.rowNamed t [101, 114, 114, 111, 114]) = [25] := by kernel_rfl
theorem Tryz.tsize : Tryz.prog.types.size = 192 := by kernel_rfl
theorem Tryz.star : "*" ++ "errors.errorString" = "*errors.errorString" := by decide
theorem Tryz.rowErr (u : TypeId) (h : Tryz.prog.typeName? 3 u = some "*errors.errorString") : u = 158 :=
  typeName_ptr_named (nm := "errors.errorString") (by rw [Tryz.star]; kernel_rfl) (by kernel_rfl) (by decide) u (by rw [Tryz.star]; exact h)
/-- A laid table of rows of four numbers: its cells. -/
theorem rows_laid {P : Program} {W : World} {t e i : TypeId} {n fuel : Nat} {cs : Array Value} {bs : List (List Int)} {p : List MemPlace} (ht : P.underlying t = some (.array n e)) (he : P.underlying e = some (.array 4 i)) (hi : P.underlying i = some (.int .i64)) (hc : P.cellsOf e = 4) (hci : P.cellsOf i = 1)
    (h : DataW.trod (fun _ => ()) P W 0 (fun _ => true) false fuel t cs.toList = some (.agg (bs.map fun b => .agg (b.map fun x => .lit (.int .i64 x))), p)) :
    ∀ k j, k < n → j < 4 → cs[4 * k + j]? = some (.int .i64 ((bs.getD k []).getD j 0)) := by
  obtain ⟨xs, m, rfl, hx, _, hn, hel⟩ := DataW.trod_array ht h
  intro k j hk hj
  have h0 := hel k hk
  rw [hc] at h0
  have hxk : xs[k]? = some xs[k] := List.getElem?_eq_getElem (by omega)
  rw [hxk] at h0
  simp only [Prod.mk.injEq, DataW.agg.injEq] at hx
  have hb : ∃ b, bs[k]? = some b ∧ xs[k].1 = .agg (b.map fun x => .lit (.int .i64 x)) := by
    have h1 : (bs.map fun b => (DataW.agg (b.map fun x => .lit (.int .i64 x)) : DataW Unit))[k]? = (xs.map (·.1))[k]? := by rw [hx.1]
    rw [List.getElem?_map, List.getElem?_map, hxk] at h1
    cases hbk : bs[k]? with
    | none => rw [hbk] at h1; cases h1
    | some b => rw [hbk] at h1; simp at h1; exact ⟨b, rfl, h1.symm⟩
  obtain ⟨b, hb1, hb2⟩ := hb
  have hxe : xs[k] = (.agg (b.map fun x => .lit (.int .i64 x)), xs[k].2) := by rw [← hb2]
  rw [hxe] at h0
  obtain ⟨ys, m2, e2, hy, _, hn2, hel2⟩ := DataW.trod_array he h0
  have h2 := hel2 j hj
  rw [hci] at h2
  have hyj : ys[j]? = some ys[j] := List.getElem?_eq_getElem (by omega)
  rw [hyj] at h2
  obtain ⟨v, e3, e4, _⟩ := DataW.trod_int hi h2
  simp only [Prod.mk.injEq, DataW.agg.injEq] at hy
  have hv : b[j]? = some v := by
    have h1 : (b.map fun x => (DataW.lit (.int .i64 x) : DataW Unit))[j]? = (ys.map (·.1))[j]? := by rw [hy.1]
    rw [List.getElem?_map, List.getElem?_map, hyj, e4] at h1
    cases hbj : b[j]? with
    | none => rw [hbj] at h1; cases h1
    | some u => rw [hbj] at h1; simp at h1; rw [h1]
  have hcell : cs.toList[k * 4 + j]? = some (.int .i64 v) := by
    have h3 := congrArg (fun l => l[0]?) e3
    simp only [List.getElem?_take, List.getElem?_drop, List.getElem?_cons_zero] at h3
    rw [if_pos (by omega), if_pos (by omega)] at h3
    rw [← h3]
    congr 1
    omega
  rw [← Array.getElem?_toList, Nat.mul_comm 4 k, hcell, List.getD_eq_getElem?_getD, List.getD_eq_getElem?_getD, hb1]
  simp [hv]
theorem vars_of_laid {W : World} (h : laidMetH Tryz.prog seatLaid W) : V4 W := by
  have h' : laidMet Tryz.prog [("math/bits.deBruijn32tab", Rows.laid_math_bits_deBruijn32tab), ("math/bits.deBruijn64tab", Rows.laid_math_bits_deBruijn64tab), ("internal/strconv.uint64pow10", Rows.laid_internal_strconv_uint64pow10), ("strconv.ErrRange", Rows.laid_strconv_ErrRange), ("strconv.ErrSyntax", Rows.laid_strconv_ErrSyntax), ("hammock/fault.kindNames", Rows.laid_hammock_fault_kindNames), ("hammock/script.fields", Rows.laid_hammock_script_fields)] W ∧ handlesMet Tryz.prog [("errors.errorType", Rows.laid_errors_errorType)] W := h
  obtain ⟨h1, hh⟩ := h'
  have h2 := h1.tail.tail
  have htab : Lib.TabIs Tryz.prog W "internal/strconv.uint64pow10" .u64 Lib.pow10Tab := Lib.tabIs_of_head (show Tryz.prog.globalNamed "internal/strconv.uint64pow10" = some 6 by kernel_rfl) (show (Tryz.prog.globals[6]?).map (·.type) = some 154 by kernel_rfl) Tryz.underlying154 Tryz.underlying101 (by kernel_rfl) (by kernel_rfl) h2
  have h3 := h2.tail
  obtain ⟨ra, rs, hrange, _⟩ := laid_sentinel h3 Tryz.gR Tryz.gtR Tryz.underlying25 Tryz.rowErr Tryz.underlying158 Tryz.underlying160 rfl rfl Tryz.underlying9 (by kernel_rfl) Tryz.cellsStr
  have h4 := h3.tail.tail
  obtain ⟨ps, ⟨g1, t1, cs1, f1, p1, q1, hg1, ht1, hv1, hd1, ⟨g2, t2, cs2, f2, p2, q2, hg2, ht2, hv2, hd2, _, _⟩, _⟩, _, _⟩ := h4
  obtain rfl := Option.some.inj (Tryz.gK.symm.trans hg1)
  obtain rfl := Option.some.inj (Tryz.gtK.symm.trans ht1)
  obtain rfl := Option.some.inj (Tryz.gF.symm.trans hg2)
  obtain rfl := Option.some.inj (Tryz.gtF.symm.trans ht2)
  obtain ⟨name, u, ty, e1, e2, e3, e4, e5⟩ := hh _ (List.mem_singleton.2 rfl)
  have en : name = [101, 114, 114, 111, 114] := (Option.some.inj e1).symm
  subst en
  obtain rfl := Option.some.inj (Tryz.rt.symm.trans e2)
  have hm : ty ∈ (List.range 192).filter fun t => Tryz.prog.rowNamed t [101, 114, 114, 111, 114] := List.mem_filter.2 ⟨List.mem_range.2 (by rw [← Tryz.tsize]; exact e3), e4⟩
  rw [Tryz.oneRow] at hm
  obtain rfl := List.mem_singleton.1 hm
  have hth : typeHandle Tryz.prog 25 = .pointer (some ⟨9, 25, none⟩) := by kernel_rfl
  rw [hth] at e5
  refine ⟨⟨by unfold ErrT; simpa using World.var?_cell Tryz.gE e5 0, fun i hi => ?_⟩, ⟨_, _, hrange⟩, htab, fun k j hk hj => ?_⟩
  · rw [World.var?_cell Tryz.gK hv1 i, strings_laid Tryz.underlying93 Tryz.underlying9 Tryz.cellsStr (bs := kindTbl.map fun s => s.data.toList) hd1 i hi]
    have : ∀ i, i < 8 → (⟨((kindTbl.map fun s => s.data.toList).getD i []).toArray⟩ : ByteArray) = kindTbl.getD i ⟨#[]⟩ := by decide
    rw [this i hi]
  · rw [World.var?_cell Tryz.gF hv2 (4 * k + j), rows_laid Tryz.underlying69 Tryz.underlying68 Tryz.underlying3 (by kernel_rfl) (by kernel_rfl) (bs := [[0, 0, 0, 0], [1, 3, 4, 0], [1, 5, 0, 0], [1, 0, 0, 0], [1, 2, 3, 5], [1, 0, 0, 0], [3, 0, 0, 0], [0, 0, 0, 0]]) hd2 k j hk hj]
    have : ∀ k, k < 8 → ∀ j, j < 4 → ((([[0, 0, 0, 0], [1, 3, 4, 0], [1, 5, 0, 0], [1, 0, 0, 0], [1, 2, 3, 5], [1, 0, 0, 0], [3, 0, 0, 0], [0, 0, 0, 0]] : List (List Int)).getD k []).getD j 0) = rowF k j := by decide
    rw [this k hk j hj]

/-! ### An operation that came in -/
theorem Tryz.fieldsOp : ∃ f0 f1 f2 f3 f4 f5 : Field, Tryz.prog.underlying 34 = some (.struct #[f0, f1, f2, f3, f4, f5]) ∧ (f0.type = 3 ∧ f1.type = 3 ∧ f2.type = 3 ∧ f3.type = 3 ∧ f4.type = 4 ∧ f5.type = 32) ∧ f0.offset = 0 ∧ f1.offset = 1 ∧ f2.offset = 2 ∧ f3.offset = 3 ∧ f4.offset = 4 ∧ f5.offset = 5 :=
  ⟨_, _, _, _, _, _, Tryz.underlying34, ⟨rfl, rfl, rfl, rfl, rfl, rfl⟩, rfl, rfl, rfl, rfl, rfl, rfl⟩
theorem Tryz.cellsOp : Tryz.prog.cellsOf 34 = 6 := by kernel_rfl
theorem Tryz.cellsInt : Tryz.prog.cellsOf 3 = 1 := by kernel_rfl
theorem Tryz.cellsBool : Tryz.prog.cellsOf 4 = 1 := by kernel_rfl
theorem Tryz.cellsI64s : Tryz.prog.cellsOf 32 = 1 := by kernel_rfl
theorem cells1 {t : TypeId} (h : Tryz.prog.cellsOf t = 1) (cs : List Value) (j : Nat) (v : Value) (hv : cs[j]? = some v) : (cs.drop j).take (Tryz.prog.cellsOf t) = [v] := by
  rw [h]
  cases hd : cs.drop j with
  | nil =>
    rw [List.drop_eq_nil_iff] at hd
    rw [List.getElem?_eq_none hd] at hv
    cases hv
  | cons a r =>
    have : (cs.drop j).head? = some a := by rw [hd]; rfl
    rw [List.head?_drop, hv] at this
    simp at this
    simp [this]
theorem i64_wf {x : Int} (h : (Lit.int .i64 x).wf = true) : I64 x := by
  unfold I64
  simp [Lit.wf, IntKind.min, IntKind.max, IntKind.signed, IntKind.bits] at h
  simpa using h
set_option maxRecDepth 100000 in
theorem op_open {H : Type} {enc : TypeId × Value → H} {W : World} {base : Nat} {v : Value} {d : DataW H} {p : List MemPlace} (hv : Value.okWide Tryz.prog W .any base 34 v) (h : DataW.Trod enc Tryz.prog W 0 (fun _ => true) true 34 v d p) :
    ∃ k i c n f A m cp Z, v = .agg #[.int .i64 k, .int .i64 i, .int .i64 c, .int .i64 n, .bool f, .slice A m cp] ∧ (Rd W A m Z ∧ I64 k ∧ I64 i ∧ I64 c ∧ I64 n) ∧ (A = none → m = 0 ∧ cp = 0) := by
  obtain ⟨f0, f1, f2, f3, f4, f5, hs, ⟨t0, t1, t2, t3, t4, t5⟩, o0, o1, o2, o3, o4, o5⟩ := Tryz.fieldsOp
  obtain ⟨cs, rfl, hsz⟩ := okWide_struct hs hv
  rw [Tryz.cellsOp] at hsz
  obtain ⟨l⟩ := cs
  obtain ⟨fuel, hf⟩ := h
  obtain ⟨xs, n', _, _, _, hlen, hg⟩ := DataW.trod_struct hs hf
  have hl : l.length = 6 := by simpa using hsz
  have hcl : (Value.agg ⟨l⟩).cells.toList = l := by simp [Value.cells]
  match l, hl, xs, hlen with
  | [v0, v1, v2, v3, v4, v5], _, [y0, y1, y2, y3, y4, y5], _ =>
    have g0 := hg 0 f0 rfl
    have g1 := hg 1 f1 rfl
    have g2 := hg 2 f2 rfl
    have g3 := hg 3 f3 rfl
    have g4 := hg 4 f4 rfl
    have g5 := hg 5 f5 rfl
    rw [o0, t0, hcl, cells1 Tryz.cellsInt _ 0 v0 rfl] at g0
    rw [o1, t1, hcl, cells1 Tryz.cellsInt _ 1 v1 rfl] at g1
    rw [o2, t2, hcl, cells1 Tryz.cellsInt _ 2 v2 rfl] at g2
    rw [o3, t3, hcl, cells1 Tryz.cellsInt _ 3 v3 rfl] at g3
    rw [o4, t4, hcl, cells1 Tryz.cellsBool _ 4 v4 rfl] at g4
    rw [o5, t5, hcl, cells1 Tryz.cellsI64s _ 5 v5 rfl] at g5
    obtain ⟨k, e0, _, r0⟩ := DataW.trod_int Tryz.underlying3 (g0.trans (b := some y0) rfl)
    obtain ⟨i, e1, _, r1⟩ := DataW.trod_int Tryz.underlying3 (g1.trans (b := some y1) rfl)
    obtain ⟨c, e2, _, r2⟩ := DataW.trod_int Tryz.underlying3 (g2.trans (b := some y2) rfl)
    obtain ⟨n, e3, _, r3⟩ := DataW.trod_int Tryz.underlying3 (g3.trans (b := some y3) rfl)
    obtain ⟨f, e4, _⟩ := DataW.trod_bool Tryz.underlying4 (g4.trans (b := some y4) rfl)
    obtain ⟨A, m, cp, Z, e5, hR, h0⟩ := rd_trod64 Tryz.underlying32 Tryz.underlying2 Tryz.cellsI64 (g5.trans (b := some y5) rfl)
    simp at e0 e1 e2 e3 e4
    subst e0 e1 e2 e3 e4 e5
    exact ⟨k, i, c, n, f, A, m, cp, Z, rfl, ⟨hR, i64_wf r0, i64_wf r1, i64_wf r2, i64_wf r3⟩, h0⟩
end Go.Proofs.YtnaeabfmgfipoaaGreatDoor
