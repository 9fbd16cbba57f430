/-
  A text's parts between one byte and the next, and of two texts with that byte between. No condition.
  A text's parts, taken one by one from the left; a line's words so. No condition.
  What the program's Number asks of a word says the same as the reference's. No condition.
  The program's small functions: inRange, flagWord, isDigits, lineCode, kindOf. Condition: the listed variables hold their own.
  Contracts of the library over this program, laid by the shelf, plain. Conditions: as each says.
  The program's Number says what the reference's says. Conditions: the listed variables hold their own; at most 2^48 bytes.
  strings.Cut at a separator of one byte; worlds of which some blocks have turned; the closure that takes a line's words. Condition: at most 2^62 bytes.
  Worlds of which some blocks have turned; the closure that takes a line's words one by one. Condition: at most 1048576 bytes.
  The closure that reads a number and keeps whether all is right; an operation in a variable, field by field. Condition: the listed variables hold their own.
  Reading a line's words by the table of fields says what the words say. No condition.
  How the table of fields is read. No condition.
-/
import Derived.Test.YtnaeabfmgfipoaaGreatDoorBase1
import Derived.Test.YtnaeabfmgfipoaaGreatDoorBase2
import Derived.Lib.IndexLaws
import Derived.Lib.ParseIntB
import Derived.Lib.ItoaNum
import Derived.Shelf.Strings.Builder1
import Derived.Shelf.Small.Wraps
import Derived.Shelf.Strconv.Itoa0
import Derived.Shelf.Strconv.Itoa1
import Derived.Shelf.LaysM
import Derived.Shelf.Strconv.Itoa2
import Derived.Shelf.Strconv.ParseIntEmpty
import Derived.Shelf.Strconv.Clone
import Derived.Shelf.Strconv.SyntaxError
import Derived.Shelf.LaysC
import Derived.Shelf.Strconv.ToError
import Derived.Shelf.Strconv.Lower
import Derived.Shelf.Strconv.ParseUint10
import Derived.Shelf.Strconv.ParseUint10Empty
import Derived.Shelf.Strconv.ParseUint10Any
import Derived.Shelf.Strconv.ParseInt10
import Derived.Shelf.Strconv.RangeError
import Derived.Shelf.Strconv.ToErrorRange
import Derived.Shelf.Strconv.ParseUintEmpty
import Derived.Shelf.Strconv.ParseUint10b64
import Derived.Shelf.Strconv.ParseUint10b32
import Derived.Shelf.Strconv.ParseUint10b16
import Derived.Shelf.Strconv.ParseUint10b8
import Derived.Shelf.Strconv.ParseUint10At
import Derived.Shelf.Strconv.ParseInt10At64
import Derived.Shelf.Strconv.ParseInt10At32
import Derived.Shelf.Strconv.ParseInt10At16
import Derived.Shelf.Strconv.ParseInt10At8
import Derived.Shelf.Strconv.ParseInt10All
import Derived.Shelf.Strconv.ParseIntPublic10
import Derived.Shelf.Strconv.ErrVarParseInt
import Derived.Shelf.Strings.Search1
import Derived.Shelf.Strings.Search2
import Derived.Shelf.Strconv.AppendUint10
import Derived.Shelf.Strconv.AppendInt10
import Derived.Shelf.Strconv.AppendIntPublic10
import Derived.Shelf.Strings.Prefix
import Derived.Test.YtnaeabfmgfipoaaGreatDoorProg
import Derived.Lib.AppendIntMem
import Derived.OwnWalk
import Derived.OneCell
import Derived.Deep.MidRow
namespace Go.Proofs.YtnaeabfmgfipoaaGreatDoor
open Go.RowKit

def cutC (c : Int) (s : ByteArray) (i : Nat) : Bool := decide (i = s.size ∨ byteAt s i = c)
def frmC (c : Int) (s : ByteArray) : Nat → Nat
  | 0 => 0
  | i + 1 => if cutC c s i then i + 1 else frmC c s i
def prtC (c : Int) (s : ByteArray) : Nat → List ByteArray
  | 0 => []
  | i + 1 => if cutC c s i then prtC c s i ++ [s.extract (frmC c s i) i] else prtC c s i
/-- The parts of a text. -/
def splitC (c : Int) (s : ByteArray) : List ByteArray := prtC c s (s.size + 1)
theorem frmC_le (c : Int) (s : ByteArray) : ∀ i, frmC c s i ≤ i
  | 0 => Nat.le_refl _
  | i + 1 => by
    unfold frmC
    have := frmC_le c s i
    split <;> omega
theorem frmC_cut {c : Int} {s : ByteArray} {i : Nat} (h : cutC c s i = true) : frmC c s (i + 1) = i + 1 := by rw [frmC, if_pos h]
theorem frmC_not {c : Int} {s : ByteArray} {i : Nat} (h : cutC c s i = false) : frmC c s (i + 1) = frmC c s i := by rw [frmC, if_neg (by rw [h]; exact Bool.noConfusion)]
theorem prtC_cut {c : Int} {s : ByteArray} {i : Nat} (h : cutC c s i = true) : prtC c s (i + 1) = prtC c s i ++ [s.extract (frmC c s i) i] := by rw [prtC, if_pos h]
theorem prtC_not {c : Int} {s : ByteArray} {i : Nat} (h : cutC c s i = false) : prtC c s (i + 1) = prtC c s i := by rw [prtC, if_neg (by rw [h]; exact Bool.noConfusion)]
theorem cutC_left (c : Int) (x y : ByteArray) {i : Nat} (h : i < x.size) : cutC c (x ++ y) i = cutC c x i := by
  unfold cutC
  rw [byteAt_left x y h, ByteArray.size_append, decide_eq_decide]
  omega
theorem cutC_right (c : Int) (x y : ByteArray) (i : Nat) : cutC c (x ++ y) (x.size + i) = cutC c y i := by
  unfold cutC
  rw [byteAt_right, ByteArray.size_append, decide_eq_decide]
  omega
theorem cutC_end (c : Int) (s : ByteArray) : cutC c s s.size = true := decide_eq_true (Or.inl rfl)
theorem prtC_left (c : Int) (x y : ByteArray) : ∀ i, i ≤ x.size → prtC c (x ++ y) i = prtC c x i ∧ frmC c (x ++ y) i = frmC c x i
  | 0, _ => ⟨rfl, rfl⟩
  | i + 1, h => by
    obtain ⟨h1, h2⟩ := prtC_left c x y i (by omega)
    have hc := cutC_left c x y (i := i) (by omega)
    have hf := frmC_le c x i
    rw [prtC, prtC, frmC, frmC, h1, h2, hc, extract_left x y hf (by omega)]
    exact ⟨rfl, rfl⟩
theorem extract_mid (x y : ByteArray) {a b : Nat} (hab : a ≤ b) : (x ++ y).extract (x.size + a) (x.size + b) = y.extract a b := by
  apply ByteArray.ext
  apply Array.ext'
  have hl := size_list x
  rw [ByteArray.data_extract, ByteArray.data_extract, ByteArray.data_append, Array.toList_extract, Array.toList_extract, Array.toList_append]
  apply List.ext_getElem?
  intro i
  simp only [List.extract_eq_take_drop, List.getElem?_take, List.getElem?_drop]
  by_cases hi : i < b - a
  · rw [if_pos hi, if_pos (by omega), List.getElem?_append_right (by omega), hl]
    congr 1
    omega
  · rw [if_neg hi, if_neg (by omega)]
/-- Two texts with the byte between them. -/
theorem split_join (d : UInt8) (x y : ByteArray) : splitC d.toNat ((x ++ ⟨#[d]⟩) ++ y) = splitC d.toNat x ++ splitC d.toNat y := by
  obtain ⟨c, hc0⟩ : ∃ c : Int, c = (d.toNat : Int) := ⟨_, rfl⟩
  rw [← hc0]
  obtain ⟨u, hu⟩ : ∃ u, u = x ++ ⟨#[d]⟩ := ⟨_, rfl⟩
  have hus : u.size = x.size + 1 := by rw [hu, ByteArray.size_append, size_one]
  obtain ⟨t, ht⟩ : ∃ t, t = u ++ y := ⟨_, rfl⟩
  have hts : t.size = u.size + y.size := by rw [ht, ByteArray.size_append]
  have e1 : t = x ++ (⟨#[d]⟩ ++ y) := by rw [ht, hu, ByteArray.append_assoc]
  obtain ⟨a1, a2⟩ := prtC_left c x (⟨#[d]⟩ ++ y) x.size (Nat.le_refl _)
  rw [← e1] at a1 a2
  have hb : byteAt t x.size = c := by
    have := byteAt_right x (⟨#[d]⟩ ++ y) 0
    rw [Nat.add_zero, ← e1] at this
    rw [this, byteAt_left _ _ (by rw [size_one]; omega), hc0]
    rfl
  have hc : cutC c t x.size = true := decide_eq_true (Or.inr hb)
  have hx1 : t.extract (frmC c x x.size) x.size = x.extract (frmC c x x.size) x.size := by rw [e1]; exact extract_left x _ (frmC_le c x _) (Nat.le_refl _)
  have w1 : prtC c t (x.size + 1) = splitC c x := by unfold splitC; rw [prtC_cut hc, prtC_cut (cutC_end c x), a1, a2, hx1]
  have f1 : frmC c t (x.size + 1) = x.size + 1 := frmC_cut hc
  have hall : ∀ k, k ≤ y.size → prtC c t (u.size + k) = splitC c x ++ prtC c y k ∧ frmC c t (u.size + k) = u.size + frmC c y k := by
    intro k
    induction k with
    | zero => exact fun _ => ⟨by rw [Nat.add_zero, hus, w1]; exact (List.append_nil _).symm, by rw [Nat.add_zero, hus, f1]; rfl⟩
    | succ k ih =>
      intro hk
      obtain ⟨b1, b2⟩ := ih (by omega)
      have hcr := cutC_right c u y k
      rw [← ht] at hcr
      cases hq : cutC c y k
      · rw [hq] at hcr
        rw [show u.size + (k + 1) = u.size + k + 1 by omega, prtC_not hcr, frmC_not hcr, prtC_not hq, frmC_not hq]
        exact ⟨b1, b2⟩
      · rw [hq] at hcr
        have hm := extract_mid u y (frmC_le c y k)
        rw [← ht] at hm
        rw [show u.size + (k + 1) = u.size + k + 1 by omega, prtC_cut hcr, frmC_cut hcr, prtC_cut hq, frmC_cut hq, b1, b2, hm, List.append_assoc]
        exact ⟨rfl, by omega⟩
  obtain ⟨c1, c2⟩ := hall y.size (Nat.le_refl _)
  rw [← hts] at c1 c2
  rw [← hu, ← ht]
  show prtC c t (t.size + 1) = _
  rw [prtC_cut (cutC_end c t), c1, c2]
  have hm := extract_mid u y (frmC_le c y y.size)
  rw [← ht, ← hts] at hm
  rw [hm, List.append_assoc]
  congr 1
  unfold splitC
  rw [prtC_cut (cutC_end c y)]
theorem split_none {c : Int} {s : ByteArray} (h : ∀ j, j < s.size → byteAt s j ≠ c) : splitC c s = [s] := by
  have hz : ∀ i, i ≤ s.size → prtC c s i = [] ∧ frmC c s i = 0 := by
    intro i
    induction i with
    | zero => exact fun _ => ⟨rfl, rfl⟩
    | succ i ih =>
      intro hi
      obtain ⟨h1, h2⟩ := ih (by omega)
      have hc : cutC c s i = false := decide_eq_false (fun e => by rcases e with e | e; omega; exact h i (by omega) e)
      rw [prtC_not hc, frmC_not hc]
      exact ⟨h1, h2⟩
  obtain ⟨h1, h2⟩ := hz s.size (Nat.le_refl _)
  unfold splitC
  rw [prtC_cut (cutC_end c s), h1, h2, extract_all]
  rfl
end Go.Proofs.YtnaeabfmgfipoaaGreatDoor
namespace Go.Proofs.YtnaeabfmgfipoaaGreatDoor
open Go.RowKit

/-- What is ahead of the first byte c, and what is behind it, if there is one. -/
def headC (c : UInt8) (s : ByteArray) : ByteArray := if Lib.indexByte s.data.toList c < 0 then s else s.extract 0 (Lib.indexByte s.data.toList c).toNat
def moreC (c : UInt8) (s : ByteArray) : Bool := ! decide (Lib.indexByte s.data.toList c < 0)
def restC (c : UInt8) (s : ByteArray) : ByteArray := if Lib.indexByte s.data.toList c < 0 then ⟨#[]⟩ else s.extract ((Lib.indexByte s.data.toList c).toNat + 1) s.size
theorem byte_at_list (s : ByteArray) (j : Nat) (h : j < s.size) : byteAt s j = ((s.data.toList[j]'(by cases s; exact h)).toNat : Int) := by
  unfold byteAt
  rw [List.getD_eq_getElem?_getD, List.getElem?_eq_getElem (by cases s; exact h)]
  rfl
theorem index_lt {s : ByteArray} {c : UInt8} (h : ¬ Lib.indexByte s.data.toList c < 0) : (Lib.indexByte s.data.toList c).toNat < s.size ∧ byteAt s (Lib.indexByte s.data.toList c).toNat = (c.toNat : Int) ∧ ∀ j, j < (Lib.indexByte s.data.toList c).toNat → byteAt s j ≠ (c.toNat : Int) := by
  have hl : s.data.toList.length = s.size := by cases s; rfl
  obtain ⟨o, ho⟩ : ∃ o, o = (Lib.indexByte s.data.toList c).toNat := ⟨_, rfl⟩
  obtain ⟨h1, h2⟩ := Lib.indexByte_some (l := s.data.toList) (c := c) (o := o) (by omega)
  rw [← ho]
  have hlt : o < s.data.toList.length := by
    rcases Nat.lt_or_ge o s.data.toList.length with h' | h'
    · exact h'
    · rw [List.getElem?_eq_none h'] at h1; cases h1
  refine ⟨by omega, ?_, fun j hj => ?_⟩
  · unfold byteAt
    rw [List.getD_eq_getElem?_getD, h1]
    rfl
  · intro e
    apply h2 j hj
    have hj' : j < s.data.toList.length := by omega
    unfold byteAt at e
    rw [List.getD_eq_getElem?_getD, List.getElem?_eq_getElem hj'] at e
    rw [List.getElem?_eq_getElem hj']
    congr 1
    apply UInt8.toNat_inj.1
    have e : (((s.data.toList[j]'hj').toNat : Nat) : Int) = (c.toNat : Int) := e
    omega
theorem index_none {s : ByteArray} {c : UInt8} (h : Lib.indexByte s.data.toList c < 0) : ∀ j, j < s.size → byteAt s j ≠ (c.toNat : Int) := by
  have hl : s.data.toList.length = s.size := by cases s; rfl
  have hge := Lib.indexByte_ge s.data.toList c
  have hn := Lib.indexByte_none (l := s.data.toList) (c := c) (by omega)
  intro j hj e
  apply hn j
  have hj' : j < s.data.toList.length := by omega
  unfold byteAt at e
  rw [List.getD_eq_getElem?_getD, List.getElem?_eq_getElem hj'] at e
  rw [List.getElem?_eq_getElem hj']
  congr 1
  apply UInt8.toNat_inj.1
  have e : (((s.data.toList[j]'hj').toNat : Nat) : Int) = (c.toNat : Int) := e
  omega
theorem byteAt_extract (s : ByteArray) {n j : Nat} (hj : j < n) : byteAt (s.extract 0 n) j = byteAt s j := by
  unfold byteAt
  rw [ByteArray.data_extract, Array.toList_extract, List.extract_eq_take_drop, List.drop_zero, Nat.sub_zero, List.getD_eq_getElem?_getD, List.getElem?_take, if_pos hj, List.getD_eq_getElem?_getD]
theorem join_at (s : ByteArray) {i : Nat} (h : i < s.size) (c : UInt8) (hc : byteAt s i = (c.toNat : Int)) : s = (s.extract 0 i ++ ⟨#[c]⟩) ++ s.extract (i + 1) s.size := by
  have hl : s.data.toList.length = s.size := by cases s; rfl
  apply ByteArray.ext
  apply Array.ext'
  rw [ByteArray.data_append, ByteArray.data_append, Array.toList_append, Array.toList_append, ByteArray.data_extract, ByteArray.data_extract, Array.toList_extract, Array.toList_extract, List.extract_eq_take_drop, List.extract_eq_take_drop, List.drop_zero, Nat.sub_zero]
  rw [List.take_of_length_le (l := List.drop (i + 1) s.data.toList) (by rw [List.length_drop]; omega)]
  have hb := byte_at_list s i h
  have ec : s.data.toList[i]'(by omega) = c := by apply UInt8.toNat_inj.1; omega
  show s.data.toList = (s.data.toList.take i ++ [c]) ++ s.data.toList.drop (i + 1)
  rw [← ec, List.append_assoc, List.singleton_append, ← List.drop_eq_getElem_cons, List.take_append_drop]
/-- The parts are the first one, and those of the rest. -/
theorem split_take (c : UInt8) (s : ByteArray) : splitC c.toNat s = headC c s :: (if moreC c s then splitC c.toNat (restC c s) else []) := by
  unfold headC moreC restC
  by_cases h : Lib.indexByte s.data.toList c < 0
  · rw [if_pos h, if_pos h, decide_eq_true h]
    exact split_none (index_none h)
  · rw [if_neg h, if_neg h, decide_eq_false h]
    obtain ⟨h1, h2, h3⟩ := index_lt h
    obtain ⟨i, hi⟩ : ∃ i, i = (Lib.indexByte s.data.toList c).toNat := ⟨_, rfl⟩
    rw [← hi] at h1 h2 h3 ⊢
    have hj := split_join c (s.extract 0 i) (s.extract (i + 1) s.size)
    rw [← join_at s h1 c h2] at hj
    rw [hj, split_none (s := s.extract 0 i) (fun j hj' => by
      have hs : (s.extract 0 i).size = i := by rw [ByteArray.size_extract]; omega
      rw [byteAt_extract s (by omega)]
      exact h3 j (by omega))]
    rfl
theorem headC_size (c : UInt8) (s : ByteArray) : (headC c s).size ≤ s.size := by
  unfold headC
  split
  · exact Nat.le_refl _
  · rw [ByteArray.size_extract]; omega
theorem restC_size (c : UInt8) (s : ByteArray) : (restC c s).size ≤ s.size := by
  unfold restC
  split
  · exact Nat.zero_le _
  · rw [ByteArray.size_extract]; omega
theorem restC_less (c : UInt8) (s : ByteArray) (h : moreC c s = true) : (restC c s).size < s.size := by
  unfold moreC at h
  have h' : ¬ Lib.indexByte s.data.toList c < 0 := by simpa using h
  have := (index_lt h').1
  unfold restC
  rw [if_neg h', ByteArray.size_extract]
  omega
/-- A text's words are its parts between spaces. -/
theorem wds_prt (s : ByteArray) : ∀ i, wds s i = prtC 32 s i ∧ frm s i = frmC 32 s i
  | 0 => ⟨rfl, rfl⟩
  | i + 1 => by
    obtain ⟨h1, h2⟩ := wds_prt s i
    have hc : cutAt s i = cutC 32 s i := rfl
    rw [wds, prtC, frm, frmC, h1, h2, hc]
    exact ⟨rfl, rfl⟩
theorem words_split (s : ByteArray) : wordsOf s = splitC 32 s := (wds_prt s _).1
/-- What is still to be taken: nothing, or the parts of a text. -/
def restW (more : Bool) (s : ByteArray) : List ByteArray := if more then splitC 32 s else []
theorem restW_take (s : ByteArray) : restW true s = headC 32 s :: restW (moreC 32 s) (restC 32 s) := split_take 32 s
theorem split_len (c : Int) (s : ByteArray) : (splitC c s).length ≤ s.size + 1 := by
  have h : ∀ i, (prtC c s i).length ≤ i := by
    intro i
    induction i with
    | zero => exact Nat.le_refl _
    | succ i ih =>
      unfold prtC
      split
      · simp; omega
      · omega
  exact h _
theorem restW_len (m : Bool) (s : ByteArray) : (restW m s).length ≤ s.size + 1 := by
  unfold restW
  cases m
  · exact Nat.zero_le _
  · exact split_len 32 s
end Go.Proofs.YtnaeabfmgfipoaaGreatDoor
namespace Go.Proofs.YtnaeabfmgfipoaaGreatDoor
open Go.RowKit

/-- The value of the first k digits. -/
def valD (B : Nat → Int) : Nat → Int
  | 0 => 0
  | k + 1 => 10 * valD B k + (B k - 48)
def digs (B : Nat → Int) (k : Nat) : Prop := ∀ j, j < k → 48 ≤ B j ∧ B j ≤ 57
theorem valD_pos {B : Nat → Int} : ∀ {k : Nat}, digs B k → 0 ≤ valD B k
  | 0, _ => Int.le_refl _
  | k + 1, h => by
    have h1 := valD_pos (B := B) (k := k) (fun j hj => h j (by omega))
    have h2 := h k (by omega)
    unfold valD
    omega
theorem valD_mono {B : Nat → Int} {k : Nat} (h : digs B (k + 1)) : valD B k ≤ valD B (k + 1) := by
  have h1 := valD_pos (B := B) (k := k) (fun j hj => h j (by omega))
  have h2 := h k (by omega)
  show _ ≤ 10 * valD B k + (B k - 48)
  omega
theorem valD_le {B : Nat → Int} {j : Nat} : ∀ {k : Nat}, j ≤ k → digs B k → valD B j ≤ valD B k
  | 0, hj, _ => by obtain rfl : j = 0 := by omega
                   exact Int.le_refl _
  | k + 1, hj, h => by
    by_cases he : j = k + 1
    · rw [he]; exact Int.le_refl _
    · exact Int.le_trans (valD_le (k := k) (by omega) (fun i hi => h i (by omega))) (valD_mono h)
theorem acc_val {B : Nat → Int} : ∀ {k : Nat}, digs B k → acc B k = if valD B k ≤ 4611686018427387904 then some (valD B k) else none
  | 0, _ => rfl
  | k + 1, h => by
    have hk : digs B k := fun j hj => h j (by omega)
    have h0 := valD_pos hk
    have h2 := h k (by omega)
    have hm := valD_mono h
    rw [acc, acc_val hk]
    have e : valD B (k + 1) = 10 * valD B k + (B k - 48) := rfl
    by_cases hv : valD B k ≤ 4611686018427387904
    · rw [if_pos hv]
      show (if B k - 48 < 0 ∨ 9 < B k - 48 ∨ (4611686018427387904 - (B k - 48)) / 10 < valD B k then none else some (10 * valD B k + (B k - 48))) = _
      rw [← e]
      by_cases hw : valD B (k + 1) ≤ 4611686018427387904
      · rw [if_pos hw, if_neg (by omega)]
      · rw [if_neg hw, if_pos (by omega)]
    · rw [if_neg hv, if_neg (by omega)]
theorem acc_digs {B : Nat → Int} : ∀ {k : Nat} {v : Int}, acc B k = some v → digs B k
  | 0, _, _ => fun j hj => by omega
  | k + 1, v, h => by
    rw [acc] at h
    cases hk : acc B k with
    | none => rw [hk] at h; cases h
    | some u =>
      rw [hk] at h
      have h : (if B k - 48 < 0 ∨ 9 < B k - 48 ∨ (4611686018427387904 - (B k - 48)) / 10 < u then none else some (10 * u + (B k - 48))) = some v := h
      by_cases hc : B k - 48 < 0 ∨ 9 < B k - 48 ∨ (4611686018427387904 - (B k - 48)) / 10 < u
      · rw [if_pos hc] at h; cases h
      · intro j hj
        by_cases he : j = k
        · subst he; omega
        · exact acc_digs hk j (by omega)
theorem byte_getD (s : ByteArray) (j : Nat) (h : j < s.size) : byteAt s j = ((s.data.toList[j]'(by cases s; exact h)).toNat : Int) := by
  unfold byteAt
  rw [List.getD_eq_getElem?_getD, List.getElem?_eq_getElem (by cases s; exact h)]
  rfl
theorem parse_val (s : ByteArray) (hd : digs (byteAt s) s.size) : ∀ (n j : Nat), j + n = s.size → valD (byteAt s) j ≤ 18446744073709551615 →
    Lib.parseUintM 18446744073709551615 (valD (byteAt s) j).toNat (s.data.toList.drop j) = if valD (byteAt s) s.size ≤ 18446744073709551615 then .ok (valD (byteAt s) s.size).toNat else .range
  | 0, j, hj, hv => by
    have hl : s.data.toList.length = s.size := by cases s; rfl
    obtain rfl : j = s.size := by omega
    rw [List.drop_eq_nil_of_le (by omega), if_pos hv]
    rfl
  | n + 1, j, hj, hv => by
    have hl : s.data.toList.length = s.size := by cases s; rfl
    have hb := byte_getD s j (by omega)
    have hdj := hd j (by omega)
    have h0 := valD_pos (B := byteAt s) (k := j) (fun i hi => hd i (by omega))
    have ih := parse_val s hd n (j + 1) (by omega)
    have hle := valD_le (B := byteAt s) (j := j + 1) (k := s.size) (by omega) hd
    have e : valD (byteAt s) (j + 1) = 10 * valD (byteAt s) j + (byteAt s j - 48) := rfl
    rw [List.drop_eq_getElem_cons (by omega), Lib.parseUintM]
    obtain ⟨c, hc⟩ : ∃ c : Nat, c = (s.data.toList[j]'(by omega)).toNat := ⟨_, rfl⟩
    rw [← hc] at hb ⊢
    rw [if_pos (by omega)]
    by_cases h1 : 1844674407370955162 ≤ (valD (byteAt s) j).toNat
    · rw [if_pos h1, if_neg (by omega)]
    · rw [if_neg h1]
      by_cases h2 : 18446744073709551615 < (valD (byteAt s) j).toNat * 10 + (c - 48)
      · rw [if_pos h2, if_neg (by omega)]
      · rw [if_neg h2]
        have e2 : (valD (byteAt s) j).toNat * 10 + (c - 48) = (valD (byteAt s) (j + 1)).toNat := by omega
        rw [e2]
        exact ih (by omega)
theorem neg_list {s : ByteArray} (h : isNeg s = true) : s.data.toList = 45 :: (digitsOf s).data.toList := by
  have h0 := neg_size h
  have hb := (of_decide_eq_true h).2
  have hl : s.data.toList.length = s.size := by cases s; rfl
  unfold digitsOf
  rw [if_pos h, ByteArray.data_extract, Array.toList_extract, List.extract_eq_take_drop, List.take_of_length_le (by rw [List.length_drop, hl]; exact Nat.le_refl _)]
  rw [byte_getD s 0 h0] at hb
  have e : s.data.toList = s.data.toList[0] :: s.data.toList.drop 1 := by
    have := List.drop_eq_getElem_cons (l := s.data.toList) (i := 0) (by omega)
    rwa [List.drop_zero] at this
  have e45 : s.data.toList[0]'(by omega) = 45 := by apply UInt8.toNat_inj.1; show _ = 45; omega
  rw [e45] at e
  exact e
theorem ge_list {l : List UInt8} (h : l ≠ []) : Lib.parseUintB 64 l = Lib.parseUintM 18446744073709551615 0 l := by
  unfold Lib.parseUintB
  rw [if_neg h]
theorem uint_val (s : ByteArray) (hd : digs (byteAt s) s.size) (h0 : 0 < s.size) : Lib.parseUintB 64 s.data.toList = if valD (byteAt s) s.size ≤ 18446744073709551615 then .ok (valD (byteAt s) s.size).toNat else .range := by
  have hl : s.data.toList.length = s.size := by cases s; rfl
  rw [ge_list (fun e => by rw [e] at hl; simp at hl; omega)]
  have h := parse_val s hd s.size 0 (by omega) (show (0 : Int) ≤ _ by omega)
  rw [List.drop_zero] at h
  exact h
/-- What strconv.ParseInt says of a word of digits, with or without a hyphen. -/
theorem int_val (s : ByteArray) (hd : digs (byteAt (digitsOf s)) (digitsOf s).size) (h0 : 0 < (digitsOf s).size) :
    Lib.parseIntB 64 s.data.toList = if isNeg s then (if valD (byteAt (digitsOf s)) (digitsOf s).size ≤ 9223372036854775808 then .ok (-(valD (byteAt (digitsOf s)) (digitsOf s).size)) else .range)
      else (if valD (byteAt (digitsOf s)) (digitsOf s).size < 9223372036854775808 then .ok (valD (byteAt (digitsOf s)) (digitsOf s).size) else .range) := by
  have hu := uint_val (digitsOf s) hd h0
  have hp := valD_pos hd
  have p64 : (2 : Nat) ^ (64 - 1) = 9223372036854775808 := by decide
  obtain ⟨V, hV⟩ : ∃ V, V = valD (byteAt (digitsOf s)) (digitsOf s).size := ⟨_, rfl⟩
  rw [← hV] at hu hp ⊢
  cases hn : isNeg s
  · have hD : digitsOf s = s := by unfold digitsOf; rw [hn]; rfl
    rw [hD] at hu hd h0
    have hl : s.data.toList.length = s.size := by cases s; rfl
    have hb := byte_getD s 0 h0
    have h48 := hd 0 h0
    obtain ⟨c, r, hcr⟩ : ∃ c r, s.data.toList = c :: r := by
      cases hs : s.data.toList with
      | nil => rw [hs] at hl; simp at hl; omega
      | cons c r => exact ⟨c, r, rfl⟩
    have hc : (48 : Int) ≤ (c.toNat : Int) := by
      have : s.data.toList[0]'(by omega) = c := by simp [hcr]
      rw [this] at hb; omega
    rw [hcr] at hu ⊢
    unfold Lib.parseIntB
    show (match Lib.parseUintB 64 (if c.toNat = 43 ∨ c.toNat = 45 then r else c :: r) with | .syntax => _ | .range => _ | .ok u => _) = _
    rw [if_neg (by omega), hu]
    by_cases h1 : V ≤ 18446744073709551615
    · rw [if_pos h1]
      show (if ¬ c.toNat = 45 ∧ 2 ^ (64 - 1) ≤ V.toNat then _ else _) = _
      rw [p64]
      by_cases h2 : V < 9223372036854775808
      · rw [if_neg (by omega), if_neg (by omega), if_neg (by omega), if_neg (by simp), if_pos h2]
        congr 1
        omega
      · rw [if_pos (by omega), if_neg (by simp), if_neg h2]
    · rw [if_neg h1, if_neg (by simp), if_neg (by omega)]
  · rw [neg_list hn]
    unfold Lib.parseIntB
    show (match Lib.parseUintB 64 (if (45 : UInt8).toNat = 43 ∨ (45 : UInt8).toNat = 45 then (digitsOf s).data.toList else _) with | .syntax => _ | .range => _ | .ok u => _) = _
    have e45 : (45 : UInt8).toNat = 45 := rfl
    rw [if_pos (Or.inr e45), hu]
    by_cases h1 : V ≤ 18446744073709551615
    · rw [if_pos h1]
      show (if ¬ (45 : UInt8).toNat = 45 ∧ 2 ^ (64 - 1) ≤ V.toNat then _ else _) = _
      rw [p64, e45]
      by_cases h2 : V ≤ 9223372036854775808
      · rw [if_neg (by omega), if_neg (by omega), if_pos rfl, if_pos rfl, if_pos h2]
        congr 1
        omega
      · rw [if_neg (by omega), if_pos (by omega), if_pos rfl, if_neg h2]
    · rw [if_neg h1, if_pos rfl, if_neg (by omega)]
theorem valD_big {B : Nat → Int} : ∀ {k : Nat}, digs B (k + 1) → B 0 ≠ 48 → (10 : Int) ^ k ≤ valD B (k + 1)
  | 0, h, h0 => by
    have := h 0 (by omega)
    show (10 : Int) ^ 0 ≤ 10 * 0 + (B 0 - 48)
    omega
  | k + 1, h, h0 => by
    have ih := valD_big (B := B) (k := k) (fun j hj => h j (by omega)) h0
    have := h (k + 1) (by omega)
    show (10 : Int) ^ (k + 1) ≤ 10 * valD B (k + 1) + (B (k + 1) - 48)
    rw [Int.pow_succ]
    omega
theorem ten19i : (10 : Int) ^ 19 = 10000000000000000000 := by decide +kernel
theorem valD_long {B : Nat → Int} {n : Nat} (h : digs B n) (h0 : B 0 ≠ 48) (hn : 19 < n) : 4611686018427387904 < valD B n := by
  have h1 := valD_big (B := B) (k := 19) (fun j hj => h j (by omega)) h0
  rw [ten19i] at h1
  have h2 := valD_le (B := B) (j := 20) (k := n) (by omega) h
  have h1 : (10000000000000000000 : Int) ≤ valD B 20 := h1
  omega
/-- The word is no digits: neither says a number. -/
theorem numOf_nodigs {s : ByteArray} (h : ¬ (0 < (digitsOf s).size ∧ digs (byteAt (digitsOf s)) (digitsOf s).size)) : numOf s = none := by
  by_cases hc : (digitsOf s).size = 0 ∨ 19 < (digitsOf s).size ∨ (byteAt (digitsOf s) 0 = 48 ∧ ¬ s = ⟨#[48]⟩)
  · exact numOf_none s hc
  · rw [numOf_acc s hc]
    cases ha : acc (byteAt (digitsOf s)) (digitsOf s).size with
    | none => rfl
    | some v => exact absurd ⟨by omega, acc_digs ha⟩ h
theorem one_byte {s : ByteArray} (h : s.size = 1) (hb : byteAt s 0 = 48) : s = ⟨#[48]⟩ := by
  have hl : s.data.toList.length = s.size := by cases s; rfl
  have h1 := byte_getD s 0 (by omega)
  apply ByteArray.ext
  apply Array.ext'
  obtain ⟨c, hc⟩ : ∃ c, s.data.toList = [c] := List.length_eq_one_iff.1 (by omega)
  have e : s.data.toList[0]'(by omega) = c := by simp [hc]
  rw [e] at h1
  rw [hc]
  have : c = 48 := by apply UInt8.toNat_inj.1; show _ = 48; omega
  rw [this]
theorem numOf_zeros {s : ByteArray} (h0 : byteAt (digitsOf s) 0 = 48) (h : isNeg s = true ∨ 1 < (digitsOf s).size) : numOf s = none := by
  apply numOf_none
  refine Or.inr (Or.inr ⟨h0, ?_⟩)
  rintro rfl
  rcases h with h | h
  · exact absurd h (by decide +kernel)
  · exact absurd h (by decide +kernel)
/-- Digits without a zero ahead: both say the value, where it is in range. -/
theorem numOf_digs {s : ByteArray} (h0 : 0 < (digitsOf s).size) (hd : digs (byteAt (digitsOf s)) (digitsOf s).size) (hz : ¬ (byteAt (digitsOf s) 0 = 48 ∧ (isNeg s = true ∨ 1 < (digitsOf s).size))) :
    numOf s = if valD (byteAt (digitsOf s)) (digitsOf s).size ≤ 4611686018427387904 then some (if isNeg s then -(valD (byteAt (digitsOf s)) (digitsOf s).size) else valD (byteAt (digitsOf s)) (digitsOf s).size) else none := by
  by_cases hc : (digitsOf s).size = 0 ∨ 19 < (digitsOf s).size ∨ (byteAt (digitsOf s) 0 = 48 ∧ ¬ s = ⟨#[48]⟩)
  · rw [numOf_none s hc]
    rcases hc with hc | hc | ⟨hc, hs⟩
    · omega
    · have h48 : byteAt (digitsOf s) 0 ≠ 48 := fun e => hz ⟨e, Or.inr (by omega)⟩
      have := valD_long hd h48 hc
      rw [if_neg (by omega)]
    · exfalso
      apply hs
      have hn : isNeg s = false := by
        cases hn : isNeg s
        · rfl
        · exact absurd ⟨hc, Or.inl hn⟩ hz
      have hD : digitsOf s = s := by unfold digitsOf; rw [hn]; rfl
      rw [hD] at hc h0 hz
      exact one_byte (by by_cases h1 : 1 < s.size
                         · exact absurd ⟨hc, Or.inr h1⟩ hz
                         · omega) hc
  · rw [numOf_acc s hc, acc_val hd]
    by_cases hv : valD (byteAt (digitsOf s)) (digitsOf s).size ≤ 4611686018427387904
    · rw [if_pos hv, if_pos hv]
    · rw [if_neg hv, if_neg hv]
/-- A number's text, as the library spells it. -/
theorem decN_digits : ∀ (b n : Nat), n < b → decN n = ⟨(Lib.decDigits n).toArray⟩
  | 0, n, h => by omega
  | b + 1, n, h => by
    by_cases hn : n < 10
    · rw [decN_lt hn, Lib.decDigits, dif_pos hn]
    · rw [decN_ge hn, Lib.decDigits, dif_neg hn, decN_digits b (n / 10) (by omega)]
      apply ByteArray.ext
      rw [ByteArray.data_append]
      apply Array.ext'
      rw [Array.toList_append]
theorem decB_itoa (n : Int) : decB n = ⟨(Lib.itoa n).toArray⟩ := by
  unfold decB Lib.itoa
  by_cases h : n < 0
  · rw [if_pos h, if_pos h, decN_digits _ _ (Nat.lt_succ_self _), show (-n).toNat = n.natAbs by omega]
    apply ByteArray.ext
    rw [ByteArray.data_append]
    apply Array.ext'
    rw [Array.toList_append]
    rfl
  · rw [if_neg h, if_neg h, decN_digits _ _ (Nat.lt_succ_self _)]
end Go.Proofs.YtnaeabfmgfipoaaGreatDoor
namespace Go.Proofs.YtnaeabfmgfipoaaGreatDoor
open Go.RowKit

def inB (x : Int) : Bool := decide (-4611686018427387904 ≤ x ∧ x ≤ 4611686018427387904)
theorem inrange_fn (x : Int) (w : World) : Calls Tryz.prog 33 #[.int .i64 x] w fun e w' => e = .returned (.bool (inB x)) ∧ w = w' := by
  by_cases h1 : -4611686018427387904 ≤ x
  · by_cases h2 : x ≤ 4611686018427387904
    · have hb : Hid (inB x = true) := decide_eq_true ⟨h1, h2⟩
      have d1 : decide (x ≥ -4611686018427387904) = true := decide_eq_true h1
      have d2 : decide (x ≤ 4611686018427387904) = true := decide_eq_true h2
      go_enter Tryz.func33, Tryz.ntmps33
      go_wp2
      go_ret
      rw [hb.out]
      exact ⟨rfl, rfl⟩
    · have hb : Hid (inB x = false) := decide_eq_false (fun h => h2 h.2)
      have d1 : decide (x ≥ -4611686018427387904) = true := decide_eq_true h1
      have d2 : decide (x ≤ 4611686018427387904) = false := decide_eq_false h2
      go_enter Tryz.func33, Tryz.ntmps33
      go_wp2
      go_ret
      rw [hb.out]
      exact ⟨rfl, rfl⟩
  · have hb : Hid (inB x = false) := decide_eq_false (fun h => h1 h.1)
    have d1 : decide (x ≥ -4611686018427387904) = false := decide_eq_false h1
    go_enter Tryz.func33, Tryz.ntmps33
    go_wp2
    go_ret
    rw [hb.out]
    exact ⟨rfl, rfl⟩
def flagW (f : Bool) : ByteArray := if f then yesW else noW
theorem flagword_fn (f : Bool) (w : World) : Calls Tryz.prog 35 #[.bool f] w fun e w' => e = .returned (.string (flagW f)) ∧ w = w' := by
  cases f
  · go_enter Tryz.func35, Tryz.ntmps35
    go_wp2
    go_ret
    exact ⟨rfl, rfl⟩
  · go_enter Tryz.func35, Tryz.ntmps35
    go_wp2
    go_ret
    exact ⟨rfl, rfl⟩
instance digsDec (B : Nat → Int) (k : Nat) : Decidable (digs B k) := inferInstanceAs (Decidable (∀ j, j < k → 48 ≤ B j ∧ B j ≤ 57))
/-- Does a text consist of one or more digits? -/
def digB (s : ByteArray) : Bool := decide (0 < s.size ∧ digs (byteAt s) s.size)
set_option maxHeartbeats 1000000 in
theorem isdigits_fn (s : ByteArray) (w : World) (hs : s.size ≤ 9223372036854775806) : Calls Tryz.prog 47 #[.string s] w fun e w' => e = .returned (.bool (digB s)) ∧ w = w' := by
  go_enter Tryz.func47, Tryz.ntmps47
  go_wp2
  go_loopg [6] (s.size) (fun g i wr => ∃ j : Nat, j ≤ s.size ∧ g = s.size - j ∧ i = .int .i64 j ∧ w = wr ∧ Hid (digs (byteAt s) j))
  case atStart => exact ⟨0, Nat.zero_le _, rfl, rfl, rfl, fun j hj => by omega⟩
  case round =>
    obtain ⟨j, hj, rfl, rfl, rfl, hd⟩ := hrel
    by_cases hlt : j < s.size
    · have hix := index_at s j hlt
      by_cases hb1 : byteAt s j < 48
      · have hf : Hid (digB s = false) := decide_eq_false (fun h => by have := h.2 j hlt; omega)
        go_wp2
        go_ret
        rw [hf.out]
        exact ⟨rfl, rfl⟩
      · by_cases hb2 : 57 < byteAt s j
        · have hf : Hid (digB s = false) := decide_eq_false (fun h => by have := h.2 j hlt; omega)
          go_wp2
          go_ret
          rw [hf.out]
          exact ⟨rfl, rfl⟩
        · have hd2 : Hid (digs (byteAt s) (j + 1)) := fun i hi => by
            by_cases he : i = j
            · subst he; omega
            · exact hd.out i (by omega)
          go_wp2
          go_roundg (s.size - (j + 1))
          case measure => omega
          case rel => exact ⟨j + 1, by omega, rfl, by go_num, rfl, hd2⟩
    · have he := empty_iff s
      have hje : j = s.size := by omega
      by_cases h0 : s.size = 0
      · have hf : Hid (digB s = false) := decide_eq_false (fun h => by omega)
        rw [decide_eq_true h0] at he
        go_wp2
        go_ret
        rw [hf.out]
        exact ⟨rfl, rfl⟩
      · have hf : Hid (digB s = true) := decide_eq_true ⟨by omega, by rw [← hje]; exact hd.out⟩
        rw [decide_eq_false h0] at he
        go_wp2
        go_ret
        rw [hf.out]
        exact ⟨rfl, rfl⟩
theorem linecode_in (k i c n : Int) (f : Bool) (A : Option Addr) (m cp : Nat) (w : World) (hv : Vars w) (hk : ¬ (k < 1 ∨ 7 < k)) :
    Calls Tryz.prog 42 #[.agg #[.int .i64 k, .int .i64 i, .int .i64 c, .int .i64 n, .bool f, .slice A m cp]] w fun e w' => e = .returned (.int .i64 4) ∧ Keep w w' := by
  have hne := kindNm_ne4 hk
  replace hv := Lib.hid hv
  go_enter Tryz.func42, Tryz.ntmps42
  go_wp2_with fail
  refine (kind_name k _ (hv.out.keep (Keep.one _ _))).mono ?_
  rintro e w1 ⟨rfl, rfl⟩
  go_wp2
  go_ret
  exact ⟨rfl, Keep.one _ _⟩
theorem kindNm_zero : kindNm 0 = ⟨#[]⟩ := by decide +kernel
theorem kindNm_none {k : Int} (h : k < 1 ∨ 7 < k) : kindNm k = ⟨#[]⟩ := by
  by_cases h0 : k = 0
  · rw [h0]; exact kindNm_zero
  · exact kindNm_out (by omega)
theorem linecode_out (k i c n : Int) (f : Bool) (A : Option Addr) (m cp : Nat) (w : World) (hv : Vars w) (hk : k < 1 ∨ 7 < k) :
    Calls Tryz.prog 42 #[.agg #[.int .i64 k, .int .i64 i, .int .i64 c, .int .i64 n, .bool f, .slice A m cp]] w fun e w' => e = .returned (.int .i64 1) ∧ Keep w w' := by
  have hkn := Lib.hid (kindNm_none hk)
  replace hv := Lib.hid hv
  go_enter Tryz.func42, Tryz.ntmps42
  go_wp2_with fail
  refine (kind_name k _ (hv.out.keep (Keep.one _ _))).mono ?_
  rintro e w1 ⟨rfl, rfl⟩
  rw [hkn.out]
  go_wp2
  go_ret
  exact ⟨rfl, Keep.one _ _⟩
theorem bytes_eq (a b : ByteArray) : (a.toList == b.toList) = decide (a = b) := by
  rw [ByteArray.toList_eq, ByteArray.toList_eq, Bool.eq_iff_iff]
  simp
  constructor
  · intro h
    exact ByteArray.ext (by first | exact h | exact Array.ext' h)
  · intro h
    rw [h]
theorem kindOf_none {s : ByteArray} (h : ∀ i : Nat, 1 ≤ i → i < 8 → kindNm i ≠ s) : kindOf s = 0 := by
  unfold kindOf
  rw [if_neg (fun e => h 1 (by omega) (by omega) e.symm), if_neg (fun e => h 2 (by omega) (by omega) e.symm), if_neg (fun e => h 3 (by omega) (by omega) e.symm), if_neg (fun e => h 4 (by omega) (by omega) e.symm), if_neg (fun e => h 5 (by omega) (by omega) e.symm), if_neg (fun e => h 6 (by omega) (by omega) e.symm), if_neg (fun e => h 7 (by omega) (by omega) e.symm)]
set_option maxHeartbeats 1000000 in
theorem kindof_fn (s : ByteArray) (w : World) (hv : Vars w) : Calls Tryz.prog 40 #[.string s] w fun e w' => e = .returned (.int .i64 (kindOf s)) ∧ w = w' := by
  replace hv := Lib.hid hv
  go_enter Tryz.func40, Tryz.ntmps40
  go_wp2
  go_loopg [3] (8) (fun g i wr => ∃ j : Nat, 1 ≤ j ∧ j ≤ 8 ∧ g = 9 - j ∧ i = .int .i64 j ∧ w = wr ∧ Hid (∀ i : Nat, 1 ≤ i → i < j → kindNm i ≠ s))
  case atStart => exact ⟨1, by omega, by omega, by omega, rfl, rfl, fun i h1 h2 => by omega⟩
  case round =>
    obtain ⟨j, hj1, hj, rfl, rfl, rfl, hd⟩ := hrel
    by_cases hlt : j < 8
    · have hbe := bytes_eq (kindNm j) s
      by_cases hq : kindNm j = s
      · rw [decide_eq_true hq] at hbe
        have hko : Hid (kindOf s = j) := by rw [← hq]; exact kindOf_name (by omega)
        replace hq := Lib.hid hq
        go_wp2_with fail
        refine (kind_name j _ hv.out).mono ?_
        rintro e w1 ⟨rfl, rfl⟩
        go_wp2
        go_ret
        rw [hko.out]
        exact ⟨rfl, rfl⟩
      · rw [decide_eq_false hq] at hbe
        have hd2 : Hid (∀ i : Nat, 1 ≤ i → i < j + 1 → kindNm i ≠ s) := fun i h1 h2 => by
          by_cases he : i = j
          · subst he; exact hq
          · exact hd.out i h1 (by omega)
        replace hq := Lib.hid hq
        go_wp2_with fail
        refine (kind_name j _ hv.out).mono ?_
        rintro e w1 ⟨rfl, rfl⟩
        go_wp2
        go_roundg (9 - (j + 1))
        case measure => omega
        case rel => exact ⟨j + 1, by omega, by omega, rfl, by go_num, rfl, hd2⟩
    · have hko : Hid (kindOf s = 0) := kindOf_none (fun i h1 h2 => hd.out i h1 (by omega))
      go_wp2
      go_ret
      rw [hko.out]
      exact ⟨rfl, rfl⟩
end Go.Proofs.YtnaeabfmgfipoaaGreatDoor
namespace Go.Proofs
open Go.Shelf
def Tryz.lays169_ren : Go.Shelf.Ren := ⟨fun | 169 => 45 | n => n, fun | 70 => 77 | 9 => 9 | 0 => 0 | 72 => 79 | 37 => 64 | 127 => 94 | 3 => 3 | 5 => 5 | n => n, fun | n => n⟩
theorem Tryz.lays169 : Go.Proofs.Lays.n169 Tryz.prog Tryz.lays169_ren := {
  mixed := by kernel_rfl
  f169 := Tryz.func45.trans (congrArg some (by kernel_rfl))
  t0 := Tryz.underlying0
  a0 := Tryz.isAgg0
  z0 := Tryz.sizeOf0
  v0 := Tryz.zeroValue0
  t3 := Tryz.underlying3
  a3 := Tryz.isAgg3
  z3 := Tryz.sizeOf3
  v3 := Tryz.zeroValue3
  t9 := Tryz.underlying9
  a9 := Tryz.isAgg9
  z9 := Tryz.sizeOf9
  v9 := Tryz.zeroValue9
  t37 := Tryz.underlying64
  a37 := Tryz.isAgg64
  z37 := Tryz.sizeOf64
  v37 := Tryz.zeroValue64
  t70 := Tryz.underlying77
  a70 := Tryz.isAgg77
  z70 := Tryz.sizeOf77
  v70 := Tryz.zeroValue77
  t72 := Tryz.underlying79
  a72 := Tryz.isAgg79
  z72 := Tryz.sizeOf79
  v72 := Tryz.zeroValue79
  t127 := Tryz.underlying94
  a127 := Tryz.isAgg94
  z127 := Tryz.sizeOf94
  v127 := Tryz.zeroValue94 }
theorem Tryz.Builder_Extra_169 : Builder.Extra Tryz.prog Tryz.lays169_ren := {
  sizeBuilder := by kernel_rfl
  liesBuilder := by kernel_rfl
  t5 := Tryz.underlying5
  a5 := Tryz.isAgg5
  z5 := Tryz.sizeOf5
  v5 := Tryz.zeroValue5
  infoByte := by kernel_rfl
  cellsByte := by kernel_rfl
  sizeByte := by kernel_rfl
  neB5 := by decide }
open Go.RowKit in
theorem Tryz.Builder_String_any (B b : Nat) (l : List UInt8) (w : World) (h : Lib.IsBuilder 79 5 B b (Lib.byteCells l) w) (hBw : B ≤ w.heap.size) :
    Calls Tryz.prog 45 #[.pointer (some ⟨b, 0, none⟩)] w fun e w' => e = .returned (.string ⟨l.toArray⟩) ∧ Below B w w' := Any.Builder_String_any Tryz.lays169 Tryz.Builder_Extra_169 B b l w h hBw
def Tryz.lays103_ren : Go.Shelf.Ren := ⟨fun | 103 => 46 | 210 => 58 | 206 => 68 | n => n, fun | 9 => 9 | 4 => 4 | 24 => 36 | 3 => 3 | n => n, fun | n => n⟩
theorem Tryz.lays103 : Go.Proofs.Lays.n103 Tryz.prog Tryz.lays103_ren := {
  mixed := by kernel_rfl
  f103 := Tryz.func46.trans (congrArg some (by kernel_rfl))
  f206 := Tryz.func68.trans (congrArg some (by kernel_rfl))
  f210 := Tryz.func58.trans (congrArg some (by kernel_rfl))
  t3 := Tryz.underlying3
  a3 := Tryz.isAgg3
  z3 := Tryz.sizeOf3
  v3 := Tryz.zeroValue3
  t4 := Tryz.underlying4
  a4 := Tryz.isAgg4
  z4 := Tryz.sizeOf4
  v4 := Tryz.zeroValue4
  t9 := Tryz.underlying9
  a9 := Tryz.isAgg9
  z9 := Tryz.sizeOf9
  v9 := Tryz.zeroValue9
  t24 := Tryz.underlying36
  a24 := Tryz.isAgg36
  z24 := Tryz.sizeOf36
  v24 := Tryz.zeroValue36 }
open Go.RowKit in
theorem Tryz.strings_CutPrefix (s p : ByteArray) (w : World) :
    Calls Tryz.prog 46 #[.string s, .string p] w fun e w' => e = .returned (.tuple #[.string ⟨(Lib.trimPrefix s.data.toList p.data.toList).toArray⟩, .bool (Lib.hasPrefix s.data.toList p.data.toList)]) ∧ w' = w := Any.strings_CutPrefix Tryz.lays103 s p w
def Tryz.lays283_ren : Go.Shelf.Ren := ⟨fun | 283 => 82 | n => n, fun | 3 => 3 | 9 => 9 | 4 => 4 | n => n, fun | n => n⟩
theorem Tryz.lays283 : Go.Proofs.Lays.n283 Tryz.prog Tryz.lays283_ren := {
  mixed := by kernel_rfl
  f283 := Tryz.func82.trans (congrArg some (by kernel_rfl))
  t3 := Tryz.underlying3
  a3 := Tryz.isAgg3
  z3 := Tryz.sizeOf3
  v3 := Tryz.zeroValue3
  t4 := Tryz.underlying4
  a4 := Tryz.isAgg4
  z4 := Tryz.sizeOf4
  v4 := Tryz.zeroValue4
  t9 := Tryz.underlying9
  a9 := Tryz.isAgg9
  z9 := Tryz.sizeOf9
  v9 := Tryz.zeroValue9 }
open Go.Lib in
theorem Tryz.internal_strconv_small (i : Nat) (h : i < 100) (w : World) :
    Calls Tryz.prog 82 #[.int .i64 i] w fun e w' => e = .returned (.string ⟨(Lib.decDigits i).toArray⟩) ∧ w' = w := Any.internal_strconv_small Tryz.lays283 i h w
def Tryz.laysM284_ren : Go.Shelf.Ren := ⟨fun | 284 => 83 | 129 => 97 | 317 => 96 | 318 => 98 | n => n, fun | 53 => 101 | 3 => 3 | 212 => 154 | 0 => 0 | 4 => 4 | 46 => 109 | 5 => 5 | 9 => 9 | n => n, fun | 17 => 6 | n => n⟩
theorem Tryz.laysM284 : Go.Proofs.LaysM.n284 Tryz.prog Tryz.laysM284_ren := {
  mixed := by kernel_rfl
  f129 := Tryz.func97.trans (congrArg some (by kernel_rfl))
  f284 := Tryz.func83.trans (congrArg some (by kernel_rfl))
  f317 := Tryz.func96.trans (congrArg some (by kernel_rfl))
  f318 := Tryz.func98.trans (congrArg some (by kernel_rfl))
  t0 := Tryz.underlying0
  a0 := Tryz.isAgg0
  z0 := Tryz.sizeOf0
  v0 := Tryz.zeroValue0
  t3 := Tryz.underlying3
  a3 := Tryz.isAgg3
  z3 := Tryz.sizeOf3
  v3 := Tryz.zeroValue3
  t4 := Tryz.underlying4
  a4 := Tryz.isAgg4
  z4 := Tryz.sizeOf4
  v4 := Tryz.zeroValue4
  t5 := Tryz.underlying5
  a5 := Tryz.isAgg5
  z5 := Tryz.sizeOf5
  v5 := Tryz.zeroValue5
  t9 := Tryz.underlying9
  a9 := Tryz.isAgg9
  z9 := Tryz.sizeOf9
  v9 := Tryz.zeroValue9
  t46 := Tryz.underlying109
  a46 := Tryz.isAgg109
  z46 := Tryz.sizeOf109
  v46 := Tryz.zeroValue109
  t53 := Tryz.underlying101
  a53 := Tryz.isAgg101
  z53 := Tryz.sizeOf101
  v53 := Tryz.zeroValue101
  t212 := Tryz.underlying154
  a212 := Tryz.isAgg154
  z212 := Tryz.sizeOf154
  v212 := Tryz.zeroValue154
  g17 := by kernel_rfl
  i0 := by kernel_rfl
  i3 := by kernel_rfl
  i4 := by kernel_rfl
  i5 := by kernel_rfl
  i9 := by kernel_rfl
  i46 := by kernel_rfl
  i53 := by kernel_rfl
  i212 := by kernel_rfl
  m17 := by kernel_rfl }
open Go.Lib in
theorem Tryz.internal_strconv_numDigits (u : Nat) (h1 : 1 ≤ u) (h2 : u < 18446744073709551616) (w : World) (htab : Lib.TabIs Tryz.prog w "internal/strconv.uint64pow10" .u64 Lib.pow10Tab) :
    Calls Tryz.prog 83 #[.int .u64 u] w fun e w' => e = .returned (.int .i64 (Lib.nDigits u)) ∧ w' = w := Any.internal_strconv_numDigits Tryz.laysM284 u h1 h2 w htab
def Tryz.lays285_ren : Go.Shelf.Ren := ⟨fun | 285 => 84 | n => n, fun | 37 => 64 | 53 => 101 | 3 => 3 | 4 => 4 | 51 => 136 | 9 => 9 | 5 => 5 | 0 => 0 | n => n, fun | n => n⟩
theorem Tryz.lays285 : Go.Proofs.Lays.n285 Tryz.prog Tryz.lays285_ren := {
  mixed := by kernel_rfl
  f285 := Tryz.func84.trans (congrArg some (by kernel_rfl))
  t0 := Tryz.underlying0
  a0 := Tryz.isAgg0
  z0 := Tryz.sizeOf0
  v0 := Tryz.zeroValue0
  t3 := Tryz.underlying3
  a3 := Tryz.isAgg3
  z3 := Tryz.sizeOf3
  v3 := Tryz.zeroValue3
  t4 := Tryz.underlying4
  a4 := Tryz.isAgg4
  z4 := Tryz.sizeOf4
  v4 := Tryz.zeroValue4
  t5 := Tryz.underlying5
  a5 := Tryz.isAgg5
  z5 := Tryz.sizeOf5
  v5 := Tryz.zeroValue5
  t9 := Tryz.underlying9
  a9 := Tryz.isAgg9
  z9 := Tryz.sizeOf9
  v9 := Tryz.zeroValue9
  t37 := Tryz.underlying64
  a37 := Tryz.isAgg64
  z37 := Tryz.sizeOf64
  v37 := Tryz.zeroValue64
  t51 := Tryz.underlying136
  a51 := Tryz.isAgg136
  z51 := Tryz.sizeOf136
  v51 := Tryz.zeroValue136
  t53 := Tryz.underlying101
  a53 := Tryz.isAgg101
  z53 := Tryz.sizeOf101
  v53 := Tryz.zeroValue101 }
open Go.RowKit Go.Sort Go.Lib in
theorem Tryz.internal_strconv_formatBase10 (blk off cap : Nat) (u : Nat) (d : Array UInt8) (w : World) (hH : Holds (fun (b : UInt8) => Value.int .u8 (b.toNat : Int)) w blk off d) (hu : u < 10 ^ d.size) (hu64 : u < 18446744073709551616) (hsz : d.size < 4611686018427387904) :
    Calls Tryz.prog 84 #[.slice (some ⟨blk, off, none⟩) d.size cap, .int .u64 u] w fun e w' =>
      e = .returned (.tuple #[]) ∧ ∃ (n v' : Nat) (dk : Array UInt8), w' = (putRow (fun (b : UInt8) => Value.int .u8 (b.toNat : Int)) w blk off dk).drewN n ∧ FmtInv d.size u 0 v' dk := Any.internal_strconv_formatBase10 Tryz.lays285 blk off cap u d w hH hu hu64 hsz
def Tryz.laysC174_ren : Go.Shelf.Ren := ⟨fun | 174 => 48 | 247 => 59 | 245 => 60 | 287 => 69 | 279 => 70 | 280 => 71 | 281 => 72 | 282 => 73 | 321 => 86 | 322 => 87 | 316 => 88 | 171 => 90 | 205 => 89 | 243 => 101 | 246 => 104 | 283 => 82 | 284 => 83 | 285 => 84 | 286 => 85 | 129 => 97 | 317 => 96 | 318 => 98 | 319 => 99 | 320 => 100 | 337 => 102 | 338 => 103 | n => n, fun | 9 => 9 | 3 => 3 | 2 => 2 | 75 => 25 | 85 => 86 | 4 => 4 | 167 => 106 | 5 => 5 | 53 => 101 | 175 => 107 | 46 => 109 | 168 => 110 | 37 => 64 | 0 => 0 | 210 => 134 | 21 => 21 | 127 => 94 | 145 => 160 | 143 => 158 | 171 => 126 | 173 => 129 | 212 => 154 | 51 => 136 | 20 => 20 | 213 => 155 | 232 => 163 | 233 => 164 | 80 => 84 | n => n, fun | 15 => 4 | 16 => 5 | 17 => 6 | 18 => 7 | 19 => 8 | n => n⟩
theorem Tryz.laysC174 : Go.Proofs.LaysC.n174 Tryz.prog Tryz.laysC174_ren := {
  mixed := by kernel_rfl
  f129 := Tryz.func97.trans (congrArg some (by kernel_rfl))
  f171 := Tryz.func90.trans (congrArg some (by kernel_rfl))
  f174 := Tryz.func48.trans (congrArg some (by kernel_rfl))
  f205 := Tryz.func89.trans (congrArg some (by kernel_rfl))
  f243 := Tryz.func101.trans (congrArg some (by kernel_rfl))
  f245 := Tryz.func60.trans (congrArg some (by kernel_rfl))
  f246 := Tryz.func104.trans (congrArg some (by kernel_rfl))
  f247 := Tryz.func59.trans (congrArg some (by kernel_rfl))
  f279 := Tryz.func70.trans (congrArg some (by kernel_rfl))
  f280 := Tryz.func71.trans (congrArg some (by kernel_rfl))
  f281 := Tryz.func72.trans (congrArg some (by kernel_rfl))
  f282 := Tryz.func73.trans (congrArg some (by kernel_rfl))
  f283 := Tryz.func82.trans (congrArg some (by kernel_rfl))
  f284 := Tryz.func83.trans (congrArg some (by kernel_rfl))
  f285 := Tryz.func84.trans (congrArg some (by kernel_rfl))
  f286 := Tryz.func85.trans (congrArg some (by kernel_rfl))
  f287 := Tryz.func69.trans (congrArg some (by kernel_rfl))
  f316 := Tryz.func88.trans (congrArg some (by kernel_rfl))
  f317 := Tryz.func96.trans (congrArg some (by kernel_rfl))
  f318 := Tryz.func98.trans (congrArg some (by kernel_rfl))
  f319 := Tryz.func99.trans (congrArg some (by kernel_rfl))
  f320 := Tryz.func100.trans (congrArg some (by kernel_rfl))
  f321 := Tryz.func86.trans (congrArg some (by kernel_rfl))
  f322 := Tryz.func87.trans (congrArg some (by kernel_rfl))
  f337 := Tryz.func102.trans (congrArg some (by kernel_rfl))
  f338 := Tryz.func103.trans (congrArg some (by kernel_rfl))
  t0 := Tryz.underlying0
  a0 := Tryz.isAgg0
  z0 := Tryz.sizeOf0
  v0 := Tryz.zeroValue0
  t2 := Tryz.underlying2
  a2 := Tryz.isAgg2
  z2 := Tryz.sizeOf2
  v2 := Tryz.zeroValue2
  t3 := Tryz.underlying3
  a3 := Tryz.isAgg3
  z3 := Tryz.sizeOf3
  v3 := Tryz.zeroValue3
  t4 := Tryz.underlying4
  a4 := Tryz.isAgg4
  z4 := Tryz.sizeOf4
  v4 := Tryz.zeroValue4
  t5 := Tryz.underlying5
  a5 := Tryz.isAgg5
  z5 := Tryz.sizeOf5
  v5 := Tryz.zeroValue5
  t9 := Tryz.underlying9
  a9 := Tryz.isAgg9
  z9 := Tryz.sizeOf9
  v9 := Tryz.zeroValue9
  t20 := Tryz.underlying20
  a20 := Tryz.isAgg20
  z20 := Tryz.sizeOf20
  v20 := Tryz.zeroValue20
  t21 := Tryz.underlying21
  a21 := Tryz.isAgg21
  z21 := Tryz.sizeOf21
  v21 := Tryz.zeroValue21
  t37 := Tryz.underlying64
  a37 := Tryz.isAgg64
  z37 := Tryz.sizeOf64
  v37 := Tryz.zeroValue64
  t46 := Tryz.underlying109
  a46 := Tryz.isAgg109
  z46 := Tryz.sizeOf109
  v46 := Tryz.zeroValue109
  t51 := Tryz.underlying136
  a51 := Tryz.isAgg136
  z51 := Tryz.sizeOf136
  v51 := Tryz.zeroValue136
  t53 := Tryz.underlying101
  a53 := Tryz.isAgg101
  z53 := Tryz.sizeOf101
  v53 := Tryz.zeroValue101
  t75 := Tryz.underlying25
  a75 := Tryz.isAgg25
  z75 := Tryz.sizeOf25
  v75 := Tryz.zeroValue25
  t85 := Tryz.underlying86
  a85 := Tryz.isAgg86
  z85 := Tryz.sizeOf86
  v85 := Tryz.zeroValue86
  t127 := Tryz.underlying94
  a127 := Tryz.isAgg94
  z127 := Tryz.sizeOf94
  v127 := Tryz.zeroValue94
  t143 := Tryz.underlying158
  a143 := Tryz.isAgg158
  z143 := Tryz.sizeOf158
  v143 := Tryz.zeroValue158
  t145 := Tryz.underlying160
  a145 := Tryz.isAgg160
  z145 := Tryz.sizeOf160
  v145 := Tryz.zeroValue160
  t167 := Tryz.underlying106
  a167 := Tryz.isAgg106
  z167 := Tryz.sizeOf106
  v167 := Tryz.zeroValue106
  t168 := Tryz.underlying110
  a168 := Tryz.isAgg110
  z168 := Tryz.sizeOf110
  v168 := Tryz.zeroValue110
  t171 := Tryz.underlying126
  a171 := Tryz.isAgg126
  z171 := Tryz.sizeOf126
  v171 := Tryz.zeroValue126
  t173 := Tryz.underlying129
  a173 := Tryz.isAgg129
  z173 := Tryz.sizeOf129
  v173 := Tryz.zeroValue129
  t175 := Tryz.underlying107
  a175 := Tryz.isAgg107
  z175 := Tryz.sizeOf107
  v175 := Tryz.zeroValue107
  t210 := Tryz.underlying134
  a210 := Tryz.isAgg134
  z210 := Tryz.sizeOf134
  v210 := Tryz.zeroValue134
  t212 := Tryz.underlying154
  a212 := Tryz.isAgg154
  z212 := Tryz.sizeOf154
  v212 := Tryz.zeroValue154
  t213 := Tryz.underlying155
  a213 := Tryz.isAgg155
  z213 := Tryz.sizeOf155
  t232 := Tryz.underlying163
  a232 := Tryz.isAgg163
  z232 := Tryz.sizeOf163
  v232 := Tryz.zeroValue163
  t233 := Tryz.underlying164
  a233 := Tryz.isAgg164
  z233 := Tryz.sizeOf164
  v233 := Tryz.zeroValue164
  g15 := by kernel_rfl
  g16 := by kernel_rfl
  g17 := by kernel_rfl
  g18 := by kernel_rfl
  g19 := by kernel_rfl
  t80 := Tryz.underlying84
  a80 := Tryz.isAgg84
  z80 := Tryz.sizeOf84
  v80 := Tryz.zeroValue84
  i0 := by kernel_rfl
  i2 := by kernel_rfl
  i3 := by kernel_rfl
  i4 := by kernel_rfl
  i5 := by kernel_rfl
  i9 := by kernel_rfl
  i20 := by kernel_rfl
  i21 := by kernel_rfl
  i37 := by kernel_rfl
  i46 := by kernel_rfl
  i51 := by kernel_rfl
  i53 := by kernel_rfl
  i75 := by kernel_rfl
  i80 := by kernel_rfl
  i85 := by kernel_rfl
  i127 := by kernel_rfl
  i143 := by kernel_rfl
  i145 := by kernel_rfl
  i167 := by kernel_rfl
  i168 := by kernel_rfl
  i171 := by kernel_rfl
  i173 := by kernel_rfl
  i175 := by kernel_rfl
  i210 := by kernel_rfl
  i212 := by kernel_rfl
  i232 := by kernel_rfl
  i233 := by kernel_rfl
  m15 := by kernel_rfl
  m16 := by kernel_rfl
  m17 := by kernel_rfl
  m18 := by kernel_rfl
  m19 := by kernel_rfl
  c0 := by kernel_rfl
  c2 := by kernel_rfl
  c3 := by kernel_rfl
  c4 := by kernel_rfl
  c5 := by kernel_rfl
  c9 := by kernel_rfl
  c20 := by kernel_rfl
  c21 := by kernel_rfl
  c37 := by kernel_rfl
  c46 := by kernel_rfl
  c51 := by kernel_rfl
  c53 := by kernel_rfl
  c75 := by kernel_rfl
  c80 := by kernel_rfl
  c85 := by kernel_rfl
  c127 := by kernel_rfl
  c143 := by kernel_rfl
  c145 := by kernel_rfl
  c167 := by kernel_rfl
  c168 := by kernel_rfl
  c171 := by kernel_rfl
  c173 := by kernel_rfl
  c175 := by kernel_rfl
  c210 := by kernel_rfl
  c212 := by kernel_rfl
  c213 := by kernel_rfl
  c232 := by kernel_rfl
  c233 := by kernel_rfl }
open Go.RowKit in
theorem Tryz.strconv_ParseInt_10_at64_ok (s : ByteArray) (hmax : s.size ≤ 9223372036854775806) (v : Int) (h : Lib.parseIntB 64 s.data.toList = .ok v) (w : World) :
    Calls Tryz.prog 48 #[.string s, .int .i64 10, .int .i64 64] w fun e w' => e = .returned (.tuple #[.int .i64 v, .nilIface]) ∧ (w' = w ∨ ∃ t, w' = Lib.bytesWorld w 5 t) := Any.strconv_ParseInt_10_at64_ok Tryz.laysC174 s hmax v h w
open Go.RowKit in
theorem Tryz.strconv_ParseInt_10_at64_range_var (s : ByteArray) (hlim : s.size ≤ 281474976710656) (h : Lib.parseIntB 64 s.data.toList = .range) (tp : TypeId) (p : Value) (w : World) (hvar : w.var? Tryz.prog "strconv.ErrRange" = some #[.iface tp p]) :
    Calls Tryz.prog 48 #[.string s, .int .i64 10, .int .i64 64] w fun e w' => ∃ N, e = .returned (.tuple #[.int .i64 (Lib.intSat 64 s.data.toList), .iface 110 (.pointer (some ⟨N, 0, none⟩))]) ∧ w.heap.size ≤ N ∧ w'.heap[N]? = some (.cells #[.string ⟨#[80, 97, 114, 115, 101, 73, 110, 116]⟩, .string s, .iface tp p] 134 (0, 0)) ∧ Below w.heap.size w w' := Any.strconv_ParseInt_10_at64_range_var Tryz.laysC174 s hlim h tp p w hvar
def Tryz.lays219_ren : Go.Shelf.Ren := ⟨fun | 219 => 62 | 217 => 74 | 225 => 75 | 224 => 76 | 267 => 77 | 266 => 91 | 314 => 92 | n => n, fun | 9 => 9 | 3 => 3 | 4 => 4 | 5 => 5 | 46 => 109 | 146 => 137 | 51 => 136 | n => n, fun | 1 => 2 | n => n⟩
theorem Tryz.lays219 : Go.Proofs.Lays.n219 Tryz.prog Tryz.lays219_ren := {
  mixed := by kernel_rfl
  f217 := Tryz.func74.trans (congrArg some (by kernel_rfl))
  f219 := Tryz.func62.trans (congrArg some (by kernel_rfl))
  f224 := Tryz.func76.trans (congrArg some (by kernel_rfl))
  f225 := Tryz.func75.trans (congrArg some (by kernel_rfl))
  f266 := Tryz.func91.trans (congrArg some (by kernel_rfl))
  f267 := Tryz.func77.trans (congrArg some (by kernel_rfl))
  f314 := Tryz.func92.trans (congrArg some (by kernel_rfl))
  t3 := Tryz.underlying3
  a3 := Tryz.isAgg3
  z3 := Tryz.sizeOf3
  v3 := Tryz.zeroValue3
  t4 := Tryz.underlying4
  a4 := Tryz.isAgg4
  z4 := Tryz.sizeOf4
  v4 := Tryz.zeroValue4
  t5 := Tryz.underlying5
  a5 := Tryz.isAgg5
  z5 := Tryz.sizeOf5
  v5 := Tryz.zeroValue5
  t9 := Tryz.underlying9
  a9 := Tryz.isAgg9
  z9 := Tryz.sizeOf9
  v9 := Tryz.zeroValue9
  t46 := Tryz.underlying109
  a46 := Tryz.isAgg109
  z46 := Tryz.sizeOf109
  v46 := Tryz.zeroValue109
  t51 := Tryz.underlying136
  a51 := Tryz.isAgg136
  z51 := Tryz.sizeOf136
  v51 := Tryz.zeroValue136
  t146 := Tryz.underlying137
  a146 := Tryz.isAgg137
  z146 := Tryz.sizeOf137
  v146 := Tryz.zeroValue137
  g1 := by kernel_rfl }
open Go.RowKit Go.Lib in
theorem Tryz.stringslite_Index_one (s : ByteArray) (c : UInt8) (w : World) :
    Calls Tryz.prog 62 #[.string s, .string ⟨#[c]⟩] w fun e w' => e = .returned (.int .i64 (Lib.indexByte s.data.toList c)) ∧ w' = w := Any.stringslite_Index_one Tryz.lays219 s c w
def Tryz.laysM176_ren : Go.Shelf.Ren := ⟨fun | 176 => 34 | 249 => 55 | 288 => 66 | 283 => 82 | 284 => 83 | 285 => 84 | 286 => 85 | 129 => 97 | 317 => 96 | 318 => 98 | 319 => 99 | 320 => 100 | 337 => 102 | 338 => 103 | n => n, fun | 37 => 64 | 2 => 2 | 3 => 3 | 53 => 101 | 4 => 4 | 9 => 9 | 171 => 126 | 0 => 0 | 173 => 129 | 212 => 154 | 51 => 136 | 5 => 5 | 20 => 20 | 213 => 155 | 46 => 109 | 232 => 163 | 233 => 164 | n => n, fun | 17 => 6 | 18 => 7 | 19 => 8 | n => n⟩
theorem Tryz.laysM176 : Go.Proofs.LaysM.n176 Tryz.prog Tryz.laysM176_ren := {
  mixed := by kernel_rfl
  f129 := Tryz.func97.trans (congrArg some (by kernel_rfl))
  f176 := Tryz.func34.trans (congrArg some (by kernel_rfl))
  f249 := Tryz.func55.trans (congrArg some (by kernel_rfl))
  f283 := Tryz.func82.trans (congrArg some (by kernel_rfl))
  f284 := Tryz.func83.trans (congrArg some (by kernel_rfl))
  f285 := Tryz.func84.trans (congrArg some (by kernel_rfl))
  f286 := Tryz.func85.trans (congrArg some (by kernel_rfl))
  f288 := Tryz.func66.trans (congrArg some (by kernel_rfl))
  f317 := Tryz.func96.trans (congrArg some (by kernel_rfl))
  f318 := Tryz.func98.trans (congrArg some (by kernel_rfl))
  f319 := Tryz.func99.trans (congrArg some (by kernel_rfl))
  f320 := Tryz.func100.trans (congrArg some (by kernel_rfl))
  f337 := Tryz.func102.trans (congrArg some (by kernel_rfl))
  f338 := Tryz.func103.trans (congrArg some (by kernel_rfl))
  t0 := Tryz.underlying0
  a0 := Tryz.isAgg0
  z0 := Tryz.sizeOf0
  v0 := Tryz.zeroValue0
  t2 := Tryz.underlying2
  a2 := Tryz.isAgg2
  z2 := Tryz.sizeOf2
  v2 := Tryz.zeroValue2
  t3 := Tryz.underlying3
  a3 := Tryz.isAgg3
  z3 := Tryz.sizeOf3
  v3 := Tryz.zeroValue3
  t4 := Tryz.underlying4
  a4 := Tryz.isAgg4
  z4 := Tryz.sizeOf4
  v4 := Tryz.zeroValue4
  t5 := Tryz.underlying5
  a5 := Tryz.isAgg5
  z5 := Tryz.sizeOf5
  v5 := Tryz.zeroValue5
  t9 := Tryz.underlying9
  a9 := Tryz.isAgg9
  z9 := Tryz.sizeOf9
  v9 := Tryz.zeroValue9
  t20 := Tryz.underlying20
  a20 := Tryz.isAgg20
  z20 := Tryz.sizeOf20
  v20 := Tryz.zeroValue20
  t37 := Tryz.underlying64
  a37 := Tryz.isAgg64
  z37 := Tryz.sizeOf64
  v37 := Tryz.zeroValue64
  t46 := Tryz.underlying109
  a46 := Tryz.isAgg109
  z46 := Tryz.sizeOf109
  v46 := Tryz.zeroValue109
  t51 := Tryz.underlying136
  a51 := Tryz.isAgg136
  z51 := Tryz.sizeOf136
  v51 := Tryz.zeroValue136
  t53 := Tryz.underlying101
  a53 := Tryz.isAgg101
  z53 := Tryz.sizeOf101
  v53 := Tryz.zeroValue101
  t171 := Tryz.underlying126
  a171 := Tryz.isAgg126
  z171 := Tryz.sizeOf126
  v171 := Tryz.zeroValue126
  t173 := Tryz.underlying129
  a173 := Tryz.isAgg129
  z173 := Tryz.sizeOf129
  v173 := Tryz.zeroValue129
  t212 := Tryz.underlying154
  a212 := Tryz.isAgg154
  z212 := Tryz.sizeOf154
  v212 := Tryz.zeroValue154
  t213 := Tryz.underlying155
  a213 := Tryz.isAgg155
  z213 := Tryz.sizeOf155
  t232 := Tryz.underlying163
  a232 := Tryz.isAgg163
  z232 := Tryz.sizeOf163
  v232 := Tryz.zeroValue163
  t233 := Tryz.underlying164
  a233 := Tryz.isAgg164
  z233 := Tryz.sizeOf164
  v233 := Tryz.zeroValue164
  g17 := by kernel_rfl
  g18 := by kernel_rfl
  g19 := by kernel_rfl
  i0 := by kernel_rfl
  i2 := by kernel_rfl
  i3 := by kernel_rfl
  i4 := by kernel_rfl
  i5 := by kernel_rfl
  i9 := by kernel_rfl
  i20 := by kernel_rfl
  i37 := by kernel_rfl
  i46 := by kernel_rfl
  i51 := by kernel_rfl
  i53 := by kernel_rfl
  i171 := by kernel_rfl
  i173 := by kernel_rfl
  i212 := by kernel_rfl
  i232 := by kernel_rfl
  i233 := by kernel_rfl
  m17 := by kernel_rfl
  m18 := by kernel_rfl
  m19 := by kernel_rfl }
open Go.RowKit Go.Sort Go.Lib in
theorem Tryz.strconv_AppendInt_10 (B n : Nat) (i : Int) (h0 : -9223372036854775808 ≤ i) (h1 : i ≤ 9223372036854775807) (sv : Value) (xs : List Value) (w : World) (hown : w.ownsRow B 5 1 sv n xs) (hBw : B ≤ w.heap.size) (hlim : n + 21 ≤ 140737488355328) (htab : Lib.TabBelow Tryz.prog B w "internal/strconv.uint64pow10" .u64 Lib.pow10Tab) :
    Calls Tryz.prog 34 #[sv, .int .i64 i, .int .i64 10] w fun e w' => ∃ v', e = .returned v' ∧ w'.ownsRow B 5 1 v' (n + (Lib.itoa i).length) (xs ++ Lib.byteCells (Lib.itoa i)) ∧ Below B w w' ∧ Lib.OthersKept 5 none w w' := Any.strconv_AppendInt_10 Tryz.laysM176 B n i h0 h1 sv xs w hown hBw hlim htab
end Go.Proofs
namespace Go.Proofs.YtnaeabfmgfipoaaGreatDoor
open Go.RowKit

theorem var_keep {P : Program} {w w' : World} {n : String} {cs : Array Value} (k : Keep w w') (h : w.var? P n = some cs) : w'.var? P n = some cs := by
  unfold World.var? at h ⊢
  cases hg : P.globalNamed n with
  | none => rw [hg] at h; cases h
  | some g =>
    rw [hg] at h
    simp only [Option.bind_some] at h ⊢
    cases hb : w.heap[g]? with
    | none => rw [hb] at h; cases h
    | some o =>
      rw [hb] at h
      rw [k.block hb]
      exact h
/-- The table of the fields of each kind. -/
def rowF (k j : Nat) : Int := ([0, 0, 0, 0, 1, 3, 4, 0, 1, 5, 0, 0, 1, 0, 0, 0, 1, 2, 3, 5, 1, 0, 0, 0, 3, 0, 0, 0, 0, 0, 0, 0] : List Int).getD (4 * k + j) 0
/-- The listed variables hold their own. -/
structure V4 (w : World) : Prop where
  base : Vars w
  rng : ∃ tp p, w.var? Tryz.prog "strconv.ErrRange" = some #[.iface tp p]
  tab : Lib.TabIs Tryz.prog w "internal/strconv.uint64pow10" .u64 Lib.pow10Tab
  fields : ∀ k j : Nat, k < 8 → j < 4 → w.cell? ⟨0, 4 * k + j, none⟩ = some (.int .i64 (rowF k j))
theorem V4.keep {w w' : World} (h : V4 w) (k : Keep w w') : V4 w' where
  base := h.base.keep k
  rng := by obtain ⟨tp, p, e⟩ := h.rng; exact ⟨tp, p, var_keep k e⟩
  tab := var_keep k h.tab
  fields := fun i j hi hj => k.cell (h.fields i j hi hj)
theorem has_neg (s : ByteArray) : Lib.hasPrefix s.data.toList [45] = isNeg s := by
  have hl : s.data.toList.length = s.size := by cases s; rfl
  unfold Lib.hasPrefix isNeg byteAt
  cases hs : s.data.toList with
  | nil => rw [hs] at hl; have : s.size = 0 := hl.symm; rw [this]; rfl
  | cons c r =>
    have h0 : 0 < s.size := by rw [hs] at hl; simp at hl; omega
    rw [Bool.eq_iff_iff]
    simp [List.isPrefixOf, h0]
    constructor
    · intro e; rw [← e]; rfl
    · intro e
      have e : c.toNat = 45 := by omega
      apply UInt8.toNat_inj.1
      exact e.symm
theorem trim_neg (s : ByteArray) : (⟨(Lib.trimPrefix s.data.toList [45]).toArray⟩ : ByteArray) = digitsOf s := by
  have hl : s.data.toList.length = s.size := by cases s; rfl
  unfold Lib.trimPrefix
  rw [has_neg]
  unfold digitsOf
  cases hn : isNeg s
  · rw [if_neg (by simp), if_neg (by simp)]
  · rw [if_pos rfl, if_pos rfl]
    apply ByteArray.ext
    apply Array.ext'
    rw [ByteArray.data_extract, Array.toList_extract, List.extract_eq_take_drop, List.take_of_length_le (by rw [List.length_drop, hl]; exact Nat.le_refl _)]
    rfl
theorem cutneg_fn (s : ByteArray) (w : World) : Calls Tryz.prog 46 #[.string s, .string ⟨#[45]⟩] w fun e w' => e = .returned (.tuple #[.string (digitsOf s), .bool (isNeg s)]) ∧ w = w' := by
  refine (Tryz.strings_CutPrefix s ⟨#[45]⟩ w).mono ?_
  rintro e w' ⟨rfl, rfl⟩
  have h1 := has_neg s
  have h2 := trim_neg s
  refine ⟨?_, rfl⟩
  rw [← h1, ← h2]
theorem digB_yes {s : ByteArray} (h : digB s = true) : 0 < s.size ∧ digs (byteAt s) s.size := of_decide_eq_true h
theorem digB_no {s : ByteArray} (h : digB s = false) : ¬ (0 < s.size ∧ digs (byteAt s) s.size) := of_decide_eq_false h
def RetK (r : Option Int) (w : World) (e : Ending) (w' : World) : Prop := e = .returned (.tuple #[.int .i64 (valO r), .bool r.isSome]) ∧ Keep w w'
/-- strconv.ParseInt at a word of digits: the value, or an error; whether it is in range decides. -/
def Says (V : Int) (o : Option Int) : Prop := o = if -4611686018427387904 ≤ V ∧ V ≤ 4611686018427387904 then some V else none
theorem snum_no (s D : ByteArray) (w : World) (hD : digitsOf s = D) (hs : D.size ≤ 9223372036854775806) (h : digB D = false) : Calls Tryz.prog 19 #[.string s] w (RetK none w) := by
  go_enter Tryz.func19, Tryz.ntmps19
  go_wp2_with fail
  refine (cutneg_fn s w).mono ?_
  rintro e w1 ⟨rfl, rfl⟩
  rw [hD]
  go_wp2_with fail
  refine (isdigits_fn D w hs).mono ?_
  rintro e w1 ⟨rfl, rfl⟩
  rw [h]
  go_wp2
  go_ret2
  exact ⟨rfl, Keep.refl _⟩
theorem snum_zero (s D : ByteArray) (w : World) (hD : digitsOf s = D) (hs : D.size ≤ 9223372036854775806) (h : digB D = true) (hz : byteAt D 0 = 48) (hn : isNeg s = true ∨ 1 < D.size) : Calls Tryz.prog 19 #[.string s] w (RetK none w) := by
  have h0 := (digB_yes h).1
  have hix := index_at D 0 h0
  rw [hz] at hix
  have hix : ∀ w, (Instr.index 9 (.string D) (.int .i64 0)).run Tryz.prog w = .ok (.int .u8 48) w := hix
  rcases Bool.eq_false_or_eq_true (isNeg s) with hg | hg
  · go_enter Tryz.func19, Tryz.ntmps19
    go_wp2_with fail
    refine (cutneg_fn s w).mono ?_
    rintro e w1 ⟨rfl, rfl⟩
    rw [hD, hg]
    go_wp2_with fail
    refine (isdigits_fn D w hs).mono ?_
    rintro e w1 ⟨rfl, rfl⟩
    rw [h]
    go_wp2
    go_ret2
    exact ⟨rfl, Keep.refl _⟩
  · have hn : 1 < D.size := by rcases hn with hn | hn; rw [hg] at hn; cases hn; exact hn
    have hd : decide ((D.size : Int) > 1) = true := decide_eq_true (by omega)
    go_enter Tryz.func19, Tryz.ntmps19
    go_wp2_with fail
    refine (cutneg_fn s w).mono ?_
    rintro e w1 ⟨rfl, rfl⟩
    rw [hD, hg]
    go_wp2_with fail
    refine (isdigits_fn D w hs).mono ?_
    rintro e w1 ⟨rfl, rfl⟩
    rw [h]
    go_wp2
    go_ret2
    exact ⟨rfl, Keep.refl _⟩
/-- Behind the tests: what ParseInt leaves decides. -/
theorem snum_rest (s D : ByteArray) (w : World) (hD : digitsOf s = D) (hs : D.size ≤ 9223372036854775806) (h : digB D = true) (hz : ¬ (byteAt D 0 = 48 ∧ (isNeg s = true ∨ 1 < D.size))) (v : Int) (r : Option Int) (hr : r = if inB v then some v else none) (hP : Calls Tryz.prog 48 #[.string s, .int .i64 10, .int .i64 64] w fun e w' => e = .returned (.tuple #[.int .i64 v, .nilIface]) ∧ Keep w w') :
    Calls Tryz.prog 19 #[.string s] w (RetK r w) := by
  replace hr := Lib.hid hr
  have h0 := (digB_yes h).1
  have hix := index_at D 0 h0
  have hix : ∀ w, (Instr.index 9 (.string D) (.int .i64 0)).run Tryz.prog w = .ok (.int .u8 (byteAt D 0)) w := hix
  replace hP := Lib.hid hP
  by_cases h48 : byteAt D 0 = 48
  · have hg : isNeg s = false := by
      cases hg : isNeg s
      · rfl
      · exact absurd ⟨h48, Or.inl hg⟩ hz
    have hn : ¬ 1 < D.size := fun e => hz ⟨h48, Or.inr e⟩
    have hd : decide ((D.size : Int) > 1) = false := decide_eq_false (by omega)
    rw [h48] at hix
    go_enter Tryz.func19, Tryz.ntmps19
    go_wp2_with fail
    refine (cutneg_fn s w).mono ?_
    rintro e w1 ⟨rfl, rfl⟩
    rw [hD, hg]
    go_wp2_with fail
    refine (isdigits_fn D w hs).mono ?_
    rintro e w1 ⟨rfl, rfl⟩
    rw [h]
    go_wp2_with fail
    refine hP.out.mono ?_
    rintro e w1 ⟨rfl, k1⟩
    replace k1 := Lib.hid k1
    go_wp2_with fail
    refine (inrange_fn v w1).mono ?_
    rintro e w2 ⟨rfl, rfl⟩
    cases hb : inB v
    all_goals
      go_wp2
      go_ret2
      rw [hr.out, hb]
      exact ⟨rfl, k1.out⟩
  · have hbb : (byteAt D 0 == 48) = false := beq_eq_false_iff_ne.2 h48
    go_enter Tryz.func19, Tryz.ntmps19
    go_wp2_with fail
    refine (cutneg_fn s w).mono ?_
    rintro e w1 ⟨rfl, rfl⟩
    rw [hD]
    go_wp2_with fail
    refine (isdigits_fn D w hs).mono ?_
    rintro e w1 ⟨rfl, rfl⟩
    rw [h]
    go_wp2_with fail
    refine hP.out.mono ?_
    rintro e w1 ⟨rfl, k1⟩
    replace k1 := Lib.hid k1
    go_wp2_with fail
    refine (inrange_fn v w1).mono ?_
    rintro e w2 ⟨rfl, rfl⟩
    cases hb : inB v
    all_goals
      go_wp2
      go_ret2
      rw [hr.out, hb]
      exact ⟨rfl, k1.out⟩
theorem snum_range (s D : ByteArray) (w : World) (hD : digitsOf s = D) (hs : D.size ≤ 9223372036854775806) (h : digB D = true) (hz : ¬ (byteAt D 0 = 48 ∧ (isNeg s = true ∨ 1 < D.size))) (hP : Calls Tryz.prog 48 #[.string s, .int .i64 10, .int .i64 64] w fun e w' => (∃ v T N, e = .returned (.tuple #[.int .i64 v, .iface T (.pointer (some ⟨N, 0, none⟩))])) ∧ Keep w w') :
    Calls Tryz.prog 19 #[.string s] w (RetK none w) := by
  have h0 := (digB_yes h).1
  have hix := index_at D 0 h0
  have hix : ∀ w, (Instr.index 9 (.string D) (.int .i64 0)).run Tryz.prog w = .ok (.int .u8 (byteAt D 0)) w := hix
  replace hP := Lib.hid hP
  by_cases h48 : byteAt D 0 = 48
  · have hg : isNeg s = false := by
      cases hg : isNeg s
      · rfl
      · exact absurd ⟨h48, Or.inl hg⟩ hz
    have hn : ¬ 1 < D.size := fun e => hz ⟨h48, Or.inr e⟩
    have hd : decide ((D.size : Int) > 1) = false := decide_eq_false (by omega)
    rw [h48] at hix
    go_enter Tryz.func19, Tryz.ntmps19
    go_wp2_with fail
    refine (cutneg_fn s w).mono ?_
    rintro e w1 ⟨rfl, rfl⟩
    rw [hD, hg]
    go_wp2_with fail
    refine (isdigits_fn D w hs).mono ?_
    rintro e w1 ⟨rfl, rfl⟩
    rw [h]
    go_wp2_with fail
    refine hP.out.mono ?_
    rintro e w1 ⟨⟨v, T, N, rfl⟩, k1⟩
    replace k1 := Lib.hid k1
    go_wp2
    go_ret2
    exact ⟨rfl, k1.out⟩
  · have hbb : (byteAt D 0 == 48) = false := beq_eq_false_iff_ne.2 h48
    go_enter Tryz.func19, Tryz.ntmps19
    go_wp2_with fail
    refine (cutneg_fn s w).mono ?_
    rintro e w1 ⟨rfl, rfl⟩
    rw [hD]
    go_wp2_with fail
    refine (isdigits_fn D w hs).mono ?_
    rintro e w1 ⟨rfl, rfl⟩
    rw [h]
    go_wp2_with fail
    refine hP.out.mono ?_
    rintro e w1 ⟨⟨v, T, N, rfl⟩, k1⟩
    replace k1 := Lib.hid k1
    go_wp2
    go_ret2
    exact ⟨rfl, k1.out⟩
theorem digitsOf_le (s : ByteArray) : (digitsOf s).size ≤ s.size := by
  unfold digitsOf
  split
  · rw [ByteArray.size_extract]; omega
  · exact Nat.le_refl _
theorem snumber_fn (s : ByteArray) (w : World) (hv : V4 w) (hs : s.size ≤ 281474976710656) : Calls Tryz.prog 19 #[.string s] w (RetK (numOf s) w) := by
  have hle := digitsOf_le s
  cases hb : digB (digitsOf s)
  · rw [numOf_nodigs (digB_no hb)]
    exact snum_no s _ w rfl (by omega) hb
  · by_cases hz : byteAt (digitsOf s) 0 = 48 ∧ (isNeg s = true ∨ 1 < (digitsOf s).size)
    · rw [numOf_zeros hz.1 hz.2]
      exact snum_zero s _ w rfl (by omega) hb hz.1 hz.2
    · obtain ⟨h0, hd⟩ := digB_yes hb
      have hi := int_val s hd h0
      have hn := numOf_digs h0 hd hz
      have hp := valD_pos hd
      obtain ⟨V, hV⟩ : ∃ V, V = valD (byteAt (digitsOf s)) (digitsOf s).size := ⟨_, rfl⟩
      rw [← hV] at hi hn hp
      have hok : ∀ v, Lib.parseIntB 64 s.data.toList = .ok v → Calls Tryz.prog 19 #[.string s] w (RetK (if inB v then some v else none) w) := fun v hv1 => by
        refine snum_rest s _ w rfl (by omega) hb hz v _ rfl ((Tryz.strconv_ParseInt_10_at64_ok s (by omega) v hv1 w).mono ?_)
        rintro e w' ⟨rfl, rfl | ⟨t, rfl⟩⟩
        · exact ⟨rfl, Keep.refl _⟩
        · exact ⟨rfl, Lib.bytesWorld_below _ _ _⟩
      have hrg : Lib.parseIntB 64 s.data.toList = .range → Calls Tryz.prog 19 #[.string s] w (RetK none w) := fun hv1 => by
        obtain ⟨tp, p, hvar⟩ := hv.rng
        refine snum_range s _ w rfl (by omega) hb hz ((Tryz.strconv_ParseInt_10_at64_range_var s (by omega) hv1 tp p w hvar).mono ?_)
        rintro e w' ⟨M, rfl, _, _, hk⟩
        exact ⟨⟨_, _, _, rfl⟩, hk⟩
      cases hg : isNeg s
      · rw [hg] at hi hn
        simp only [Bool.false_eq_true, if_false] at hi hn
        by_cases h1 : V < 9223372036854775808
        · rw [if_pos h1] at hi
          have := hok V hi
          by_cases h2 : V ≤ 4611686018427387904
          · rw [if_pos h2] at hn
            rw [show inB V = true from decide_eq_true ⟨by omega, h2⟩, if_pos rfl] at this
            rw [hn]; exact this
          · rw [if_neg h2] at hn
            rw [show inB V = false from decide_eq_false (fun e => h2 e.2), if_neg (by simp)] at this
            rw [hn]; exact this
        · rw [if_neg h1] at hi
          rw [if_neg (by omega)] at hn
          rw [hn]; exact hrg hi
      · rw [hg] at hi hn
        simp only [if_true] at hi hn
        by_cases h1 : V ≤ 9223372036854775808
        · rw [if_pos h1] at hi
          have := hok (-V) hi
          by_cases h2 : V ≤ 4611686018427387904
          · rw [if_pos h2] at hn
            rw [show inB (-V) = true from decide_eq_true ⟨by omega, by omega⟩, if_pos rfl] at this
            rw [hn]; exact this
          · rw [if_neg h2] at hn
            rw [show inB (-V) = false from decide_eq_false (fun e => by omega), if_neg (by simp)] at this
            rw [hn]; exact this
        · rw [if_neg h1] at hi
          rw [if_neg (by omega)] at hn
          rw [hn]; exact hrg hi
end Go.Proofs.YtnaeabfmgfipoaaGreatDoor
namespace Go.Proofs.YtnaeabfmgfipoaaGreatDoor
open Go.RowKit

theorem slice_to (s : ByteArray) (b : Nat) (h2 : b ≤ s.size) (w : World) : (Instr.slice 9 (.string s) none (some (.int .i64 b)) none).run Tryz.prog w = .ok (.string (s.extract 0 b)) w := by
  exact run_slice_string_h w 9 s Tryz.underlying9 .i64 b (by omega) (by omega)
theorem slice_from (s : ByteArray) (b : Nat) (h2 : b ≤ s.size) (w : World) : (Instr.slice 9 (.string s) (some (.int .i64 b)) none none).run Tryz.prog w = .ok (.string (s.extract b s.size)) w := by
  exact run_slice_string_l w 9 s Tryz.underlying9 .i64 b (by omega) (by omega)
theorem litecut_fn (s : ByteArray) (c : UInt8) (w : World) (hs : s.size ≤ 4611686018427387904) : Calls Tryz.prog 50 #[.string s, .string ⟨#[c]⟩] w fun e w' => e = .returned (.tuple #[.string (headC c s), .string (restC c s), .bool (moreC c s)]) ∧ Drawn w w' := by
  by_cases h : Lib.indexByte s.data.toList c < 0
  · have h1 : Hid (headC c s = s) := if_pos h
    have h2 : Hid (restC c s = ⟨#[]⟩) := if_pos h
    have h3 : Hid (moreC c s = false) := by unfold moreC; rw [decide_eq_true h]; rfl
    have hd : decide (Lib.indexByte s.data.toList c ≥ 0) = false := decide_eq_false (by omega)
    obtain ⟨I, hI⟩ : ∃ I, I = Lib.indexByte s.data.toList c := ⟨_, rfl⟩
    rw [← hI] at hd h
    replace hI := Lib.hid hI
    go_enter Tryz.func50, Tryz.ntmps50
    go_wp2_with fail
    refine (Tryz.stringslite_Index_one s c w).mono ?_
    rintro e w1 ⟨rfl, rfl⟩
    rw [← hI.out]
    go_wp2
    go_ret3
    rw [h1.out, h2.out, h3.out]
    exact ⟨rfl, Drawn.refl _⟩
  · obtain ⟨hi1, hi2, hi3⟩ := index_lt h
    have h1 : Hid (headC c s = s.extract 0 (Lib.indexByte s.data.toList c).toNat) := if_neg h
    have h2 : Hid (restC c s = s.extract ((Lib.indexByte s.data.toList c).toNat + 1) s.size) := if_neg h
    have h3 : Hid (moreC c s = true) := by unfold moreC; rw [decide_eq_false h]; rfl
    obtain ⟨I, hI⟩ : ∃ I : Nat, (I : Int) = Lib.indexByte s.data.toList c := ⟨(Lib.indexByte s.data.toList c).toNat, by omega⟩
    have hsz : ((⟨#[c]⟩ : ByteArray).size : Int) = 1 := rfl
    rw [← hI] at h1 h2 hi1
    have e1 : ((I : Int)).toNat = I := by omega
    rw [e1] at h1 h2 hi1
    have s1 := slice_to s I (by omega)
    have s2 := slice_from s (I + 1) (by omega)
    have e2 : ((I + 1 : Nat) : Int) = (I : Int) + 1 := by omega
    rw [e2] at s2
    clear h hi2 hi3 e1
    replace hI := Lib.hid hI
    obtain ⟨X, hX⟩ : ∃ X, X = s.extract 0 I := ⟨_, rfl⟩
    obtain ⟨Y, hY⟩ : ∃ Y, Y = s.extract (I + 1) s.size := ⟨_, rfl⟩
    rw [← hX] at s1 h1
    rw [← hY] at s2 h2
    replace hX := Lib.hid hX
    replace hY := Lib.hid hY
    go_enter Tryz.func50, Tryz.ntmps50
    go_wp2_with fail
    refine (Tryz.stringslite_Index_one s c w).mono ?_
    rintro e w1 ⟨rfl, rfl⟩
    rw [← hI.out]
    go_wp2
    go_quiet (fail)
    all_goals
      go_wp2
      go_ret3
      rw [h1.out, h2.out, h3.out]
      exact ⟨rfl, (Drawn.refl _).drewN _⟩
theorem cut_fn (s : ByteArray) (c : UInt8) (w : World) (hs : s.size ≤ 4611686018427387904) : Calls Tryz.prog 25 #[.string s, .string ⟨#[c]⟩] w fun e w' => e = .returned (.tuple #[.string (headC c s), .string (restC c s), .bool (moreC c s)]) ∧ Drawn w w' := by
  go_enter Tryz.func25, Tryz.ntmps25
  go_wp2_with fail
  refine (litecut_fn s c w hs).mono ?_
  rintro e w1 ⟨rfl, hd⟩
  replace hd := Lib.hid hd
  go_wp2
  go_ret3
  exact ⟨rfl, hd.out⟩
end Go.Proofs.YtnaeabfmgfipoaaGreatDoor
namespace Go.Proofs.YtnaeabfmgfipoaaGreatDoor
open Go.RowKit

/-- Nothing but the blocks of G has turned. -/
structure Off (G : Nat → Prop) (w w' : World) : Prop where
  os : w'.os = w.os
  tape : w'.tape = w.tape
  output : w'.output = w.output
  size : w.heap.size ≤ w'.heap.size
  block : ∀ k, k < w.heap.size → ¬ G k → w'.heap[k]? = w.heap[k]?
theorem Off.refl (G : Nat → Prop) (w : World) : Off G w w := ⟨rfl, rfl, rfl, Nat.le_refl _, fun _ _ _ => rfl⟩
theorem Off.mono {G H : Nat → Prop} {w w' : World} (h : Off G w w') (hs : ∀ k, G k → H k) : Off H w w' := ⟨h.os, h.tape, h.output, h.size, fun k hk hn => h.block k hk (fun hg => hn (hs k hg))⟩
theorem Off.trans {G : Nat → Prop} {a b c : World} (h : Off G a b) (k : Off G b c) : Off G a c :=
  ⟨k.os.trans h.os, k.tape.trans h.tape, k.output.trans h.output, Nat.le_trans h.size k.size, fun i hi hn => (k.block i (Nat.lt_of_lt_of_le hi h.size) hn).trans (h.block i hi hn)⟩
theorem Off.set {G : Nat → Prop} {w w' : World} (h : Off G w w') {a : Addr} (ha : G a.block) (x : Value) : Off G w (w'.setCell a x) :=
  ⟨h.os, h.tape, h.output, by simpa using h.size, fun k hk hn => (heap_setCell_other w' a k x (fun e => hn (by first | (rw [e]; exact ha) | (rw [← e]; exact ha)))).trans (h.block k hk hn)⟩
theorem Off.below {G : Nat → Prop} {w w' : World} (h : Off G w w') {B : Nat} (hB : B ≤ w.heap.size) (hG : ∀ k, G k → B ≤ k) : Below B w w' :=
  ⟨h.os, h.tape, h.output, h.size, fun k hk => h.block k (by omega) (fun hg => by have := hG k hg; omega)⟩
theorem Keep.off {w w' : World} (h : Keep w w') (G : Nat → Prop) : Off G w w' := ⟨h.os, h.tape, h.output, h.size, fun k hk _ => Below.block h k hk⟩
theorem Off.heap {G : Nat → Prop} {w w' : World} (h : Off G w w') {b : Nat} {o : Obj} (hb : w.heap[b]? = some o) (hn : ¬ G b) : w'.heap[b]? = some o := by rw [h.block b (lt_of_block hb) hn]; exact hb
theorem Off.keep {G : Nat → Prop} {a w w' : World} (h : Off G w w') (k : Keep a w) (hG : ∀ i, G i → a.heap.size ≤ i) : Keep a w' := Below.trans (B := a.heap.size) k (h.below (B := a.heap.size) k.size hG)
/-- A variable of one cell. -/
structure One (w : World) (b : Nat) (v : Value) (t : TypeId) : Prop where
  at_ : w.heap[b]? = some (.cells #[v] t (0, 0))
section
variable {w w' : World} {b : Nat} {v : Value} {t : TypeId}
theorem One.ce (h : One w b v t) : w.cell? ⟨b, 0, none⟩ = some v := cell_of_one h.at_
theorem One.fr (h : One w b v t) : w.frozen? ⟨b, 0, none⟩ = false := free_of_one h.at_
theorem One.lt (h : One w b v t) : b < w.heap.size := lt_of_block h.at_
theorem One.set (h : One w b v t) (u : Value) : One (w.setCell ⟨b, 0, none⟩ u) b u t := ⟨one_setCell h.at_⟩
theorem One.other (h : One w b v t) {a : Addr} (ha : a.block ≠ b) (u : Value) : One (w.setCell a u) b v t := ⟨by rw [heap_setCell_other w a b u (fun e => ha (by first | exact e | exact e.symm))]; exact h.at_⟩
theorem One.keep (h : One w b v t) (k : Keep w w') : One w' b v t := ⟨k.block h.at_⟩
theorem One.off {G : Nat → Prop} (h : One w b v t) (k : Off G w w') (hn : ¬ G b) : One w' b v t := ⟨k.heap h.at_ hn⟩
theorem One.new (w : World) (v : Value) (t : TypeId) : One (w.alloc (.cells #[v] t)) w.heap.size v t := ⟨heap_alloc_new w _⟩
theorem One.drawn (h : One w b v t) (k : Drawn w w') : One w' b v t := h.keep k.keep
end
/-- What is still to be taken. -/
structure Tk (w : World) (bl bm : Nat) (L : List ByteArray) : Prop where
  ex : ∃ (s : ByteArray) (m : Bool), One w bl (.string s) 9 ∧ One w bm (.bool m) 4 ∧ L = restW m s ∧ s.size ≤ 1048576
theorem Tk.off {G : Nat → Prop} {w w' : World} {bl bm : Nat} {L : List ByteArray} (h : Tk w bl bm L) (k : Off G w w') (h1 : ¬ G bl) (h2 : ¬ G bm) : Tk w' bl bm L := by
  obtain ⟨s, m, a, b, c, d⟩ := h.ex
  exact ⟨s, m, a.off k h1, b.off k h2, c, d⟩
theorem Tk.keep {w w' : World} {bl bm : Nat} {L : List ByteArray} (h : Tk w bl bm L) (k : Keep w w') : Tk w' bl bm L := by
  obtain ⟨s, m, a, b, c, d⟩ := h.ex
  exact ⟨s, m, a.keep k, b.keep k, c, d⟩
theorem Tk.ne {w : World} {bl bm : Nat} {L : List ByteArray} (h : Tk w bl bm L) : bl ≠ bm := by
  obtain ⟨s, m, a, b, c, d⟩ := h.ex
  rintro rfl
  have h1 := a.at_
  rw [b.at_] at h1
  simp at h1
theorem Tk.lt {w : World} {bl bm : Nat} {L : List ByteArray} (h : Tk w bl bm L) : bl < w.heap.size ∧ bm < w.heap.size := by
  obtain ⟨s, m, a, b, c, d⟩ := h.ex
  exact ⟨a.lt, b.lt⟩
theorem Tk.len {w : World} {bl bm : Nat} {L : List ByteArray} (h : Tk w bl bm L) : L.length ≤ 1048577 := by
  obtain ⟨s, m, a, b, rfl, d⟩ := h.ex
  have := restW_len m s
  omega
theorem take_nil (w : World) (bl bm : Nat) (h : Tk w bl bm []) : Calls Tryz.prog 56 #[.pointer (some ⟨bm, 0, none⟩), .pointer (some ⟨bl, 0, none⟩)] w fun e w' => e = .returned (.tuple #[.string ⟨#[]⟩, .bool false]) ∧ w = w' := by
  obtain ⟨s, m, a, b, hl, hs⟩ := h.ex
  cases m
  · have c1 := b.ce
    clear a b hl h
    go_enter Tryz.func56, Tryz.ntmps56
    go_wp2
    go_ret2
    exact ⟨rfl, rfl⟩
  · rw [restW_take] at hl
    cases hl
/-- The next word. -/
theorem take_cons (w : World) (bl bm : Nat) (x : ByteArray) (L : List ByteArray) (h : Tk w bl bm (x :: L)) : Calls Tryz.prog 56 #[.pointer (some ⟨bm, 0, none⟩), .pointer (some ⟨bl, 0, none⟩)] w fun e w' => e = .returned (.tuple #[.string x, .bool true]) ∧ Tk w' bl bm L ∧ Off (fun k => k = bl ∨ k = bm) w w' := by
  have hne := Lib.hid h.ne
  obtain ⟨s, m, a, b, hl, hs⟩ := h.ex
  cases m
  · unfold restW at hl
    cases hl
  · rw [restW_take] at hl
    injection hl with hx hL
    subst hx
    have c1 := b.ce
    replace a := Lib.hid a
    replace b := Lib.hid b
    replace hL := Lib.hid hL
    replace h := Lib.hid h
    have c2 := a.out.ce
    go_enter Tryz.func56, Tryz.ntmps56
    go_wp2_with fail
    refine (cut_fn s 32 w (by omega)).mono ?_
    rintro e w1 ⟨rfl, hd⟩
    have c3 := hd.keep.cell c1
    have c4 := hd.keep.cell c2
    have f3 := (b.out.drawn hd).fr
    have f4 := (a.out.drawn hd).fr
    have f5 : ((w1.setCell ⟨bl, 0, none⟩ (.string (restC 32 s))).frozen? ⟨bm, 0, none⟩) = false := by
      have := ((b.out.drawn hd).other (a := ⟨bl, 0, none⟩) hne.out (.string (restC 32 s))).fr
      exact this
    have c5 : ((w1.setCell ⟨bl, 0, none⟩ (.string (restC 32 s))).cell? ⟨bm, 0, none⟩) = some (.bool true) := ((b.out.drawn hd).other (a := ⟨bl, 0, none⟩) hne.out (.string (restC 32 s))).ce
    replace hd := Lib.hid hd
    replace c1 := Lib.hid c1
    replace c2 := Lib.hid c2
    go_wp2
    go_ret2
    refine ⟨rfl, ⟨restC 32 s, moreC 32 s, ?_, ?_, hL.out, ?_⟩, ?_⟩
    · exact ((a.out.drawn hd.out).set _).other (fun e => hne.out e.symm) _
    · exact ((b.out.drawn hd.out).other hne.out _).set _
    · have := restC_size 32 s; omega
    · exact ((hd.out.keep.off _).set (Or.inl rfl) _).set (Or.inr rfl) _
theorem head_le {w : World} {bl bm : Nat} {x : ByteArray} {L : List ByteArray} (h : Tk w bl bm (x :: L)) : x.size ≤ 1048576 := by
  obtain ⟨s, m, a, b, hl, hs⟩ := h.ex
  cases m
  · unfold restW at hl
    cases hl
  · rw [restW_take] at hl
    injection hl with hx hL
    rw [hx]
    have := headC_size 32 s
    omega
theorem swords_fn (s : ByteArray) (w : World) (hs : s.size ≤ 1048576) : Calls Tryz.prog 39 #[.string s] w fun e w' => ∃ bl bm, e = .returned (.func (.func 56) #[] #[.pointer (some ⟨bm, 0, none⟩), .pointer (some ⟨bl, 0, none⟩)]) ∧ w.heap.size ≤ bl ∧ w.heap.size ≤ bm ∧ Keep w w' ∧ Tk w' bl bm (wordsOf s) := by
  have hmf : ∀ (fn : Fn) (first cap : Array Value) (w : World), (Instr.makeFunc fn first cap).run Tryz.prog w = .ok (.func fn first cap) w := fun _ _ _ _ => rfl
  go_enter Tryz.func39, Tryz.ntmps39
  go_wp2
  go_ret
  refine ⟨w.heap.size, w.heap.size + 1, rfl, Nat.le_refl _, Nat.le_succ _, (Keep.one _ _).alloc _, s, true, (One.new w (.string s) 9).keep (Keep.one _ _), ?_, words_split s, hs⟩
  have h1 := One.new (w.alloc (.cells #[.string s] 9)) (.bool true) 4
  rw [World.size_alloc] at h1
  exact h1
end Go.Proofs.YtnaeabfmgfipoaaGreatDoor
namespace Go.Proofs.YtnaeabfmgfipoaaGreatDoor
open Go.RowKit

section
variable {w w' : World} {b : Nat} {c0 c1 c2 c3 c4 c5 : Value}
theorem Box.off {G : Nat → Prop} (h : Box w b c0 c1 c2 c3 c4 c5) (k : Off G w w') (hn : ¬ G b) : Box w' b c0 c1 c2 c3 c4 c5 := ⟨k.heap h.at_ hn⟩
theorem Box.other (h : Box w b c0 c1 c2 c3 c4 c5) {a : Addr} (ha : a.block ≠ b) (u : Value) : Box (w.setCell a u) b c0 c1 c2 c3 c4 c5 := ⟨by rw [heap_setCell_other w a b u (fun e => ha (by first | exact e | exact e.symm))]; exact h.at_⟩
theorem Box.set1 (h : Box w b c0 c1 c2 c3 c4 c5) (u : Value) : Box (w.setCell ⟨b, 1, none⟩ u) b c0 u c2 c3 c4 c5 := ⟨by rw [heap_setCell_same w b 1 _ _ u h.at_]; rfl⟩
theorem Box.set2 (h : Box w b c0 c1 c2 c3 c4 c5) (u : Value) : Box (w.setCell ⟨b, 2, none⟩ u) b c0 c1 u c3 c4 c5 := ⟨by rw [heap_setCell_same w b 2 _ _ u h.at_]; rfl⟩
theorem Box.set3 (h : Box w b c0 c1 c2 c3 c4 c5) (u : Value) : Box (w.setCell ⟨b, 3, none⟩ u) b c0 c1 c2 u c4 c5 := ⟨by rw [heap_setCell_same w b 3 _ _ u h.at_]; rfl⟩
theorem Box.set4 (h : Box w b c0 c1 c2 c3 c4 c5) (u : Value) : Box (w.setCell ⟨b, 4, none⟩ u) b c0 c1 c2 c3 u c5 := ⟨by rw [heap_setCell_same w b 4 _ _ u h.at_]; rfl⟩
theorem Box.set5 (h : Box w b c0 c1 c2 c3 c4 c5) (u : Value) : Box (w.setCell ⟨b, 5, none⟩ u) b c0 c1 c2 c3 c4 u := ⟨by rw [heap_setCell_same w b 5 _ _ u h.at_]; rfl⟩
end
theorem pnum_fn (x : ByteArray) (is v : Bool) (bo : Nat) (w : World) (hv : V4 w) (hx : x.size ≤ 1048576) (ho : One w bo (.bool v) 4) :
    Calls Tryz.prog 41 #[.string x, .bool is, .pointer (some ⟨bo, 0, none⟩)] w fun e w' => e = .returned (.int .i64 (valO (numOf x))) ∧ One w' bo (.bool (v && is && (numOf x).isSome)) 4 ∧ Off (fun k => k = bo) w w' := by
  have hN := Lib.hid (snumber_fn x w hv (by omega))
  replace ho := Lib.hid ho
  obtain ⟨o, hno⟩ : ∃ o, o = numOf x := ⟨_, rfl⟩
  rw [← hno] at hN ⊢
  clear hno hv
  cases v <;> cases is
  all_goals
    go_enter Tryz.func41, Tryz.ntmps41
    go_wp2_with fail
    refine hN.out.mono ?_
    rintro e w1 ⟨rfl, k1⟩
    have c1 := (ho.out.keep k1).ce
    have f1 := (ho.out.keep k1).fr
    replace k1 := Lib.hid k1
    cases o
    all_goals
      go_wp2
      go_ret
      refine ⟨rfl, (ho.out.keep k1.out).set _, Off.set (G := fun k => k = bo) (k1.out.off _) rfl _⟩
end Go.Proofs.YtnaeabfmgfipoaaGreatDoor
namespace Go.Proofs.YtnaeabfmgfipoaaGreatDoor
open Go.RowKit

def oks (l : List ByteArray) : Bool := l.all fun x => (numOf x).isSome
def vals (l : List ByteArray) : List Int := l.map fun x => valO (numOf x)
theorem numsRead_eq : ∀ (l : List ByteArray), numsRead l = if oks l then some (vals l) else none
  | [] => rfl
  | x :: l => by
    rw [numsRead, numsRead_eq l]
    unfold oks vals
    rw [List.all_cons, List.map_cons]
    cases numOf x with
    | none => rfl
    | some v =>
      cases l.all fun x => (numOf x).isSome with
      | false => rfl
      | true => rfl
/-- How far the reading of a line's words has come. -/
structure St where
  L : List ByteArray
  id : Int
  cls : Int
  n : Int
  flag : Bool
  am : List Int
  ok : Bool
def tkV : List ByteArray → Int
  | [] => 0
  | x :: _ => valO (numOf x)
def tkO : List ByteArray → Bool
  | [] => false
  | x :: _ => (numOf x).isSome
def tkW : List ByteArray → ByteArray
  | [] => ⟨#[]⟩
  | x :: _ => x
def step (f : Int) (s : St) : St :=
  if f = 1 then { s with L := s.L.tail, id := tkV s.L, ok := s.ok && tkO s.L }
  else if f = 2 then { s with L := s.L.tail, cls := tkV s.L, ok := s.ok && tkO s.L }
  else if f = 3 then { s with L := s.L.tail, n := tkV s.L, ok := s.ok && tkO s.L }
  else if f = 4 then { s with L := s.L.tail, flag := decide (tkW s.L = yesW), ok := s.ok && decide (tkW s.L = flagW (decide (tkW s.L = yesW))) }
  else { s with L := [], am := s.am ++ vals s.L, ok := s.ok && oks s.L }
def run : List Int → St → St
  | [], s => s
  | f :: r, s => if f = 0 then s else run r (step f s)
def rowOf (k : Nat) : List Int := [rowF k 0, rowF k 1, rowF k 2, rowF k 3]
def st0 (L : List ByteArray) : St := ⟨L, 0, 0, 0, false, [], true⟩
def resOf (k : Int) (s : St) : Option OpD := if s.L ≠ [] ∨ s.ok = false ∨ k = 0 then none else some ⟨k, s.id, s.cls, s.n, s.flag, s.am⟩
theorem kindOf_range (s : ByteArray) : 0 ≤ kindOf s ∧ kindOf s ≤ 7 := by
  unfold kindOf
  repeat (split; omega)
  omega
theorem yes_no : ¬ noW = yesW := by decide +kernel
theorem empty_no : ¬ (⟨#[]⟩ : ByteArray) = noW := by decide +kernel
theorem empty_yes : ¬ (⟨#[]⟩ : ByteArray) = yesW := by decide +kernel
theorem flag_ok (x : ByteArray) : decide (x = flagW (decide (x = yesW))) = decide (x = yesW ∨ x = noW) := by
  by_cases h : x = yesW
  · rw [decide_eq_true h, h]; rfl
  · rw [decide_eq_false h, decide_eq_decide]
    constructor
    · exact fun e => Or.inr e
    · rintro (e | e)
      · exact absurd e h
      · exact e
theorem oks_one (x : ByteArray) (l : List ByteArray) : oks (x :: l) = ((numOf x).isSome && oks l) := rfl
theorem vals_one (x : ByteArray) (l : List ByteArray) : vals (x :: l) = valO (numOf x) :: vals l := rfl
theorem vals_len (l : List ByteArray) : (vals l).length = l.length := by unfold vals; simp
/-- The kinds with one number and nothing more. -/
theorem one_num (k : Int) (r : List ByteArray) (hn : need k = 1) (h2 : k ≠ 2) (h4 : k ≠ 4) : (numsRead r).bind (buildOp k false) = match r with
    | [a] => if (numOf a).isSome then some ⟨k, if k ≤ 5 then valO (numOf a) else 0, if k = 4 then [valO (numOf a)].getD 1 0 else 0, if k = 1 then [valO (numOf a)].getD 1 0 else if k = 4 then [valO (numOf a)].getD 2 0 else if k = 6 then valO (numOf a) else 0, false, []⟩ else none
    | _ => none := by
  rw [numsRead_eq]
  match r with
  | [] =>
    show buildOp k false [] = none
    unfold buildOp; rw [hn]; rfl
  | [a] =>
    cases h : numOf a with
    | none => simp [oks, h]
    | some v => simp [oks, vals, h, buildOp, hn, valO]
  | a :: b :: t =>
    show _ = none
    cases oks (a :: b :: t) with
    | false => rfl
    | true =>
      show buildOp k false (vals (a :: b :: t)) = none
      unfold buildOp
      rw [if_pos]
      refine Or.inr ⟨?_, h2, h4⟩
      rw [hn, vals_len]
      simp
theorem run_parse (w0 : ByteArray) (r : List ByteArray) : resOf (kindOf w0) (run (rowOf (kindOf w0).toNat) (st0 r)) = parseOf (w0 :: r) := by
  obtain ⟨h0, h7⟩ := kindOf_range w0
  rcases (show kindOf w0 = 0 ∨ kindOf w0 = 1 ∨ kindOf w0 = 2 ∨ kindOf w0 = 3 ∨ kindOf w0 = 4 ∨ kindOf w0 = 5 ∨ kindOf w0 = 6 ∨ kindOf w0 = 7 by omega) with h | h | h | h | h | h | h | h
  all_goals rw [parseOf, h]
  · rw [if_pos rfl]
    unfold resOf
    rw [if_pos (Or.inr (Or.inr rfl))]
  · rw [if_neg (by omega), if_pos rfl]
    show resOf 1 (step 4 (step 3 (step 1 (st0 r)))) = _
    match r with
    | [] => rfl
    | [a] => 
      show (if _ then none else _) = none
      rw [if_pos]; right; left; simp [step, st0, tkO]
    | [a, b] => 
      rw [if_pos (Or.inl (by simp))]
      show (if _ then none else _) = none
      rw [if_pos]; right; left
      show (((true && (numOf a).isSome) && (numOf b).isSome) && decide ((⟨#[]⟩ : ByteArray) = flagW (decide ((⟨#[]⟩ : ByteArray) = yesW)))) = false
      rw [decide_eq_false empty_yes, show decide ((⟨#[]⟩ : ByteArray) = flagW false) = false from decide_eq_false empty_no, Bool.and_false]
    | [a, b, c] =>
      show (if ([] : List ByteArray) ≠ [] ∨ (((true && (numOf a).isSome) && (numOf b).isSome) && decide (c = flagW (decide (c = yesW)))) = false ∨ (1 : Int) = 0 then none else some ⟨1, valO (numOf a), 0, valO (numOf b), decide (c = yesW), []⟩) = (if [a, b, c].length ≠ 3 ∨ (c ≠ yesW ∧ c ≠ noW) then none else (numsRead [a, b]).bind (buildOp 1 (decide (c = yesW))))
      rw [flag_ok]
      by_cases hc : c = yesW ∨ c = noW
      · rw [if_neg (show ¬ ([a, b, c].length ≠ 3 ∨ (c ≠ yesW ∧ c ≠ noW)) by
          rintro (e | e)
          · exact e rfl
          · rcases hc with hc | hc
            · exact e.1 hc
            · exact e.2 hc), decide_eq_true hc, numsRead_eq]
        cases ha : numOf a <;> cases hb : numOf b <;> simp [oks, vals, ha, hb, buildOp, need, valO]
      · rw [if_pos (show [a, b, c].length ≠ 3 ∨ (c ≠ yesW ∧ c ≠ noW) from Or.inr ⟨fun e => hc (Or.inl e), fun e => hc (Or.inr e)⟩), decide_eq_false hc, Bool.and_false, if_pos (Or.inr (Or.inl rfl))]
    | a :: b :: c :: d :: t =>
      rw [if_pos (Or.inl (by simp))]
      show (if (d :: t) ≠ [] ∨ _ then none else _) = none
      exact if_pos (Or.inl (show d :: t ≠ [] by simp))
  · rw [if_neg (by omega), if_neg (by omega), numsRead_eq]
    show resOf 2 (step 5 (step 1 (st0 r))) = _
    match r with
    | [] => rfl
    | a :: t =>
      show (if ([] : List ByteArray) ≠ [] ∨ ((true && (numOf a).isSome) && oks t) = false ∨ (2 : Int) = 0 then none else some (⟨2, valO (numOf a), 0, 0, false, [] ++ vals t⟩ : OpD)) = _
      rw [oks_one, vals_one, List.nil_append, Bool.true_and]
      cases numOf a with
      | none => rfl
      | some v =>
        cases oks t with
        | false => rfl
        | true =>
          show _ = buildOp 2 false (v :: vals t)
          unfold buildOp
          rw [if_neg (show ¬ ((v :: vals t).length < need 2 ∨ (need 2 < (v :: vals t).length ∧ (2 : Int) ≠ 2 ∧ (2 : Int) ≠ 4)) by
            rintro (e | e)
            · simp [need] at e
            · exact e.2.1 rfl)]
          rfl
  · rw [if_neg (by omega), if_neg (by omega), one_num 3 r rfl (by omega) (by omega)]
    show resOf 3 (step 1 (st0 r)) = _
    match r with
    | [] => rfl
    | [a] => cases h : numOf a <;> simp [resOf, step, st0, tkV, tkO, h]
    | a :: b :: t => rfl
  · rw [if_neg (by omega), if_neg (by omega), numsRead_eq]
    show resOf 4 (step 5 (step 3 (step 2 (step 1 (st0 r))))) = _
    match r with
    | [] => rfl
    | [a] => unfold oks vals; cases h : numOf a <;> simp [resOf, step, st0, tkV, tkO, h, buildOp, need, oks]
    | [a, b] => unfold oks vals; cases h : numOf a <;> cases h' : numOf b <;> simp [resOf, step, st0, tkV, tkO, h, h', buildOp, need, oks]
    | a :: b :: c :: t =>
      show (if ([] : List ByteArray) ≠ [] ∨ ((((true && (numOf a).isSome) && (numOf b).isSome) && (numOf c).isSome) && oks t) = false ∨ (4 : Int) = 0 then none else some (⟨4, valO (numOf a), valO (numOf b), valO (numOf c), false, [] ++ vals t⟩ : OpD)) = _
      rw [oks_one, oks_one, oks_one, vals_one, vals_one, vals_one, List.nil_append, Bool.true_and]
      cases numOf a with
      | none => rfl
      | some v =>
        cases numOf b with
        | none => rfl
        | some v2 =>
          cases numOf c with
          | none => rfl
          | some v3 =>
            cases oks t with
            | false => rfl
            | true =>
              show _ = buildOp 4 false (v :: v2 :: v3 :: vals t)
              unfold buildOp
              rw [if_neg (show ¬ ((v :: v2 :: v3 :: vals t).length < need 4 ∨ (need 4 < (v :: v2 :: v3 :: vals t).length ∧ (4 : Int) ≠ 2 ∧ (4 : Int) ≠ 4)) by
                rintro (e | e)
                · simp [need] at e; omega
                · exact e.2.2 rfl)]
              rfl
  · rw [if_neg (by omega), if_neg (by omega), one_num 5 r rfl (by omega) (by omega)]
    show resOf 5 (step 1 (st0 r)) = _
    match r with
    | [] => rfl
    | [a] => cases h : numOf a <;> simp [resOf, step, st0, tkV, tkO, h]
    | a :: b :: t => rfl
  · rw [if_neg (by omega), if_neg (by omega), one_num 6 r rfl (by omega) (by omega)]
    show resOf 6 (step 3 (st0 r)) = _
    match r with
    | [] => rfl
    | [a] => cases h : numOf a <;> simp [resOf, step, st0, tkV, tkO, h]
    | a :: b :: t => rfl
  · rw [if_neg (by omega), if_neg (by omega), numsRead_eq]
    show resOf 7 (st0 r) = _
    match r with
    | [] => rfl
    | a :: t =>
      cases oks (a :: t) with
      | false => rfl
      | true =>
        show _ = buildOp 7 false (vals (a :: t))
        unfold buildOp
        rw [if_pos (Or.inr ⟨by rw [vals_len]; simp [need], by omega, by omega⟩)]
        rfl
end Go.Proofs.YtnaeabfmgfipoaaGreatDoor
namespace Go.Proofs.YtnaeabfmgfipoaaGreatDoor
open Go.RowKit

def rowV (k : Nat) : Value := .agg #[.int .i64 (rowF k 0), .int .i64 (rowF k 1), .int .i64 (rowF k 2), .int .i64 (rowF k 3)]
theorem fields_at (k : Nat) (hk : k < 8) (w : World) : (Instr.indexAt 69 (.pointer (some ⟨0, 0, none⟩)) (.int .i64 k)).run Tryz.prog w = .ok (.pointer (some ⟨0, 4 * k, none⟩)) w := by
  rcases (show k = 0 ∨ k = 1 ∨ k = 2 ∨ k = 3 ∨ k = 4 ∨ k = 5 ∨ k = 6 ∨ k = 7 by omega) with rfl | rfl | rfl | rfl | rfl | rfl | rfl | rfl
  all_goals kernel_rfl
theorem fields_load (k : Nat) (hk : k < 8) (w : World) (hv : V4 w) : (Instr.loadAt 68 (.pointer (some ⟨0, 4 * k, none⟩))).run Tryz.prog w = .ok (rowV k) w := by
  refine run_loadAt_mid (P := Tryz.prog) w 0 (4 * k) 68 [.int .i64 (rowF k 0), .int .i64 (rowF k 1), .int .i64 (rowF k 2), .int .i64 (rowF k 3)] (.array 4 3) ?_ Tryz.underlying68 rfl (by kernel_rfl)
  intro j v hj
  rcases (show j = 0 ∨ j = 1 ∨ j = 2 ∨ j = 3 ∨ 4 ≤ j by omega) with rfl | rfl | rfl | rfl | h
  · cases hj; exact hv.fields k 0 hk (by omega)
  · cases hj; exact hv.fields k 1 hk (by omega)
  · cases hj; exact hv.fields k 2 hk (by omega)
  · cases hj; exact hv.fields k 3 hk (by omega)
  · rw [List.getElem?_eq_none (by simpa using h)] at hj
    cases hj
theorem fields_index (k j : Nat) (hj : j < 4) (w : World) : (Instr.index 68 (rowV k) (.int .i64 j)).run Tryz.prog w = .ok (.int .i64 (rowF k j)) w := by
  unfold rowV
  rcases (show j = 0 ∨ j = 1 ∨ j = 2 ∨ j = 3 by omega) with rfl | rfl | rfl | rfl
  all_goals kernel_rfl
theorem drop_row (k j : Nat) (hj : j < 4) : (rowOf k).drop j = rowF k j :: (rowOf k).drop (j + 1) := by
  rcases (show j = 0 ∨ j = 1 ∨ j = 2 ∨ j = 3 by omega) with rfl | rfl | rfl | rfl
  all_goals rfl
theorem rowF_range (k j : Nat) : rowF k j = 0 ∨ rowF k j = 1 ∨ rowF k j = 2 ∨ rowF k j = 3 ∨ rowF k j = 4 ∨ rowF k j = 5 := by
  by_cases h : 4 * k + j < 32
  · unfold rowF
    have h2 : ∀ i : Fin 32, ([0, 0, 0, 0, 1, 3, 4, 0, 1, 5, 0, 0, 1, 0, 0, 0, 1, 2, 3, 5, 1, 0, 0, 0, 3, 0, 0, 0, 0, 0, 0, 0] : List Int).getD i.val 0 = 0 ∨ ([0, 0, 0, 0, 1, 3, 4, 0, 1, 5, 0, 0, 1, 0, 0, 0, 1, 2, 3, 5, 1, 0, 0, 0, 3, 0, 0, 0, 0, 0, 0, 0] : List Int).getD i.val 0 = 1 ∨ ([0, 0, 0, 0, 1, 3, 4, 0, 1, 5, 0, 0, 1, 0, 0, 0, 1, 2, 3, 5, 1, 0, 0, 0, 3, 0, 0, 0, 0, 0, 0, 0] : List Int).getD i.val 0 = 2 ∨ ([0, 0, 0, 0, 1, 3, 4, 0, 1, 5, 0, 0, 1, 0, 0, 0, 1, 2, 3, 5, 1, 0, 0, 0, 3, 0, 0, 0, 0, 0, 0, 0] : List Int).getD i.val 0 = 3 ∨ ([0, 0, 0, 0, 1, 3, 4, 0, 1, 5, 0, 0, 1, 0, 0, 0, 1, 2, 3, 5, 1, 0, 0, 0, 3, 0, 0, 0, 0, 0, 0, 0] : List Int).getD i.val 0 = 4 ∨ ([0, 0, 0, 0, 1, 3, 4, 0, 1, 5, 0, 0, 1, 0, 0, 0, 1, 2, 3, 5, 1, 0, 0, 0, 3, 0, 0, 0, 0, 0, 0, 0] : List Int).getD i.val 0 = 5 := by decide
    exact h2 ⟨4 * k + j, h⟩
  · left
    unfold rowF
    rw [List.getD_eq_getElem?_getD, List.getElem?_eq_none (by simpa using h)]
    rfl
end Go.Proofs.YtnaeabfmgfipoaaGreatDoor
