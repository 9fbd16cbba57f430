/-
  The program's table of changes: whatever order its map is filled in, it says what the table says. No condition.
-/
import Derived.Test.YtfidlljhmebpmaaDoorTab5
import Derived.RegionTactic
namespace Go.Proofs.YtfidlljhmebpmaaDoor
open Go.RowKit Go.Extern.Stop Go.Stop Go.Extern

def tab : List (Int × Int × Int) := [(1, 1, 3), (2, 1, 3), (1, 2, 2), (2, 2, 2), (2, 3, 1), (3, 4, 4), (1, 5, 5), (2, 5, 5), (3, 5, 5), (4, 5, 5)]
def row (j : Nat) : Int × Int × Int := tab.getD j (0, 0, 0)
/-- The phase after an event, or 0. -/
def nxt (p e : Int) : Int := (look tab p e).getD 0
def Says (w : World) (B : Nat) : Prop := ∃ l, MapIs w B l ∧ ∀ x, x ∈ l ↔ x ∈ tab
theorem Says.keep {w w' : World} {B : Nat} (h : Says w B) (k : Keep w w') : Says w' B := by
  obtain ⟨l, h1, h2⟩ := h
  exact ⟨l, h1.keep k, h2⟩
theorem tab_look : ∀ x ∈ tab, look tab x.1 x.2.1 = some x.2.2 := by decide
theorem look_says {l : List (Int × Int × Int)} (h : ∀ x, x ∈ l ↔ x ∈ tab) (p e : Int) : look l p e = look tab p e := by
  cases hl : look l p e with
  | none =>
    refine (look_not fun v hv => ?_).symm
    exact look_none hl v ((h _).2 hv)
  | some v => exact (tab_look _ ((h _).1 (look_mem hl))).symm
theorem tab_pos : ∀ x ∈ tab, 1 ≤ x.2.2 := by decide
theorem some_iff (p e : Int) : (look tab p e).isSome = decide (nxt p e ≠ 0) := by
  unfold nxt
  cases hl : look tab p e with
  | none => rfl
  | some v =>
    have := tab_pos _ (look_mem hl)
    simp at this ⊢
    omega
theorem says_look {w : World} {B : Nat} (h : Says w B) (p e : Int) :
    (Instr.lookup 94 (.map (some B)) (kv p e) true).run Tryd.prog w = .ok (.tuple #[.int .i64 (nxt p e), .bool (decide (nxt p e ≠ 0))]) w := by
  obtain ⟨l, h1, h2⟩ := h
  rw [map_look h1, look_says h2, some_iff]
  rfl

/-! ### The region that fills it -/
def opsOf : Option Code → Array Oper
  | some (.seq _ (.seq (.region _ ops _) _)) => ops
  | _ => #[]
noncomputable def chOps : Array Oper := opsOf Tryd.f55.body
def lst (r : Nat → Bool) : Array Bool := #[true, true, r 0, true, r 1, true, r 2, true, r 3, true, r 4, true, r 5, true, r 6, true, r 7, true, r 8, true, r 9, false, false]
def bit (b : Bool) : Nat := if b then 0 else 1
def cnt (r : Nat → Bool) : Nat := bit (r 0) + bit (r 1) + bit (r 2) + bit (r 3) + bit (r 4) + bit (r 5) + bit (r 6) + bit (r 7) + bit (r 8) + bit (r 9)
def upd (r : Nat → Bool) (j : Nat) : Nat → Bool := fun i => if i = j then true else r i
theorem cases10 {j : Nat} (h : j < 10) : j = 0 ∨ j = 1 ∨ j = 2 ∨ j = 3 ∨ j = 4 ∨ j = 5 ∨ j = 6 ∨ j = 7 ∨ j = 8 ∨ j = 9 := by omega
theorem lst_upd (r : Nat → Bool) {j : Nat} (h : j < 10) : (lst r).setIfInBounds (2 * j + 2) true = lst (upd r j) := by
  rcases cases10 h with rfl | rfl | rfl | rfl | rfl | rfl | rfl | rfl | rfl | rfl <;> rfl
theorem cnt_upd (r : Nat → Bool) {j : Nat} (h : j < 10) (hr : r j = false) : cnt (upd r j) + 1 = cnt r := by
  rcases cases10 h with rfl | rfl | rfl | rfl | rfl | rfl | rfl | rfl | rfl | rfl <;> simp [cnt, upd, hr, bit] <;> omega
theorem cnt_zero {r : Nat → Bool} (h : cnt r = 0) {j : Nat} (hj : j < 10) : r j = true := by
  have hb (b : Bool) (h : bit b = 0) : b = true := by cases b <;> simp_all [bit]
  unfold cnt at h
  rcases cases10 hj with rfl | rfl | rfl | rfl | rfl | rfl | rfl | rfl | rfl | rfl <;> exact hb _ (by omega)
theorem lst_all {r : Nat → Bool} (h : cnt r = 0) : lst r = lst fun _ => true := by
  unfold lst
  simp [cnt_zero h]
set_option maxRecDepth 100000 in
theorem lst_ready (r : Nat → Bool) : Region.ready .any chOps (lst r) = (([(2, r 0), (4, r 1), (6, r 2), (8, r 3), (10, r 4), (12, r 5), (14, r 6), (16, r 7), (18, r 8), (20, r 9)].filter (fun x => !x.2)).map (·.1)) ++
    (if r 0 && r 1 && r 2 && r 3 && r 4 && r 5 && r 6 && r 7 && r 8 && r 9 then [21] else []) := by
  unfold lst
  generalize r 0 = b0
  generalize r 1 = b1
  generalize r 2 = b2
  generalize r 3 = b3
  generalize r 4 = b4
  generalize r 5 = b5
  generalize r 6 = b6
  generalize r 7 = b7
  generalize r 8 = b8
  generalize r 9 = b9
  revert b0 b1 b2 b3 b4 b5 b6 b7 b8 b9
  decide +kernel

theorem ins_step {Q : Exit → Act → World → Prop} {next : Act → World → Prop} {a : Act} {w : World} {B : Nat} {l : List (Int × Int × Int)} {p e v : Int} {s : Nat} {o : Oper}
    (hop : o.op = .insert 94 (.tmp 1) (.tmp s) (.const (.int .i64 v))) (hd : o.dst = none) (e1 : a.eval (.tmp 1) = .map (some B)) (e2 : a.eval (.tmp s) = kv p e)
    (hm : MapIs w B l) (hn : look l p e = none) (K : ∀ w', MapIs w' B (l ++ [(p, e, v)]) → w.grownBy w' (some B) → next a w') : o.wp Tryd.prog a w next Q := by
  obtain ⟨w', hrun, h1, h2⟩ := map_put hm p e v hn
  unfold Oper.wp
  have e3 : a.eval (.const (.int .i64 v)) = .int .i64 v := rfl
  simp [execOp, hop, e1, e2, e3, hrun, Result.andThen]
  have := K w' h1 h2
  simpa [Oper.upon, hd, Act.put] using this
theorem row_inj : ∀ i, i < 10 → ∀ j, j < 10 → (row i).1 = (row j).1 → (row i).2.1 = (row j).2.1 → i = j := by decide
theorem row_mem : ∀ j, j < 10 → row j ∈ tab := by decide
theorem mem_row : ∀ x ∈ tab, ∃ j, j < 10 ∧ x = row j := by
  intro x hx
  obtain ⟨j, hj, e⟩ := List.getElem_of_mem hx
  exact ⟨j, hj, by simp [row, List.getD, hj, e]⟩

section
variable {Q : Exit → Act → World → Prop} {a : Act} {B : Nat} {W : World}
theorem fill_step (hB : W.heap.size ≤ B) (e1 : a.eval (.tmp 1) = .map (some B)) (e2 : ∀ j, j < 10 → a.eval (.tmp (j + 2)) = kv (row j).1 (row j).2.1) {n : Nat}
    (ih : ∀ r l w, cnt r = n → MapIs w B l → (∀ x, x ∈ l ↔ ∃ j, j < 10 ∧ r j = true ∧ x = row j) → Keep W w → wpAny Tryd.prog .any chOps Q (n + 2) (lst r) a w)
    {r : Nat → Bool} {l : List (Int × Int × Int)} {w : World} (hc : cnt r = n + 1) (hm : MapIs w B l) (hl : ∀ x, x ∈ l ↔ ∃ j, j < 10 ∧ r j = true ∧ x = row j) (k : Keep W w)
    {j : Nat} (hj : j < 10) (hr : r j = false) {o : Oper} (ho : chOps[2 * j + 2]? = some o) (hop : o.op = .insert 94 (.tmp 1) (.tmp (j + 2)) (.const (.int .i64 (row j).2.2))) (hd : o.dst = none) (hg : o.guard = none) :
    wpOp Tryd.prog chOps Q (2 * j + 2) (wpAny Tryd.prog .any chOps Q (n + 2) ((lst r).setIfInBounds (2 * j + 2) true)) a w := by
  have hn : look l (row j).1 (row j).2.1 = none := by
    refine look_not fun v hv => ?_
    obtain ⟨i, hi, hri, he⟩ := (hl _).1 hv
    have h1 : (row i).1 = (row j).1 := by rw [← he]
    have h2 : (row i).2.1 = (row j).2.1 := by rw [← he]
    obtain rfl := row_inj i hi j hj h1 h2
    rw [hr] at hri
    cases hri
  unfold wpOp
  rw [ho]
  have hw : Region.wanted o (yielded chOps a.tmps) = true := by simp [Region.wanted, hg]
  simp only [hw, if_true]
  refine .inl (ins_step hop hd e1 (e2 j hj) hm hn fun w' h1 h2 => ?_)
  rw [lst_upd r hj]
  refine ih (upd r j) _ w' (by have := cnt_upd r hj hr; omega) h1 (fun x => ?_) (Below.grown k h2 k.size (fun i hi => by cases hi; exact hB))
  rw [List.mem_append, hl]
  constructor
  · rintro (⟨i, hi, hri, rfl⟩ | h)
    · exact ⟨i, hi, by unfold upd; split <;> simp_all, rfl⟩
    · exact ⟨j, hj, by simp [upd], List.mem_singleton.1 h⟩
  · rintro ⟨i, hi, hri, rfl⟩
    by_cases hij : i = j
    · subst hij
      exact .inr (List.mem_singleton.2 rfl)
    · exact .inl ⟨i, hi, by simpa [upd, hij] using hri, rfl⟩

theorem fill (hB : W.heap.size ≤ B) (e1 : a.eval (.tmp 1) = .map (some B)) (e2 : ∀ j, j < 10 → a.eval (.tmp (j + 2)) = kv (row j).1 (row j).2.1)
    (K : ∀ w', Says w' B → Keep W w' → wpAny Tryd.prog .any chOps Q 2 (lst fun _ => true) a w') :
    ∀ n r l w, cnt r = n → MapIs w B l → (∀ x, x ∈ l ↔ ∃ j, j < 10 ∧ r j = true ∧ x = row j) → Keep W w → wpAny Tryd.prog .any chOps Q (n + 2) (lst r) a w := by
  intro n
  induction n with
  | zero =>
    intro r l w hc hm hl k
    rw [lst_all hc]
    refine K w ⟨l, hm, fun x => ?_⟩ k
    rw [hl]
    constructor
    · rintro ⟨j, hj, _, rfl⟩
      exact row_mem j hj
    · intro hx
      obtain ⟨j, hj, rfl⟩ := mem_row x hx
      exact ⟨j, hj, cnt_zero hc hj, rfl⟩
  | succ n ih =>
    intro r l w hc hm hl k
    show (Region.ready .any chOps (lst r) = [] → Q .normal a w) ∧ ∀ i ∈ Region.ready .any chOps (lst r), wpOp Tryd.prog chOps Q i (wpAny Tryd.prog .any chOps Q (n + 2) ((lst r).setIfInBounds i true)) a w
    have hall : (r 0 && r 1 && r 2 && r 3 && r 4 && r 5 && r 6 && r 7 && r 8 && r 9) = false := by
      cases h : (r 0 && r 1 && r 2 && r 3 && r 4 && r 5 && r 6 && r 7 && r 8 && r 9) with
      | false => rfl
      | true =>
        simp only [Bool.and_eq_true] at h
        obtain ⟨⟨⟨⟨⟨⟨⟨⟨⟨h0, h1⟩, h2⟩, h3⟩, h4⟩, h5⟩, h6⟩, h7⟩, h8⟩, h9⟩ := h
        rw [cnt, h0, h1, h2, h3, h4, h5, h6, h7, h8, h9] at hc
        cases hc
    have hst {j : Nat} (hj : j < 10) (hr : r j = false) {o : Oper} (ho : chOps[2 * j + 2]? = some o) (hop : o.op = .insert 94 (.tmp 1) (.tmp (j + 2)) (.const (.int .i64 (row j).2.2))) (hd : o.dst = none) (hg : o.guard = none) :=
      fill_step (Q := Q) hB e1 e2 ih hc hm hl k hj hr ho hop hd hg
    rw [lst_ready, hall]
    refine ⟨fun h => ?_, fun i hi => ?_⟩
    · exfalso
      simp only [Bool.false_eq_true, if_false, List.append_nil, List.map_eq_nil_iff, List.filter_eq_nil_iff] at h
      have hb (b : Bool) (h : ¬ (!b) = true) : bit b = 0 := by cases b <;> simp_all [bit]
      have := hb (r 0) (h (2, r 0) (by simp))
      have := hb (r 1) (h (4, r 1) (by simp))
      have := hb (r 2) (h (6, r 2) (by simp))
      have := hb (r 3) (h (8, r 3) (by simp))
      have := hb (r 4) (h (10, r 4) (by simp))
      have := hb (r 5) (h (12, r 5) (by simp))
      have := hb (r 6) (h (14, r 6) (by simp))
      have := hb (r 7) (h (16, r 7) (by simp))
      have := hb (r 8) (h (18, r 8) (by simp))
      have := hb (r 9) (h (20, r 9) (by simp))
      unfold cnt at hc
      omega
    · simp only [Bool.false_eq_true, if_false, List.append_nil, List.mem_map, List.mem_filter] at hi
      obtain ⟨⟨i', b⟩, ⟨hm', hb⟩, rfl⟩ := hi
      simp only [List.mem_cons, List.not_mem_nil, or_false, Prod.mk.injEq] at hm'
      simp only [Bool.not_eq_true'] at hb
      subst hb
      rcases hm' with ⟨rfl, h⟩ | ⟨rfl, h⟩ | ⟨rfl, h⟩ | ⟨rfl, h⟩ | ⟨rfl, h⟩ | ⟨rfl, h⟩ | ⟨rfl, h⟩ | ⟨rfl, h⟩ | ⟨rfl, h⟩ | ⟨rfl, h⟩
      · exact hst (j := 0) (by omega) h.symm rfl rfl rfl rfl
      · exact hst (j := 1) (by omega) h.symm rfl rfl rfl rfl
      · exact hst (j := 2) (by omega) h.symm rfl rfl rfl rfl
      · exact hst (j := 3) (by omega) h.symm rfl rfl rfl rfl
      · exact hst (j := 4) (by omega) h.symm rfl rfl rfl rfl
      · exact hst (j := 5) (by omega) h.symm rfl rfl rfl rfl
      · exact hst (j := 6) (by omega) h.symm rfl rfl rfl rfl
      · exact hst (j := 7) (by omega) h.symm rfl rfl rfl rfl
      · exact hst (j := 8) (by omega) h.symm rfl rfl rfl rfl
      · exact hst (j := 9) (by omega) h.symm rfl rfl rfl rfl
end
end Go.Proofs.YtfidlljhmebpmaaDoor
