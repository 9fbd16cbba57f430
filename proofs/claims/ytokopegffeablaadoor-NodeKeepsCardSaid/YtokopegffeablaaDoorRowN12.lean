/-
  The reference's nodes, and rows of them of the call's own. No condition.
-/
import Derived.Test.YtokopegffeablaaDoorBase5
import Derived.Laws.AppendOwnNone
import Derived.Laws.OwnMore
import Derived.Laws.Rows
import Derived.OwnWalk
import Derived.Deep.AppendLies
import Derived.Deep.DeepAppendRoom
import Derived.Deep.RegionLaw
import Derived.Deep.RegionWith
namespace Go.Proofs.YtokopegffeablaaDoor.T12
open Go.RowKit Go.Lib

def I64 (x : Int) : Prop := -9223372036854775808 ≤ x ∧ x ≤ 9223372036854775807
/-- A node: the id, the capacity, the usage (where they lie, and what they are). -/
structure RnV where
  k : Int
  A : Option Addr
  n : Nat
  c : Nat
  C : Nat → Int
  B : Option Addr
  m : Nat
  d : Nat
  U : Nat → Int
def RnV.cells (x : RnV) : List Value := [.int .i64 x.k, .slice x.A x.n x.c, .slice x.B x.m x.d]
def RnV.val (x : RnV) : Value := .agg #[.int .i64 x.k, .slice x.A x.n x.c, .slice x.B x.m x.d]
def zp : RnV := ⟨0, none, 0, 0, fun _ => 0, none, 0, 0, fun _ => 0⟩
structure RnOk (x : RnV) : Prop where
  k : I64 x.k
  t : True
theorem zp_ok : RnOk zp := ⟨by unfold I64 zp; simp, trivial⟩
/-- Its two cells. -/
structure CelN (w : World) (b o : Nat) (x : RnV) : Prop where
  e0 : w.cell? ⟨b, o, none⟩ = some (.int .i64 x.k)
  e1 : w.cell? ⟨b, o + 1, none⟩ = some (.slice x.A x.n x.c)
  e2 : w.cell? ⟨b, o + 2, none⟩ = some (.slice x.B x.m x.d)
theorem CelN.keep {w w' : World} {b o : Nat} {x : RnV} (h : CelN w b o x) (k : Keep w w') : CelN w' b o x := ⟨k.cell h.e0, k.cell h.e1, k.cell h.e2⟩
theorem cel_of {w : World} {g o : Nat} {x : RnV} (h : ∀ i u, x.cells[i]? = some u → w.cell? ⟨g, o + i, none⟩ = some u) : CelN w g o x := ⟨h 0 _ rfl, h 1 _ rfl, h 2 _ rfl⟩
theorem CelN.all {w : World} {g o : Nat} {x : RnV} (h : CelN w g o x) : ∀ i u, x.cells[i]? = some u → w.cell? ⟨g, o + i, none⟩ = some u := by
  intro i u hu
  match i, hu with
  | 0, hu => rw [← Option.some.inj hu]; exact h.e0
  | 1, hu => rw [← Option.some.inj hu]; exact h.e1
  | 2, hu => rw [← Option.some.inj hu]; exact h.e2
  | i + 3, hu => cases hu
/-- The timers of a slice. -/
structure RdN (w : World) (A : Option Addr) (n : Nat) (P : Nat → RnV) : Prop where
  small : n ≤ 9223372036854775807
  adr : 0 < n → ∃ b off, A = some ⟨b, off, none⟩ ∧ ∀ j, j < n → CelN w b (off + j * 3) (P j)
  ok : ∀ j, j < n → RnOk (P j)
theorem RdN.nil (w : World) (A : Option Addr) (P : Nat → RnV) : RdN w A 0 P := ⟨by omega, fun h => absurd h (Nat.lt_irrefl _), fun _ h => absurd h (Nat.not_lt_zero _)⟩
theorem RdN.keep {w w' : World} {A : Option Addr} {n : Nat} {P : Nat → RnV} (h : RdN w A n P) (k : Keep w w') : RdN w' A n P :=
  ⟨h.small, fun hn => by
    obtain ⟨b, off, e, c⟩ := h.adr hn
    exact ⟨b, off, e, fun j hj => (c j hj).keep k⟩, h.ok⟩
theorem RdN.congr {w : World} {A : Option Addr} {n : Nat} {P R : Nat → RnV} (h : RdN w A n P) (e : ∀ j, j < n → P j = R j) : RdN w A n R :=
  ⟨h.small, fun hn => by
    obtain ⟨b, off, e', c⟩ := h.adr hn
    exact ⟨b, off, e', fun j hj => by rw [← e j hj]; exact c j hj⟩, fun j hj => by rw [← e j hj]; exact h.ok j hj⟩

/-! ### The cells of a row -/
theorem cells3 (x : RnV) : x.cells.length = 3 := rfl
theorem cells_one (x : RnV) : ∀ u ∈ x.cells, u.oneCell' = true := by
  intro u hu
  simp only [RnV.cells, List.mem_cons, List.not_mem_nil, or_false] at hu
  rcases hu with rfl | rfl | rfl <;> rfl
def rnCs (Q : Nat → RnV) : Nat → List Value
  | 0 => []
  | n + 1 => rnCs Q n ++ (Q n).cells
theorem rnCs_len (Q : Nat → RnV) : ∀ n, (rnCs Q n).length = n * 3
  | 0 => rfl
  | n + 1 => by rw [rnCs, List.length_append, rnCs_len Q n, cells3]; omega
theorem rnCs_one (Q : Nat → RnV) : ∀ n, ∀ u ∈ rnCs Q n, u.oneCell' = true
  | 0, u, h => by cases h
  | n + 1, u, h => by
    rcases List.mem_append.1 h with h | h
    · exact rnCs_one Q n u h
    · exact cells_one _ u h
theorem rnCs_congr {Q R : Nat → RnV} : ∀ n, (∀ j, j < n → Q j = R j) → rnCs Q n = rnCs R n
  | 0, _ => rfl
  | n + 1, h => by rw [rnCs, rnCs, rnCs_congr n (fun j hj => h j (by omega)), h n (by omega)]
theorem rnCs_get (Q : Nat → RnV) : ∀ (n j i : Nat), j < n → i < 3 → (rnCs Q n)[j * 3 + i]? = (Q j).cells[i]?
  | 0, j, i, h, _ => absurd h (Nat.not_lt_zero _)
  | n + 1, j, i, h, hi => by
    rw [rnCs]
    by_cases e : j = n
    · subst e
      rw [List.getElem?_append_right (by rw [rnCs_len]; omega), rnCs_len]
      congr 1
      omega
    · rw [List.getElem?_append_left (by rw [rnCs_len]; omega)]
      exact rnCs_get Q n j i (by omega) hi
theorem rnCs_add (Q : Nat → RnV) (m : Nat) : ∀ n, rnCs Q (m + n) = rnCs Q m ++ rnCs (fun t => Q (m + t)) n
  | 0 => by rw [Nat.add_zero, rnCs, List.append_nil]
  | n + 1 => by rw [← Nat.add_assoc, rnCs, rnCs_add Q m n, rnCs, List.append_assoc]
def put (Q : Nat → RnV) (n : Nat) (x : RnV) : Nat → RnV := fun j => if j = n then x else Q j
theorem put_at (Q : Nat → RnV) (n : Nat) (x : RnV) : put Q n x n = x := if_pos rfl
theorem put_ne (Q : Nat → RnV) (n : Nat) (x : RnV) {j : Nat} (h : j ≠ n) : put Q n x j = Q j := if_neg h
theorem rnCs_put (Q : Nat → RnV) (n : Nat) (x : RnV) : rnCs (put Q n x) (n + 1) = rnCs Q n ++ x.cells := by
  rw [rnCs, put_at, rnCs_congr n (fun j hj => put_ne Q n x (by omega))]
def lst (Q : Nat → RnV) (n : Nat) : List RnV := (List.range n).map Q
theorem lst_len (Q : Nat → RnV) (n : Nat) : (lst Q n).length = n := by simp [lst]
theorem lst_get {Q : Nat → RnV} {n j : Nat} (h : j < n) : (lst Q n)[j]? = some (Q j) := by simp [lst, h]
theorem lst_mem {Q : Nat → RnV} {n : Nat} {x : RnV} : x ∈ lst Q n ↔ ∃ j, j < n ∧ Q j = x := by simp [lst]
theorem lst_succ (Q : Nat → RnV) (n : Nat) : lst Q (n + 1) = lst Q n ++ [Q n] := by simp [lst, List.range_succ]
theorem lst_congr {Q R : Nat → RnV} {n : Nat} (h : ∀ j, j < n → Q j = R j) : lst Q n = lst R n := List.map_congr_left fun j hj => h j (List.mem_range.1 hj)
theorem lst_put (Q : Nat → RnV) (n : Nat) (x : RnV) : lst (put Q n x) (n + 1) = lst Q n ++ [x] := by
  rw [lst_succ, put_at, lst_congr fun j hj => put_ne Q n x (by omega)]
/-- A list as a row. -/
def row (L : List RnV) : Nat → RnV := fun j => L.getD j zp
theorem lst_row (L : List RnV) : lst (row L) L.length = L := by
  refine List.ext_getElem? fun j => ?_
  by_cases h : j < L.length
  · rw [lst_get h, List.getElem?_eq_getElem h]
    unfold row
    rw [List.getD_eq_getElem?_getD, List.getElem?_eq_getElem h]
    rfl
  · rw [List.getElem?_eq_none (by rw [lst_len]; omega), List.getElem?_eq_none (by omega)]
theorem row_lst {Q : Nat → RnV} {n j : Nat} (h : j < n) : row (lst Q n) j = Q j := by
  unfold row
  rw [List.getD_eq_getElem?_getD, lst_get h]
  rfl

/-! ### Rows of the call's own -/
theorem own_form {w : World} {base n z : Nat} {e : TypeId} {v : Value} {xs : List Value} (h : w.ownsRow base e z v n xs) : ∃ A cap, v = .slice A n cap ∧ (A = none → n = 0 ∧ cap = 0) := by
  rcases h.2 with ⟨rfl, rfl⟩ | ⟨g, cap, cur, rfl, _⟩
  · exact ⟨none, 0, rfl, fun _ => ⟨rfl, rfl⟩⟩
  · exact ⟨_, cap, rfl, fun h => by cases h⟩
theorem own_keep {w w' : World} {base n : Nat} {e : TypeId} {z : Nat} {v : Value} {xs : List Value} (h : w.ownsRow base e z v n xs) (k : Keep w w') : w'.ownsRow base e z v n xs :=
  h.kept k.grown (Classical.em (v.ownBlock = none))
theorem own_base {w : World} {base base' : Nat} {e : TypeId} {size : Nat} {v : Value} {n : Nat} {xs : List Value} (h : w.ownsRow base e size v n xs) (hb : base' ≤ base) : w.ownsRow base' e size v n xs := by
  rcases h with ⟨h1, h2 | ⟨g, cap, cur, h3, h4, h5⟩⟩
  · exact ⟨h1, .inl h2⟩
  · exact ⟨h1, .inr ⟨g, cap, cur, h3, by omega, h5⟩⟩
theorem own_cap {w : World} {base n z c : Nat} {e : TypeId} {A : Option Addr} {xs : List Value} (h : w.ownsRow base e z (.slice A n c) n xs) : n ≤ c := by
  rcases h.2 with ⟨hv, h0⟩ | ⟨_, _, _, hv, _, _, hc, _⟩
  · omega
  · simp only [Value.slice.injEq] at hv
    omega
theorem own_blocks1 {w w' : World} {base n z : Nat} {e : TypeId} {v : Value} {xs : List Value} (h : w.ownsRow base e z v n xs) (hs : ∀ g, v.ownBlock = some g → w'.heap[g]? = w.heap[g]?) : w'.ownsRow base e z v n xs := by
  rcases h with ⟨h1, h2 | ⟨g, cap, cur, rfl, h4, h5, h6⟩⟩
  · exact ⟨h1, .inl h2⟩
  · exact ⟨h1, .inr ⟨g, cap, cur, rfl, h4, (hs g rfl).trans h5, h6⟩⟩
theorem keep_grown {w a b : World} (k : Keep w a) {row : Option Nat} (hg : a.grownBy b row) (hrow : ∀ g, row = some g → w.heap.size ≤ g) : Keep w b :=
  Below.grown k hg k.size hrow
theorem own_empty {W : World} {base k : Nat} {e : TypeId} (hb : base ≤ k) (h : W.heap[k]? = some (.cells #[] e (0, 0))) : W.ownsRow base e 3 (.slice (some ⟨k, 0, none⟩) 0 0) 0 [] :=
  ⟨rfl, .inr ⟨k, 0, #[], rfl, hb, h, Nat.le_refl _, Nat.zero_le _, rfl, rfl⟩⟩
theorem row_cel {w : World} {base n g cap : Nat} {e : TypeId} {Q : Nat → RnV} (h : w.ownsRow base e 3 (.slice (some ⟨g, 0, none⟩) n cap) n (rnCs Q n)) {j : Nat} (hj : j < n) : CelN w g (0 + j * 3) (Q j) := by
  refine cel_of fun i u hu => ?_
  have hi : i < 3 := (List.getElem?_eq_some_iff.1 hu).1
  rw [Nat.zero_add, h.cellAt (j * 3 + i) (by omega), rnCs_get Q n j i hj hi, hu]
theorem rows_rd {w : World} {base n : Nat} {e : TypeId} {B : Option Addr} {d : Nat} {Q : Nat → RnV} (h : w.ownsRow base e 3 (.slice B n d) n (rnCs Q n)) (hn : n ≤ 9223372036854775807) (hi : ∀ j, j < n → RnOk (Q j)) : RdN w B n Q :=
  ⟨hn, fun hp => by
    obtain ⟨g, cap, e, _, _⟩ := h.form hp
    have e' := e
    simp only [Value.slice.injEq] at e'
    obtain ⟨rfl, _, rfl⟩ := e'
    exact ⟨g, 0, rfl, fun t ht => row_cel h ht⟩, hi⟩
/-- What is appended: nothing at all, or cells. -/
def SrcC (w : World) (X : Value) (m : Nat) (news : List Value) : Prop :=
  (X = .slice none 0 0 ∧ m = 0 ∧ news = []) ∨ ∃ ad c, X = .slice (some ad) m c ∧ news.length = m * 3 ∧ ∀ j u, news[j]? = some u → w.cell? (ad.add j) = some u
theorem src_one {W : World} {k : Nat} {e : TypeId} {x : RnV} (h : W.heap[k]? = some (.cells #[.int .i64 x.k, .slice x.A x.n x.c, .slice x.B x.m x.d] e (0, 0))) : SrcC W (.slice (some ⟨k, 0, none⟩) 1 1) 1 x.cells := by
  refine .inr ⟨_, _, rfl, rfl, fun j u hu => ?_⟩
  rw [WideShapes.add_plain, Nat.zero_add, cell_of_row W k j _ _ _ h, List.getElem?_toArray]
  exact hu
theorem src_part {w : World} {b off i n c : Nat} {Q : Nat → RnV} (h : ∀ j, j < n → CelN w b (off + (i + j) * 3) (Q j)) (o : Nat) (ho : n = 0 ∨ o = off + i * 3) : SrcC w (.slice (some ⟨b, o, none⟩) n c) n (rnCs Q n) := by
  refine .inr ⟨_, _, rfl, rnCs_len _ _, fun j u hu => ?_⟩
  have hj : j < n * 3 := by have := (List.getElem?_eq_some_iff.1 hu).1; rwa [rnCs_len] at this
  rcases ho with rfl | rfl
  · omega
  rw [WideShapes.add_plain]
  have h1 : j / 3 < n := by omega
  have h2 : j % 3 < 3 := Nat.mod_lt _ (by omega)
  have hg := rnCs_get Q n (j / 3) (j % 3) h1 h2
  rw [show j / 3 * 3 + j % 3 = j by omega, hu] at hg
  have := (h (j / 3) h1).all (j % 3) u hg.symm
  rwa [show off + (i + j / 3) * 3 + j % 3 = off + i * 3 + j by omega] at this
theorem src_rd {w : World} {A : Option Addr} {n c : Nat} {P : Nat → RnV} (h : RdN w A n P) (h0 : A = none → n = 0 ∧ c = 0) : SrcC w (.slice A n c) n (rnCs P n) := by
  cases A with
  | none =>
    obtain ⟨rfl, rfl⟩ := h0 rfl
    exact .inl ⟨rfl, rfl, rfl⟩
  | some a =>
    by_cases hn : 0 < n
    · obtain ⟨b, off, e, hc⟩ := h.adr hn
      obtain rfl := Option.some.inj e
      exact src_part (off := off) (i := 0) (fun j hj => by rw [Nat.zero_add]; exact hc j hj) off (Or.inr (by omega))
    · obtain rfl : n = 0 := by omega
      exact .inr ⟨a, c, rfl, rfl, fun j u hu => by cases hu⟩

/-- The two types of a package: a timer and a slice of them. -/
structure TyP (e es : TypeId) : Prop where
  info : (Tryd.prog.info? e).map (fun i => (i.zero, i.size, i.bytes)) = some (some (.agg #[.int .i64 0, .slice none 0 0, .slice none 0 0]), 3, 56)
  und : Tryd.prog.underlying es = some (.slice e)
section
variable {ops : Array Oper} {rest : List Oper} {o : Oper} {a : Act} {w : World} {K : Act → World → Prop} {Q : Exit → Act → World → Prop} {E : Prop} {e es : TypeId}
/-- An append to a row of the call's own, one after another. -/
theorem wpl_own (T : TyP e es) (hgd : o.guard = none) (s x : Operand) (ho : o.op = .call { callee := .builtin .append, args := #[s, x], argTypes := #[es, es] })
    (base : Nat) (v : Value) (n : Nat) (xs : List Value) (hs : a.eval s = v) (hown : w.ownsRow base e 3 v n xs) (X : Value) (m : Nat) (news : List Value) (hx : a.eval x = X) (hsrc : SrcC w X m news) (h1 : ∀ u ∈ news, u.oneCell' = true)
    (hlim : n + m ≤ 1048577) (hbase : base ≤ w.heap.size) (N : Nat) (hN : n + m = N)
    (h : ∀ v' w', w'.ownsRow base e 3 v' N (xs ++ news) → w.grownBy w' v.ownBlock → wpList Tryd.prog ops Q rest (a.put o.dst v') w') : wpList Tryd.prog ops Q (o :: rest) a w := by
  subst hN
  obtain ⟨i0, hi0, hz0, hz1, hz2⟩ := info_parts T.info
  rcases hsrc with ⟨rfl, rfl, rfl⟩ | ⟨ad, c, rfl, hl, hc⟩
  · exact wpList_append_own_none hgd s x es ho base e i0 3 T.und hi0 v n xs hs hown hx (h v w (by rw [List.append_nil]; exact hown) ⟨rfl, rfl, rfl, Nat.le_refl _, fun _ _ _ => rfl⟩)
  · exact wpList_append_own (P := Tryd.prog) w hgd s x es ho base e i0 _ 3 56 T.und hi0 hz0 hz1 hz2 rfl (by decide) v n xs hs hown ad m c news hx hl hc h1 (by unfold maxLen; omega) (by omega) hbase fun v' w' h2 h3 _ => h v' w' h2 h3
/-- .. at a step of a region that draws. -/
theorem step_own (T : TyP e es) (hgd : o.guard = none) (s x : Operand) (ho : o.op = .call { callee := .builtin .append, args := #[s, x], argTypes := #[es, es] })
    (base : Nat) (v : Value) (n : Nat) (xs : List Value) (hs : a.eval s = v) (hown : w.ownsRow base e 3 v n xs) (X : Value) (m : Nat) (news : List Value) (hx : a.eval x = X) (hsrc : SrcC w X m news) (h1 : ∀ u ∈ news, u.oneCell' = true)
    (hlim : n + m ≤ 1048577) (hbase : base ≤ w.heap.size) (N : Nat) (hN : n + m = N)
    (h : ∀ v' w', w'.ownsRow base e 3 v' N (xs ++ news) → w.grownBy w' v.ownBlock → K (a.put o.dst v') w') :
    if Region.wanted o (yielded ops a.tmps) = true then Oper.wp Tryd.prog o a w K Q else E := by
  have hw : Region.wanted o (yielded ops a.tmps) = true := by simp [Region.wanted, hgd]
  rw [if_pos hw]
  subst hN
  obtain ⟨i0, hi0, hz0, hz1, hz2⟩ := info_parts T.info
  rcases hsrc with ⟨rfl, rfl, rfl⟩ | ⟨ad, c, rfl, hl, hc⟩
  · have hrun := run_append_owned_none (P := Tryd.prog) (w := w) base es o.type e i0 3 T.und hi0 v n xs hown
    have hg : w.grownBy w v.ownBlock := ⟨rfl, rfl, rfl, Nat.le_refl _, fun _ _ _ => rfl⟩
    have := h v w (by rw [List.append_nil]; exact hown) hg
    unfold Oper.wp
    simp [execOp, ho, resolve, invoke, builtin, hs, hx, hrun, Result.andThen]
    exact this
  · exact wp_append_own (P := Tryd.prog) w s x es ho base e i0 _ 3 56 T.und hi0 hz0 hz1 hz2 rfl (by decide) v n xs hs hown ad m c news hx hl hc h1 (by unfold maxLen; omega) (by omega) hbase fun v' w' h2 h3 _ => h v' w' h2 h3
end
end Go.Proofs.YtokopegffeablaaDoor.T12
