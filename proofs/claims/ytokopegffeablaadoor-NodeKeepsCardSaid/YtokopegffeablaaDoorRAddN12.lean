/-
  The reference's Add. Conditions: at most 1000 nodes, sorted; at most 1000 amounts.
-/
import Derived.Test.YtokopegffeablaaDoorAmtN12
import Derived.Deep.CutBlock
namespace Go.Proofs.YtokopegffeablaaDoor.T12
open Go.RowKit Go.Sort Go.Lib V12

theorem cel_laid (w : World) (x : RnV) (T : TypeId) (cs : Array Value) (h : cs = #[.int .i64 x.k, .slice x.A x.n x.c, .slice x.B x.m x.d]) : CelN (w.alloc (.cells cs T)) w.heap.size 0 x := by
  subst h
  constructor <;> simp [World.cell?_alloc_new]
theorem hp2 (w : World) (o : Obj) (cs : Array Value) (T : TypeId) : ((w.alloc o).alloc (.cells cs T)).heap[w.heap.size + 1]? = some (.cells cs T (0, 0)) := by
  have := heap_alloc_new (w.alloc o) (.cells cs T)
  rwa [World.size_alloc] at this
theorem hp1 (w : World) (o : Obj) (cs : Array Value) (T : TypeId) : ((w.alloc (.cells cs T)).alloc o).heap[w.heap.size]? = some (.cells cs T (0, 0)) := (Keep.one _ _).block (heap_alloc_new w _)
section
variable {w W : World} {b off n c : Nat} {P : Nat → RnV}
theorem src_lo (h : ∀ j, j < n → CelN w b (off + j * 3) (P j)) {i : Nat} (hi : i ≤ n) (k : Keep w W) : SrcC W (.slice (some ⟨b, off, none⟩) i c) i (rnCs P i) :=
  src_part (off := off) (i := 0) (fun j hj => by rw [Nat.zero_add]; exact (h j (by omega)).keep k) off (Or.inr (by omega))
theorem src_hi (h : ∀ j, j < n → CelN w b (off + j * 3) (P j)) {i : Nat} (hi : i ≤ n) (hc : n ≤ c) (k : Keep w W) : SrcC W (.slice (if c = i then some ⟨b, off, none⟩ else some ⟨b, off + i * 3, none⟩) (n - i) (c - i)) (n - i) (rnCs (fun t => P (i + t)) (n - i)) := by
  by_cases he : c = i
  · rw [if_pos he]
    exact src_part (off := off) (i := i) (fun j hj => (h (i + j) (by omega)).keep k) off (Or.inl (by omega))
  · rw [if_neg he]
    exact src_part (off := off) (i := i) (fun j hj => (h (i + j) (by omega)).keep k) _ (Or.inr rfl)
theorem src_all (h : ∀ j, j < n → CelN w b (off + j * 3) (P j)) (k : Keep w W) : SrcC W (.slice (some ⟨b, off, none⟩) n c) (n - 0) (rnCs (fun t => P (0 + t)) (n - 0)) := by
  have := src_lo (c := c) h (Nat.le_refl n) k
  rw [Nat.sub_zero, rnCs_congr (R := P) n (fun t _ => by rw [Nat.zero_add])]
  exact this
end
theorem wp_amounts {o : Oper} {a : Act} {w : World} {K : Act → World → Prop} {Q : Exit → Act → World → Prop} (s x : Operand) (ho : o.op = .call { callee := .builtin .append, args := #[s, x], argTypes := #[23, 23] })
    (base : Nat) (v : Value) (hs : a.eval s = v) (hown : w.ownsRow base 2 1 v 0 []) (A : Option Addr) (m c : Nat) (Z : Nat → Int) (hx : a.eval x = .slice A m c) (hr : Rd w A m Z) (h0 : A = none → m = 0 ∧ c = 0)
    (hlim : m ≤ 1048576) (hbase : base ≤ w.heap.size)
    (h : ∀ v' w', w'.ownsRow base 2 1 v' m (rowL m Z) → w.grownBy w' v.ownBlock → K (a.put o.dst v') w') : Oper.wp Tryd.prog o a w K Q := by
  obtain ⟨i0, hi0, hz0, hz1, hz2⟩ := info_parts Tryd.infoN12
  cases A with
  | none =>
    obtain ⟨rfl, rfl⟩ := h0 rfl
    have hrun := run_append_owned_none (P := Tryd.prog) (w := w) base 23 o.type 2 i0 1 Tryd.underlying23 hi0 v 0 [] hown
    have hg : w.grownBy w v.ownBlock := ⟨rfl, rfl, rfl, Nat.le_refl _, fun _ _ _ => rfl⟩
    have := h v w hown hg
    unfold Oper.wp
    simp [execOp, ho, resolve, invoke, builtin, hs, hx, hrun, Result.andThen]
    exact this
  | some ad =>
    refine wp_append_own (P := Tryd.prog) w s x 23 ho base 2 i0 _ 1 8 Tryd.underlying23 hi0 hz0 hz1 hz2 rfl (by decide) v 0 [] hs hown ad m c (rowL m Z) hx (by simp [rowL]) (news_of hr) (rowL_one m Z) (by unfold maxLen; omega) (by omega) hbase fun v' w' h2 h3 _ => h v' w' ?_ h3
    rw [Nat.zero_add, List.nil_append] at h2
    exact h2
theorem lt_of_block {w : World} {k : Nat} {o : Obj} (h : w.heap[k]? = some o) : k < w.heap.size := (Array.getElem?_eq_some_iff.1 h).1
theorem tri_set {w : World} {s : Nat} {p q r u : Value} {T : TypeId} (h : w.heap[s]? = some (.cells #[p, q, r] T (0, 0))) :
    (w.setCell ⟨s, 0, none⟩ u).heap[s]? = some (.cells #[u, q, r] T (0, 0)) ∧ (w.setCell ⟨s, 1, none⟩ u).heap[s]? = some (.cells #[p, u, r] T (0, 0)) ∧ (w.setCell ⟨s, 2, none⟩ u).heap[s]? = some (.cells #[p, q, u] T (0, 0)) := by
  have hlt := lt_of_block h
  have h' : w.heap[s] = .cells #[p, q, r] T (0, 0) := by simpa [Array.getElem?_eq_getElem hlt] using h
  refine ⟨?_, ?_, ?_⟩
  all_goals
    show (w.heap.modify s _)[s]? = _
    rw [Array.getElem?_eq_getElem (by simpa using hlt), Array.getElem_modify_self, h']
    rfl
theorem set3N {w : World} {s : Nat} {p q r a b c : Value} {T : TypeId} (h : w.heap[s]? = some (.cells #[p, q, r] T (0, 0))) : (((w.setCell ⟨s, 0, none⟩ a).setCell ⟨s, 1, none⟩ b).setCell ⟨s, 2, none⟩ c).heap[s]? = some (.cells #[a, b, c] T (0, 0)) := (tri_set (tri_set (tri_set h).1).2.1).2.2
theorem set3_other {w : World} {s k : Nat} {a b c : Value} (h : k ≠ s) : (((w.setCell ⟨s, 0, none⟩ a).setCell ⟨s, 1, none⟩ b).setCell ⟨s, 2, none⟩ c).heap[k]? = w.heap[k]? := by
  rw [Below.heap_setCell _ _ _ _ h, Below.heap_setCell _ _ _ _ h, Below.heap_setCell _ _ _ _ h]
theorem celN {w : World} {s : Nat} {p q r : Value} {T : TypeId} (h : w.heap[s]? = some (.cells #[p, q, r] T (0, 0))) : w.cell? ⟨s, 0, none⟩ = some p ∧ w.cell? ⟨s, 1, none⟩ = some q ∧ w.cell? ⟨s, 2, none⟩ = some r ∧ ∀ i, w.frozen? ⟨s, i, none⟩ = false := by
  refine ⟨?_, ?_, ?_, fun i => frozen_of_row w s i _ _ h⟩ <;> rw [cell_of_row w s _ _ _ _ h] <;> rfl
theorem row_ne {w : World} {b n z k : Nat} {e1 e2 : TypeId} {v : Value} {xs : List Value} {cs : Array Value} {fl : Nat × Nat} (h : w.ownsRow b e1 z v n xs) (hb : w.heap[k]? = some (.cells cs e2 fl)) (he : e1 ≠ e2) : ∀ g, v.ownBlock = some g → g ≠ k := by
  intro g hg e
  subst e
  rcases h.2 with ⟨rfl, _⟩ | ⟨g1, c1, u1, rfl, _, k1, _⟩
  · simp [Value.ownBlock] at hg
  · simp [Value.ownBlock] at hg
    subst hg
    rw [hb] at k1
    simp at k1
    exact he k1.2.1.symm
theorem rd_made {w : World} {g n : Nat} (h : w.heap[g]? = some (.cells (madeCells #[.int .i64 0] n) 2 (0, 0))) (hn : n ≤ 1000) : Rd w (some ⟨g, 0, none⟩) n fun _ => 0 := by
  refine ⟨by omega, fun _ _ => by decide, fun _ => ⟨g, 0, rfl, fun j hj => ?_⟩⟩
  have hs : (madeCells #[.int .i64 0] n).size = n := by simp [madeCells]
  rw [Nat.zero_add, cell_of_row w g j _ _ _ h, Array.getElem?_eq_getElem (by omega)]
  simp [madeCells, Nat.mod_one]
end Go.Proofs.YtokopegffeablaaDoor.T12
