/-
  Appends of amounts to an empty row of the call's own. Condition: at most 1048576 amounts.
-/
import Derived.Test.YtokopegffeablaaDoorNd12
namespace Go.Proofs.YtokopegffeablaaDoor.T12
open Go.RowKit Go.Sort Go.Lib V12

theorem Tryd.infoN12 : (Tryd.prog.info? 2).map (fun i => (i.zero, i.size, i.bytes)) = some (some (.int .i64 0), 1, 8) := by kernel_rfl
theorem rowL_one (n : Nat) (Z : Nat → Int) : ∀ u ∈ rowL n Z, u.oneCell' = true := by
  intro u hu
  simp only [rowL, List.mem_map] at hu
  obtain ⟨k, _, rfl⟩ := hu
  rfl
theorem news_of {w : World} {a : Addr} {n : Nat} {Z : Nat → Int} (h : Rd w (some a) n Z) : ∀ j u, (rowL n Z)[j]? = some u → w.cell? (a.add j) = some u := by
  intro j u hu
  have hj : j < n := by
    have := (List.getElem?_eq_some_iff.1 hu).1
    simpa [rowL] using this
  obtain ⟨b, off, e, hc⟩ := h.adr (by omega)
  obtain rfl := Option.some.inj e
  rw [WideShapes.add_plain, hc j hj]
  simpa [rowL, hj] using hu
theorem rd_own {w : World} {base n cap : Nat} {A : Option Addr} {D : Nat → Int} (h : w.ownsRow base 2 1 (.slice A n cap) n (rowL n D)) (hn : n ≤ 9223372036854775807) (hr : ∀ k, k < n → -9223372036854775808 ≤ D k ∧ D k ≤ 9223372036854775807) : Rd w A n D := by
  rcases h.2 with ⟨e, rfl⟩ | ⟨g, cap, cur, e, _⟩
  · exact Rd.nil _ _ _
  · simp only [Value.slice.injEq] at e
    obtain ⟨rfl, _, _⟩ := e
    refine ⟨hn, hr, fun _ => ⟨g, 0, rfl, fun j hj => ?_⟩⟩
    have := h.cells (g := g) rfl j (.int .i64 (D j)) (by simp [rowL, hj])
    rwa [WideShapes.add_plain] at this
theorem own_none {W : World} {base k : Nat} {e : TypeId} (hb : base ≤ k) (h : W.heap[k]? = some (.cells #[] e (0, 0))) : W.ownsRow base e 1 (.slice (some ⟨k, 0, none⟩) 0 0) 0 [] :=
  ⟨rfl, .inr ⟨k, 0, #[], rfl, hb, h, Nat.le_refl _, Nat.zero_le _, rfl, rfl⟩⟩
section
variable {ops : Array Oper} {rest : List Oper} {o : Oper} {a : Act} {w : World} {K : Act → World → Prop} {Q : Exit → Act → World → Prop} {E : Prop}
theorem wpl_amounts (hgd : o.guard = none) (s x : Operand) (ho : o.op = .call { callee := .builtin .append, args := #[s, x], argTypes := #[23, 23] })
    (base : Nat) (v : Value) (hs : a.eval s = v) (hown : w.ownsRow base 2 1 v 0 []) (A : Option Addr) (m c : Nat) (Z : Nat → Int) (hx : a.eval x = .slice A m c) (hr : Rd w A m Z) (h0 : A = none → m = 0 ∧ c = 0)
    (hlim : m ≤ 1048576) (hbase : base ≤ w.heap.size)
    (h : ∀ v' w', w'.ownsRow base 2 1 v' m (rowL m Z) → w.grownBy w' v.ownBlock → wpList Tryd.prog ops Q rest (a.put o.dst v') w') : wpList Tryd.prog ops Q (o :: rest) a w := by
  obtain ⟨i0, hi0, hz0, hz1, hz2⟩ := info_parts Tryd.infoN12
  cases A with
  | none =>
    obtain ⟨rfl, rfl⟩ := h0 rfl
    exact wpList_append_own_none hgd s x 23 ho base 2 i0 1 Tryd.underlying23 hi0 v 0 [] hs hown hx (h v w hown ⟨rfl, rfl, rfl, Nat.le_refl _, fun _ _ _ => rfl⟩)
  | some ad =>
    refine wpList_append_own (P := Tryd.prog) w hgd s x 23 ho base 2 i0 _ 1 8 Tryd.underlying23 hi0 hz0 hz1 hz2 rfl (by decide) v 0 [] hs hown ad m c (rowL m Z) hx (by simp [rowL]) (news_of hr) (rowL_one m Z) (by unfold maxLen; omega) (by omega) hbase fun v' w' h2 h3 _ => h v' w' ?_ h3
    rw [Nat.zero_add, List.nil_append] at h2
    exact h2
/-- .. at a step of a region that draws. -/
theorem step_amounts (hgd : o.guard = none) (s x : Operand) (ho : o.op = .call { callee := .builtin .append, args := #[s, x], argTypes := #[23, 23] })
    (base : Nat) (v : Value) (hs : a.eval s = v) (hown : w.ownsRow base 2 1 v 0 []) (A : Option Addr) (m c : Nat) (Z : Nat → Int) (hx : a.eval x = .slice A m c) (hr : Rd w A m Z) (h0 : A = none → m = 0 ∧ c = 0)
    (hlim : m ≤ 1048576) (hbase : base ≤ w.heap.size)
    (h : ∀ v' w', w'.ownsRow base 2 1 v' m (rowL m Z) → w.grownBy w' v.ownBlock → K (a.put o.dst v') w') :
    if Region.wanted o (yielded ops a.tmps) = true then Oper.wp Tryd.prog o a w K Q else E := by
  have hw : Region.wanted o (yielded ops a.tmps) = true := by simp [Region.wanted, hgd]
  rw [if_pos hw]
  obtain ⟨i0, hi0, hz0, hz1, hz2⟩ := info_parts Tryd.infoN12
  cases A with
  | none =>
    obtain ⟨rfl, rfl⟩ := h0 rfl
    have hrun := run_append_owned_none (P := Tryd.prog) (w := w) base 23 o.type 2 i0 1 Tryd.underlying23 hi0 v 0 [] hown
    have hg : w.grownBy w v.ownBlock := ⟨rfl, rfl, rfl, Nat.le_refl _, fun _ _ _ => rfl⟩
    have := h v w hown hg
    unfold Oper.wp
    simp [execOp, ho, resolve, invoke, builtin, hs, hx, hrun, Result.andThen]
    exact this
  | some ad =>
    refine wp_append_own (P := Tryd.prog) w s x 23 ho base 2 i0 _ 1 8 Tryd.underlying23 hi0 hz0 hz1 hz2 rfl (by decide) v 0 [] hs hown ad m c (rowL m Z) hx (by simp [rowL]) (news_of hr) (rowL_one m Z) (by unfold maxLen; omega) (by omega) hbase fun v' w' h2 h3 _ => h v' w' ?_ h3
    rw [Nat.zero_add, List.nil_append] at h2
    exact h2
end
end Go.Proofs.YtokopegffeablaaDoor.T12
