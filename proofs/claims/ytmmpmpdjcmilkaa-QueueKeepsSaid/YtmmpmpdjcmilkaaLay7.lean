/-
  Rows of pods laid out, read and appended to. No condition.
-/
import Derived.Test.YtmmpmpdjcmilkaaQPush7
import Derived.Test.YtmmpmpdjcmilkaaRSort7
import Derived.Test.YtmmpmpdjcmilkaaRefC6
namespace Go.Proofs.Ytmmpmpdjcmilkaa
open Go.RowKit Go.Sort Go.Lib Go.Shelf

theorem rd_lay1 {W : World} {w : World} {cs : Array Value} {L : List PodV} (hk : Keep w (W.alloc (.cells cs 32))) (hl : L.length ≤ 100) (hx : ∀ x ∈ L, PodIs w x) (hc : cs = (L.flatMap PodV.cells).toArray) (d : PodV) : RdPods (W.alloc (.cells cs 32)) (some ⟨W.heap.size, 0, none⟩) L.length (fun t => L.getD t d) := by
  subst hc
  have get : ∀ (M : List PodV) (j i : Nat), j < M.length → i < 9 → (M.flatMap PodV.cells)[j * 9 + i]? = (M.getD j d).cells[i]? := by
    intro M
    induction M with
    | nil => intro j i h _; exact absurd h (Nat.not_lt_zero _)
    | cons x M ih =>
      intro j i h hi
      show (PodV.cells x ++ M.flatMap PodV.cells)[j * 9 + i]? = _
      cases j with
      | zero => rw [List.getElem?_append_left (by rw [cells9]; omega)]; simp
      | succ j =>
        rw [List.getElem?_append_right (by rw [cells9]; omega), cells9, show (j + 1) * 9 + i - 9 = j * 9 + i by omega, ih j i (by simpa using h) hi]
        rfl
  refine ⟨by omega, fun _ => ⟨_, 0, rfl, fun j hj => cel_of fun i u hu => ?_⟩, fun j hj => ?_⟩
  · have hi : i < 9 := (List.getElem?_eq_some_iff.1 hu).1
    rw [Nat.zero_add, World.cell?_alloc_new, List.getElem?_toArray, get L j i hj hi]
    exact hu
  · refine (hx _ ?_).keep hk
    rw [List.getD_eq_getElem?_getD, List.getElem?_eq_getElem hj]
    exact List.getElem_mem hj
theorem src_rd {w : World} {A : Option Addr} {n c : Nat} {P : Nat → PodV} (h : RdPods w A n P) (h0 : A = none → n = 0 ∧ c = 0) : SrcP w (.slice A n c) n (podCs P n) := by
  cases A with
  | none =>
    obtain ⟨rfl, rfl⟩ := h0 rfl
    exact .inl ⟨rfl, rfl, rfl⟩
  | some a =>
    refine .inr ⟨a, c, rfl, podCs_len _ _, fun j u hu => ?_⟩
    have hj : j < n * 9 := by have := (List.getElem?_eq_some_iff.1 hu).1; rwa [podCs_len] at this
    obtain ⟨b, off, e, hc⟩ := h.adr (by omega)
    obtain rfl := Option.some.inj e
    rw [WideShapes.add_plain]
    have hg := podCs_get P n (j / 9) (j % 9) (by omega) (Nat.mod_lt _ (by omega))
    rw [show j / 9 * 9 + j % 9 = j by omega, hu] at hg
    have hC := hc (j / 9) (by omega)
    have hm : j % 9 < 9 := Nat.mod_lt _ (by omega)
    have ej : off + j = off + j / 9 * 9 + j % 9 := by omega
    rw [ej]
    generalize j % 9 = i at hg hm ⊢
    obtain rfl | rfl | rfl | rfl | rfl | rfl | rfl | rfl | rfl : i = 0 ∨ i = 1 ∨ i = 2 ∨ i = 3 ∨ i = 4 ∨ i = 5 ∨ i = 6 ∨ i = 7 ∨ i = 8 := by omega
    · rw [Nat.add_zero, hC.e0, hg]; rfl
    · rw [hC.e1, hg]; rfl
    · rw [hC.e2, hg]; rfl
    · rw [hC.e3, hg]; rfl
    · rw [hC.e4, hg]; rfl
    · rw [hC.e5, hg]; rfl
    · rw [hC.e6, hg]; rfl
    · rw [hC.e7, hg]; rfl
    · rw [hC.e8, hg]; rfl
/-- An append to a row of the call's own, one after another. -/
theorem wpl_own {ops : Array Oper} {rest : List Oper} {o : Oper} {a : Act} {w : World} {Q : Exit → Act → World → Prop} (hgd : o.guard = none) (s x : Operand) (ho : o.op = .call { callee := .builtin .append, args := #[s, x], argTypes := #[27, 27] })
    (base : Nat) (v : Value) (n : Nat) (xs : List Value) (hs : a.eval s = v) (hown : w.ownsRow base 32 9 v n xs) (X : Value) (m : Nat) (news : List Value) (hx : a.eval x = X) (hsrc : SrcP w X m news) (h1 : ∀ u ∈ news, u.oneCell' = true)
    (hlim : n + m ≤ 1048577) (hbase : base ≤ w.heap.size) (N : Nat) (hN : n + m = N)
    (h : ∀ v' w', w'.ownsRow base 32 9 v' N (xs ++ news) → w.grownBy w' v.ownBlock → wpList Try.prog ops Q rest (a.put o.dst v') w') : wpList Try.prog ops Q (o :: rest) a w := by
  subst hN
  obtain ⟨i0, hi0, hz0, hz1, hz2⟩ := info_parts Try.infoPod
  rcases hsrc with ⟨rfl, rfl, rfl⟩ | ⟨ad, c, rfl, hl, hc⟩
  · exact wpList_append_own_none hgd s x 27 ho base 32 i0 9 Try.underlying27 hi0 v n xs hs hown hx (h v w (by rw [List.append_nil]; exact hown) ⟨rfl, rfl, rfl, Nat.le_refl _, fun _ _ _ => rfl⟩)
  · exact wpList_append_own (P := Try.prog) w hgd s x 27 ho base 32 i0 _ 9 88 Try.underlying27 hi0 hz0 hz1 hz2 rfl (by decide) v n xs hs hown ad m c news hx hl hc h1 (by unfold maxLen; omega) (by omega) hbase fun v' w' h2 h3 _ => h v' w' h2 h3
theorem fz_keep {w w' : World} {g t : Nat} (k : Keep w w') (hg : g < w.heap.size) (h : w.frozen? ⟨g, t, none⟩ = false) : w'.frozen? ⟨g, t, none⟩ = false := by
  have e : w'.heap[g]? = w.heap[g]? := (show Below w.heap.size w w' from k).block g hg
  simp only [World.frozen?, e] at h ⊢
  exact h
theorem rows_rd {w : World} {base n : Nat} {B : Option Addr} {d : Nat} {Q : Nat → PodV} (h : w.ownsRow base 32 9 (.slice B n d) n (podCs Q n)) (hn : n ≤ 1048576) (hi : ∀ j, j < n → PodIs w (Q j)) : RdPods w B n Q :=
  ⟨by omega, fun hp => by
    obtain ⟨g, cap, e, _, _⟩ := h.form hp
    have e' := e
    simp only [Value.slice.injEq] at e'
    obtain ⟨rfl, _, rfl⟩ := e'
    exact ⟨g, 0, rfl, fun t ht => row_cel h ht⟩, hi⟩

end Go.Proofs.Ytmmpmpdjcmilkaa
