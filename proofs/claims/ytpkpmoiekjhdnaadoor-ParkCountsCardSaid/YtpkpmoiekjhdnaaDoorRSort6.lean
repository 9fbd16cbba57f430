/-
  The reference's Sort: by insertion. Conditions: at most 1048576 pods, priorities up to 2^30.
-/
import Derived.Test.YtpkpmoiekjhdnaaDoorInsMath6
import Derived.Test.YtpkpmoiekjhdnaaDoorRefC6
import Derived.Test.YtpkpmoiekjhdnaaDoorKSort6
import Derived.Deep.RegionLaw
namespace Go.Proofs.YtpkpmoiekjhdnaaDoor
open Go.RowKit Go.Sort Go.Shelf

/-- What is appended: nothing at all, or cells. -/
def SrcP (w : World) (X : Value) (m : Nat) (news : List Value) : Prop :=
  (X = .slice none 0 0 ∧ m = 0 ∧ news = []) ∨ ∃ ad c, X = .slice (some ad) m c ∧ news.length = m * 9 ∧ ∀ j u, news[j]? = some u → w.cell? (ad.add j) = some u
theorem own_empty {W : World} {base k : Nat} (hb : base ≤ k) (h : W.heap[k]? = some (.cells #[] 35 (0, 0))) : W.ownsRow base 35 9 (.slice (some ⟨k, 0, none⟩) 0 0) 0 [] :=
  ⟨rfl, .inr ⟨k, 0, #[], rfl, hb, h, Nat.le_refl _, Nat.zero_le _, rfl, rfl⟩⟩
theorem src_one {W : World} {k : Nat} {x : PodV} (h : W.heap[k]? = some (.cells #[.int .i64 x.k, .int .i64 x.p, .bool x.f, .int .i64 x.g, .slice x.A x.m x.c, .int .i64 x.a, .int .i64 x.h, .int .i64 x.d, .int .i64 x.t] 35 (0, 0))) : SrcP W (.slice (some ⟨k, 0, none⟩) 1 1) 1 x.cells := by
  refine .inr ⟨_, _, rfl, rfl, fun j u hu => ?_⟩
  rw [WideShapes.add_plain, Nat.zero_add, cell_of_row W k j _ _ _ h, List.getElem?_toArray]
  exact hu

theorem own_cap {w : World} {base n z c : Nat} {e : TypeId} {A : Option Addr} {xs : List Value} (h : w.ownsRow base e z (.slice A n c) n xs) : n ≤ c := by
  rcases h.2 with ⟨hv, h0⟩ | ⟨_, _, _, hv, _, _, hc, _⟩
  · omega
  · simp only [Value.slice.injEq] at hv
    omega
theorem podCs_one (Q : Nat → PodV) : ∀ n, ∀ u ∈ podCs Q n, u.oneCell' = true
  | 0, u, h => by cases h
  | n + 1, u, h => by
    rcases List.mem_append.1 h with h | h
    · exact podCs_one Q n u h
    · exact cells_one _ u h
theorem hp2 (w : World) (o : Obj) (cs : Array Value) (T : TypeId) : ((w.alloc o).alloc (.cells cs T)).heap[w.heap.size + 1]? = some (.cells cs T (0, 0)) := by
  have := heap_alloc_new (w.alloc o) (.cells cs T)
  rwa [World.size_alloc] at this
theorem hp1 (w : World) (o : Obj) (cs : Array Value) (T : TypeId) : ((w.alloc (.cells cs T)).alloc o).heap[w.heap.size]? = some (.cells cs T (0, 0)) := (Keep.one _ _).block (heap_alloc_new w _)

section
variable {ops : Array Oper} {o : Oper} {a : Act} {w : World} {K : Act → World → Prop} {Q : Exit → Act → World → Prop} {E : Prop}
theorem step_own (hgd : o.guard = none) (s x : Operand) (ho : o.op = .call { callee := .builtin .append, args := #[s, x], argTypes := #[27, 27] })
    (base : Nat) (v : Value) (n : Nat) (xs : List Value) (hs : a.eval s = v) (hown : w.ownsRow base 35 9 v n xs) (X : Value) (m : Nat) (news : List Value) (hx : a.eval x = X) (hsrc : SrcP w X m news) (h1 : ∀ u ∈ news, u.oneCell' = true)
    (hlim : n + m ≤ 1048577) (hbase : base ≤ w.heap.size) (N : Nat) (hN : n + m = N)
    (h : ∀ v' w', w'.ownsRow base 35 9 v' N (xs ++ news) → w.grownBy w' v.ownBlock → K (a.put o.dst v') w') :
    if Region.wanted o (yielded ops a.tmps) = true then Oper.wp Tryd.prog o a w K Q else E := by
  have hw : Region.wanted o (yielded ops a.tmps) = true := by simp [Region.wanted, hgd]
  rw [if_pos hw]
  subst hN
  obtain ⟨i0, hi0, hz0, hz1, hz2⟩ := info_parts Tryd.infoPod
  rcases hsrc with ⟨rfl, rfl, rfl⟩ | ⟨ad, c, rfl, hl, hc⟩
  · have hrun := run_append_owned_none (P := Tryd.prog) (w := w) base 27 o.type 35 i0 9 Tryd.underlying27 hi0 v n xs hown
    have hg : w.grownBy w v.ownBlock := ⟨rfl, rfl, rfl, Nat.le_refl _, fun _ _ _ => rfl⟩
    have := h v w (by rw [List.append_nil]; exact hown) hg
    unfold Oper.wp
    simp [execOp, ho, resolve, invoke, builtin, hs, hx, hrun, Result.andThen]
    exact this
  · exact wp_append_own (P := Tryd.prog) w s x 27 ho base 35 i0 _ 9 88 Tryd.underlying27 hi0 hz0 hz1 hz2 rfl (by decide) v n xs hs hown ad m c news hx hl hc h1 (by unfold maxLen; omega) (by omega) hbase fun v' w' h2 h3 _ => h v' w' h2 h3
end

/-- The two parts of a row, as sources. -/
theorem src_lo {wr : World} {base i cap g : Nat} {Q : Nat → PodV} (h : wr.ownsRow base 35 9 (.slice (some ⟨g, 0, none⟩) i cap) i (podCs Q i)) {at_ : Nat} (ha : at_ ≤ i) {W : World} (k : Keep wr W) : SrcP W (.slice (some ⟨g, 0, none⟩) at_ cap) at_ (podCs Q at_) := by
  refine .inr ⟨_, _, rfl, podCs_len _ _, fun j u hu => ?_⟩
  have hj : j < at_ * 9 := by have := (List.getElem?_eq_some_iff.1 hu).1; rwa [podCs_len] at this
  rw [WideShapes.add_plain, Nat.zero_add]
  refine k.cell ?_
  rw [h.cellAt j (by omega)]
  have e2 : i = at_ + (i - at_) := by omega
  rw [e2, podCs_add, List.getElem?_append_left (by rw [podCs_len]; exact hj)]
  exact hu
theorem src_hi {wr : World} {base i cap g : Nat} {Q : Nat → PodV} (h : wr.ownsRow base 35 9 (.slice (some ⟨g, 0, none⟩) i cap) i (podCs Q i)) {at_ : Nat} (ha : at_ ≤ i) (hc : i ≤ cap) {W : World} (k : Keep wr W) :
    SrcP W (.slice (if cap = at_ then some ⟨g, 0, none⟩ else some ⟨g, at_ * 9, none⟩) (i - at_) (cap - at_)) (i - at_) (podCs (fun t => Q (at_ + t)) (i - at_)) := by
  by_cases he : cap = at_
  · rw [if_pos he]
    refine .inr ⟨_, _, rfl, podCs_len _ _, fun j u hu => ?_⟩
    have hj : j < (i - at_) * 9 := by have := (List.getElem?_eq_some_iff.1 hu).1; rwa [podCs_len] at this
    omega
  · rw [if_neg he]
    refine .inr ⟨_, _, rfl, podCs_len _ _, fun j u hu => ?_⟩
    have hj : j < (i - at_) * 9 := by have := (List.getElem?_eq_some_iff.1 hu).1; rwa [podCs_len] at this
    rw [WideShapes.add_plain]
    refine k.cell ?_
    rw [h.cellAt (at_ * 9 + j) (by omega)]
    have e2 : i = at_ + (i - at_) := by omega
    rw [e2, podCs_add, List.getElem?_append_right (by rw [podCs_len]; omega), podCs_len, Nat.add_sub_cancel_left]
    exact hu
theorem src_all {wr : World} {base i cap g : Nat} {Q : Nat → PodV} (h : wr.ownsRow base 35 9 (.slice (some ⟨g, 0, none⟩) i cap) i (podCs Q i)) {W : World} (k : Keep wr W) :
    SrcP W (.slice (some ⟨g, 0, none⟩) i cap) (i - 0) (podCs (fun t => Q (0 + t)) (i - 0)) := by
  have := src_lo h (Nat.le_refl i) k
  rw [Nat.sub_zero, podCs_congr (R := Q) i (fun t _ => by rw [Nat.zero_add])]
  exact this
end Go.Proofs.YtpkpmoiekjhdnaaDoor
