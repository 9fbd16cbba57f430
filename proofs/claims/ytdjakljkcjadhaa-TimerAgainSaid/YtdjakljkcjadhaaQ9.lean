/-
  A list of timers in memory: what its blocks hold. No condition.
-/
import Derived.Test.YtdjakljkcjadhaaCmp9
import Derived.Test.YtdjakljkcjadhaaMap7
import Derived.Test.YtdjakljkcjadhaaHeapM9
namespace Go.Proofs.Ytdjakljkcjadhaa.T9
open Go.RowKit Go.Sort Go.Lib Go.Shelf
open Go.ChangeMaps (setBlock)

theorem Fr.put {D : Nat → Prop} {a b : World} (h : Fr D a b) {B : Nat} (hp : D B ∨ a.heap.size ≤ B) (o : Obj) : Fr D a (setBlock b B o) :=
  ⟨h.os, h.tape, h.output, by simp [setBlock]; exact h.size, fun k hk hn => by
    rw [heap_setBlock_ne (fun e => hp.elim (fun h => hn (by rw [e]; exact h)) (fun h => absurd h (by omega)))]; exact h.block k hk hn⟩

/-- The blocks of a list. -/
def Foot (bq B : Nat) (A : Option Addr) (k : Nat) : Prop := k = bq ∨ k = B ∨ ∃ off, A = some ⟨k, off, none⟩
def Places (n : Nat) (Q : Nat → TmV) (f : Int → Option Int) : Prop := ∀ k v, f k = some v ↔ ∃ j, j < n ∧ (Q j).k = k ∧ v = (j : Int)
structure TMem (w : World) (b bq B : Nat) (A : Option Addr) (c n : Nat) (Q : Nat → TmV) : Prop where
  hq : w.heap[bq]? = some (.cells #[.slice A n c, .map (some B)] 55 (0, 0))
  row : w.ownsRow b 33 3 (.slice A n c) n (tmCs Q n)
  ok : ∀ j, j < n → TmOk (Q j)
  map : ∃ f, MapI w B f ∧ Places n Q f
  lim : n ≤ 1000
  lo : b ≤ bq ∧ b ≤ B ∧ b ≤ w.heap.size
theorem own_zero {w : World} {base n z c g : Nat} {e : TypeId} {A : Option Addr} {xs : List Value} (h : w.ownsRow base e z (.slice A n c) n xs) (hg : (Value.slice A n c).ownBlock = some g) : A = some ⟨g, 0, none⟩ := by
  rcases h.2 with ⟨e, _⟩ | ⟨g', cap, cur, e, _⟩
  · rw [e] at hg; cases hg
  · rw [e] at hg
    simp only [Value.slice.injEq] at e
    rw [e.1]
    have : g' = g := by simpa [Value.ownBlock] using hg
    rw [this]
/-- What lies in the row's block. -/
theorem own_kind {w : World} {base n z c : Nat} {e : TypeId} {A : Option Addr} {xs : List Value} (h : w.ownsRow base e z (.slice A n c) n xs) {k off : Nat} (hA : A = some ⟨k, off, none⟩) : ∃ cur, w.heap[k]? = some (.cells cur e (0, 0)) := by
  rcases h.2 with ⟨e1, _⟩ | ⟨g', cap, cur, e1, _, h5, _⟩
  · rw [hA] at e1; cases e1
  · rw [hA] at e1
    simp only [Value.slice.injEq, Option.some.injEq, Addr.mk.injEq] at e1
    rw [e1.1.1]
    exact ⟨cur, h5⟩
section
variable {w w' : World} {b bq B : Nat} {A : Option Addr} {c n : Nat} {Q : Nat → TmV}
theorem TMem.lt (h : TMem w b bq B A c n Q) : bq < w.heap.size ∧ B < w.heap.size := by
  obtain ⟨f, h1, _⟩ := h.map
  exact ⟨(Array.getElem?_eq_some_iff.1 h.hq).1, h1.lt⟩
theorem TMem.keep (h : TMem w b bq B A c n Q) (k : Keep w w') : TMem w' b bq B A c n Q := by
  have hl := h.lt
  obtain ⟨f, h1, h2⟩ := h.map
  exact ⟨k.block h.hq, own_keep h.row k, h.ok, ⟨f, h1.of (Below.block k _ hl.2), h2⟩, h.lim, h.lo.1, h.lo.2.1, Nat.le_trans h.lo.2.2 k.size⟩
theorem TMem.e0 (h : TMem w b bq B A c n Q) : w.cell? ⟨bq, 0, none⟩ = some (.slice A n c) := by rw [cell_of_row w _ _ _ _ _ h.hq]; rfl
theorem TMem.e1 (h : TMem w b bq B A c n Q) : w.cell? ⟨bq, 1, none⟩ = some (.map (some B)) := by rw [cell_of_row w _ _ _ _ _ h.hq]; rfl
theorem TMem.f0 (h : TMem w b bq B A c n Q) : w.frozen? ⟨bq, 0, none⟩ = false := frozen_of_row w _ _ _ _ h.hq
theorem TMem.at (h : TMem w b bq B A c n Q) (hn : 0 < n) : ∃ g, A = some ⟨g, 0, none⟩ ∧ ∀ j, j < n → Cel3 w g (j * 3) (Q j) ∧ ∀ t, w.frozen? ⟨g, j * 3 + t, none⟩ = false := by
  obtain ⟨g, cap, e, _, _⟩ := h.row.form hn
  simp only [Value.slice.injEq] at e
  obtain ⟨rfl, _, rfl⟩ := e
  refine ⟨g, rfl, fun j hj => ⟨?_, fun t => h.row.frozenAt _⟩⟩
  have := row_cel h.row hj
  rwa [Nat.zero_add] at this
theorem TMem.foot_lt (h : TMem w b bq B A c n Q) : ∀ k, Foot bq B A k → b ≤ k ∧ k < w.heap.size := by
  rintro k (rfl | rfl | ⟨off, rfl⟩)
  · exact ⟨h.lo.1, h.lt.1⟩
  · exact ⟨h.lo.2.1, h.lt.2⟩
  · exact h.row.lt k rfl
theorem TMem.ne (h : TMem w b bq B A c n Q) : bq ≠ B ∧ ∀ g off, A = some ⟨g, off, none⟩ → g ≠ bq ∧ g ≠ B := by
  obtain ⟨f, ⟨o, h3, es, cl, l, rfl, _⟩, _⟩ := h.map
  have h2 := h.hq
  refine ⟨fun e => ?_, fun g off hg => ?_⟩
  · subst e
    rw [h2] at h3
    cases h3
  · obtain ⟨cur, h1⟩ := own_kind h.row hg
    refine ⟨fun e => ?_, fun e => ?_⟩
    · subst e
      rw [h2] at h1
      injection h1 with h1
      injection h1 with _ h1
      exact absurd h1 (by decide)
    · subst e
      rw [h1] at h3
      cases h3
theorem TMem.fr (h : TMem w b bq B A c n Q) {E : Nat → Prop} (f : Fr E w w') (hD : ∀ k, Foot bq B A k → ¬ E k) : TMem w' b bq B A c n Q := by
  have hl := h.lt
  obtain ⟨g, h1, h2⟩ := h.map
  exact ⟨(f.block _ hl.1 (hD _ (Or.inl rfl))).trans h.hq, own_blocks1 h.row (fun g hg => f.block _ (h.row.lt g hg).2 (hD _ (Or.inr (Or.inr ⟨0, own_zero h.row hg⟩)))), h.ok, ⟨g, h1.of (f.block _ hl.2 (hD _ (Or.inr (Or.inl rfl)))), h2⟩, h.lim, h.lo.1, h.lo.2.1, Nat.le_trans h.lo.2.2 f.size⟩
theorem TMem.base (h : TMem w b bq B A c n Q) {b' : Nat} (hb : b' ≤ b) : TMem w b' bq B A c n Q :=
  ⟨h.hq, own_base h.row hb, h.ok, h.map, h.lim, by have := h.lo; omega⟩
end

set_option maxHeartbeats 1000000 in
theorem hlen_fn {w : World} {b bq B : Nat} {A : Option Addr} {c n : Nat} {Q : Nat → TmV} (h : TMem w b bq B A c n Q) :
    Calls Try.prog 26 #[.pointer (some ⟨bq, 0, none⟩)] w fun e w' => e = .returned (.int .i64 n) ∧ w = w' := by
  have c0 := h.e0
  have hn := h.lim
  clear h
  go_enter Try.func26, Try.ntmps26
  go_wp2
  go_ret
  exact ⟨rfl, rfl⟩
end Go.Proofs.Ytdjakljkcjadhaa.T9
