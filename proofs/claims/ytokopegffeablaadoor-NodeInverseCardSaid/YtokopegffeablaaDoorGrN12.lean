/-
  Worlds that have only drawn and grown; frames. No condition.
-/
import Derived.Test.YtokopegffeablaaDoorMathN12
import Derived.Shelf.SlSortCmp.KitK
import Derived.Deep.Cut
import Derived.Deep.RegionHeld3
namespace Go.Proofs.YtokopegffeablaaDoor.T12
open Go.RowKit Go.Sort Go.Lib

/-- Draws, and blocks behind. -/
def Gr (w w' : World) : Prop := ∃ q os, w' = grow (w.drewN q) os
theorem Gr.refl (w : World) : Gr w w := ⟨0, #[], by rw [grow_empty]; rfl⟩
theorem Gr.trans {a b c : World} (h : Gr a b) (k : Gr b c) : Gr a c := by
  obtain ⟨q, os, rfl⟩ := h
  obtain ⟨r, ot, rfl⟩ := k
  exact ⟨q + r, os ++ ot, by show grow (grow ((a.drewN q).drewN r) os) ot = _; rw [grow_grow, World.drewN_drewN]⟩
theorem Gr.alloc {a b : World} (h : Gr a b) (o : Obj) : Gr a (b.alloc o) := h.trans ⟨0, #[o], by rw [alloc_eq_grow]; rfl⟩
theorem Gr.one (w : World) (o : Obj) : Gr w (w.alloc o) := (Gr.refl w).alloc o
theorem Gr.drew {a b : World} (h : Gr a b) : Gr a b.drew := h.trans ⟨1, #[], by rw [grow_empty]; rfl⟩
theorem Gr.drewN {a b : World} (h : Gr a b) (q : Nat) : Gr a (b.drewN q) := h.trans ⟨q, #[], by rw [grow_empty]⟩
theorem Gr.keep {w w' : World} (h : Gr w w') : Keep w w' := by
  obtain ⟨q, os, rfl⟩ := h
  refine ⟨rfl, rfl, rfl, by rw [size_grow]; exact Nat.le_add_right _ _, fun k hk => heap_grow_old _ _ hk⟩
theorem Gr.cell {w w' : World} {a : Addr} {v : Value} (h : Gr w w') (hc : w.cell? a = some v) : w'.cell? a = some v := h.keep.cell hc
theorem grows {w : World} {a : Addr} {v : Value} (h : w.cell? a = some v) (n : Nat) (os : Array Obj) : (grow (w.drewN n) os).cell? a = some v := (Gr.keep ⟨n, os, rfl⟩).cell h

/-- All blocks but those of D are as they were. -/
structure Fr (D : Nat → Prop) (w w' : World) : Prop where
  os : w'.os = w.os
  tape : w'.tape = w.tape
  output : w'.output = w.output
  size : w.heap.size ≤ w'.heap.size
  block : ∀ k, k < w.heap.size → ¬ D k → w'.heap[k]? = w.heap[k]?
theorem Fr.refl (D : Nat → Prop) (w : World) : Fr D w w := ⟨rfl, rfl, rfl, Nat.le_refl _, fun _ _ _ => rfl⟩
theorem Fr.of {D : Nat → Prop} {w w' : World} (h : Keep w w') : Fr D w w' := ⟨h.os, h.tape, h.output, h.size, fun k hk _ => Below.block h k hk⟩
theorem Fr.trans {D D' : Nat → Prop} {a b c : World} (h : Fr D a b) (k : Fr D' b c) (hD : ∀ i, D' i → D i ∨ a.heap.size ≤ i) : Fr D a c :=
  ⟨k.os.trans h.os, k.tape.trans h.tape, k.output.trans h.output, Nat.le_trans h.size k.size, fun i hi hn => (k.block i (Nat.lt_of_lt_of_le hi h.size) (fun hd => (hD i hd).elim hn (fun h1 => absurd h1 (by omega)))).trans (h.block i hi hn)⟩
theorem Fr.same {D : Nat → Prop} {a b c : World} (h : Fr D a b) (k : Fr D b c) : Fr D a c := h.trans k fun _ h => Or.inl h
theorem Fr.keep {D : Nat → Prop} {a b c : World} (h : Fr D a b) (k : Keep b c) : Fr D a c := h.same (Fr.of k)
theorem Fr.after {D : Nat → Prop} {a b c : World} (h : Keep a b) (k : Fr D b c) : Fr D a c := (Fr.of h).same k
theorem Fr.low {D : Nat → Prop} {w0 w w' : World} (h : Keep w0 w) (k : Fr D w w') (hD : ∀ i, D i → w0.heap.size ≤ i) : Keep w0 w' :=
  ⟨k.os.trans h.os, k.tape.trans h.tape, k.output.trans h.output, Nat.le_trans h.size k.size, fun i hi => (k.block i (Nat.lt_of_lt_of_le hi h.size) (fun hd => by have := hD i hd; omega)).trans (Below.block h i hi)⟩
theorem Fr.cell {D : Nat → Prop} {w w' : World} (h : Fr D w w') {a : Addr} {v : Value} (hc : w.cell? a = some v) (hn : ¬ D a.block) : w'.cell? a = some v := by
  rw [World.cell?_of_block (w := w) (h.block _ (cell_lt hc) hn)]; exact hc
theorem Fr.grown {D : Nat → Prop} {w w' : World} {row : Option Nat} (hg : w.grownBy w' row) (hr : ∀ g, row = some g → D g ∨ w.heap.size ≤ g) : Fr D w w' :=
  ⟨hg.os, hg.tape, hg.output, hg.size, fun k hk hn => hg.block k hk (fun e => (hr k e.symm).elim hn (fun h => absurd h (by omega)))⟩
theorem Fr.set {D : Nat → Prop} {a b : World} (h : Fr D a b) {p : Addr} (hp : D p.block ∨ a.heap.size ≤ p.block) (u : Value) : Fr D a (b.setCell p u) :=
  ⟨h.os, h.tape, h.output, by rw [show (b.setCell p u).heap.size = b.heap.size by simp]; exact h.size, fun k hk hn => by
    rw [Below.heap_setCell b p u k (fun e => hp.elim (fun h => hn (by rw [e]; exact h)) (fun h => absurd h (by omega)))]; exact h.block k hk hn⟩
theorem Fr.drewN {D : Nat → Prop} {a b : World} (h : Fr D a b) (q : Nat) : Fr D a (b.drewN q) := ⟨h.os, h.tape, h.output, h.size, h.block⟩
theorem Fr.drew {D : Nat → Prop} {a b : World} (h : Fr D a b) : Fr D a b.drew := ⟨h.os, h.tape, h.output, h.size, h.block⟩
theorem Fr.alloc {D : Nat → Prop} {a b : World} (h : Fr D a b) (o : Obj) : Fr D a (b.alloc o) := h.keep (Keep.one _ _)
theorem Fr.less {D E : Nat → Prop} {a b : World} (h : Fr D a b) (hD : ∀ i, D i → E i) : Fr E a b := ⟨h.os, h.tape, h.output, h.size, fun k hk hn => h.block k hk fun hd => hn (hD k hd)⟩

/-- The row lies in none of the blocks of D. -/
def Off (D : Nat → Prop) (A : Option Addr) (n : Nat) : Prop := ∀ b off, A = some ⟨b, off, none⟩ → 0 < n → ¬ D b
theorem RdN.fr {w w' : World} {D : Nat → Prop} {A : Option Addr} {n : Nat} {P : Nat → RnV} (h : RdN w A n P) (f : Fr D w w') (o : Off D A n) : RdN w' A n P :=
  ⟨h.small, fun hn => by
    obtain ⟨b, off, e, c⟩ := h.adr hn
    have := o b off e hn
    exact ⟨b, off, e, fun j hj => ⟨f.cell (c j hj).e0 this, f.cell (c j hj).e1 this, f.cell (c j hj).e2 this⟩⟩, h.ok⟩
theorem RdN.lt {w : World} {A : Option Addr} {n : Nat} {P : Nat → RnV} (h : RdN w A n P) : ∀ b off, A = some ⟨b, off, none⟩ → 0 < n → b < w.heap.size := fun b off e hn => by
  obtain ⟨b', off', e', c⟩ := h.adr hn
  rw [e] at e'
  have e2 := Option.some.inj e'
  simp only [Addr.mk.injEq, and_true] at e2
  rw [e2.1]
  exact cell_lt (c 0 hn).e0
theorem Off.more {D D' : Nat → Prop} {w w0 : World} {A : Option Addr} {n : Nat} {P : Nat → RnV} (o : Off D A n) (h : RdN w0 A n P) (k : w0.heap.size ≤ w.heap.size) (hD : ∀ i, D' i → D i ∨ w.heap.size ≤ i) : Off D' A n := fun b off e hn hd => by
  rcases hD b hd with h1 | h1
  · exact o b off e hn h1
  · have := h.lt b off e hn
    omega
theorem Off.low {D : Nat → Prop} {w0 : World} {A : Option Addr} {n : Nat} {P : Nat → RnV} (h : RdN w0 A n P) (hD : ∀ i, D i → w0.heap.size ≤ i) : Off D A n := fun b off e hn hd => by
  have := h.lt b off e hn
  have := hD b hd
  omega
theorem Off.nil (D : Nat → Prop) (A : Option Addr) : Off D A 0 := fun _ _ _ h => absurd h (Nat.lt_irrefl _)
end Go.Proofs.YtokopegffeablaaDoor.T12
