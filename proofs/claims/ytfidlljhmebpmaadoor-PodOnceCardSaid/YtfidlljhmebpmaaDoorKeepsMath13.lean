/-
  PodKeeps: two stores beside each other. No condition.
-/
import Derived.Test.YtfidlljhmebpmaaDoorSpoil13
namespace Go.Proofs.YtfidlljhmebpmaaDoor.T13
open Go.RowKit Go.Sort Go.Lib V12

/-- What the law asks of New beside another store: blocks below are others'. -/
def NewX (OS : Pred) : Prop := ∀ (s : Int) (w w0 : World) (X : Nat → Prop), Keep w w0 → I64 s → (∀ i, X i → i < w0.heap.size) → Calls Tryd.prog 8 #[.int .i64 s] w0 fun e w' => ∃ q, e = .returned (.pointer (some ⟨q, 0, none⟩)) ∧ OS w s q [] X w' ∧ Keep w0 w'
/-- The second store: its blocks are among those from lo to hi. -/
def Tst (OS : Pred) (w : World) (q lo hi : Nat) (w1 : World) : Prop := OS w 100 q [] (fun i => (w.heap.size ≤ i ∧ i < lo) ∨ (hi ≤ i ∧ i < w1.heap.size)) w1 ∧ hi ≤ w1.heap.size
theorem Tst.step {OS : Pred} (C : Con OS) {w : World} {q lo hi : Nat} {w1 w2 : World} (h : Tst OS w q lo hi w1) (k : Keep w w2) (hs : w1.heap.size ≤ w2.heap.size) (f : ∀ i, lo ≤ i → i < hi → w2.heap[i]? = w1.heap[i]?) : Tst OS w q lo hi w2 := by
  refine ⟨C.less (C.grow h.1 k hs (fun i hi1 hX => ?_) (Z := fun i => w1.heap.size ≤ i ∧ i < w2.heap.size) fun _ h => h) fun i h1 => ?_, Nat.le_trans h.2 hs⟩
  · by_cases hw : i < w.heap.size
    · rw [Below.block k i hw, Below.block (C.kp h.1) i hw]
    · refine f i ?_ ?_
      · exact Nat.le_of_not_lt fun h2 => hX (Or.inl ⟨by omega, h2⟩)
      · exact Nat.lt_of_not_le fun h2 => hX (Or.inr ⟨h2, hi1⟩)
  · rcases h1 with h1 | h1
    · exact Or.inl (Or.inl h1)
    · by_cases h2 : i < w1.heap.size
      · exact Or.inl (Or.inr ⟨h1.1, h2⟩)
      · exact Or.inr ⟨by omega, h1.2⟩
theorem Tst.keep {OS : Pred} (C : Con OS) {w : World} {q lo hi : Nat} {w1 w2 : World} (h : Tst OS w q lo hi w1) (k : Keep w1 w2) : Tst OS w q lo hi w2 :=
  h.step C ((C.kp h.1).trans k) k.size fun i _ h2 => Below.block k i (Nat.lt_of_lt_of_le h2 h.2)
theorem Tst.len {OS : Pred} (C : Con OS) {w : World} {q lo hi : Nat} {w1 : World} (h : Tst OS w q lo hi w1) : Calls Tryd.prog 14 #[.pointer (some ⟨q, 0, none⟩)] w1 fun e w' => e = .returned (.int .i64 0) ∧ Keep w1 w' := C.len h.1 (Nat.zero_le _)
/-- The first store beside the second and beside the reference's list, in a law's loop. -/
structure Both (OS : Pred) (w : World) (qs qt lo hi : Nat) (M : List PodV) (XS XR : Nat → Prop) (w1 : World) (B : Option Addr) (d m : Nat) (Q : Nat → PodV) : Prop where
  s : OS w 100 qs M XS w1
  t : Tst OS w qt lo hi w1
  r : RL w XR w1 B d m Q
  e : (lst Q m).map nm = M
  m : ∀ y ∈ M, y.m ≤ 20
  lh : ∀ i, lo ≤ i → i < hi → XS i
  rs : ∀ i, XR i → XS i
section
variable {OS : Pred} {w : World} {qs qt lo hi : Nat} {M : List PodV} {XS XR : Nat → Prop} {w1 w2 : World} {B : Option Addr} {d m : Nat} {Q : Nat → PodV}
theorem Both.kp (C : Con OS) (h : Both OS w qs qt lo hi M XS XR w1 B d m Q) : Keep w w1 := C.kp h.s
theorem Both.len (h : Both OS w qs qt lo hi M XS XR w1 B d m Q) : M.length = m := by rw [← h.e, List.length_map, lst_len]
/-- A step that keeps all: what is new is others'. -/
theorem Both.grow (C : Con OS) (h : Both OS w qs qt lo hi M XS XR w1 B d m Q) (k : Keep w1 w2) : Both OS w qs qt lo hi M (fun i => XS i ∨ (w1.heap.size ≤ i ∧ i < w2.heap.size)) XR w2 B d m Q :=
  ⟨C.more h.s k (fun _ h => h), h.t.keep C k, h.r.keep k, h.e, h.m, fun i h1 h2 => Or.inl (h.lh i h1 h2), fun i h1 => Or.inl (h.rs i h1)⟩
theorem Both.keep (C : Con OS) (h : Both OS w qs qt lo hi M XS XR w1 B d m Q) (k : Keep w1 w2) : Both OS w qs qt lo hi M XS XR w2 B d m Q :=
  ⟨C.keep h.s k, h.t.keep C k, h.r.keep k, h.e, h.m, h.lh, h.rs⟩
/-- A write to one block of others that is neither the second store's nor the reference's. -/
theorem Both.fr (C : Con OS) (h : Both OS w qs qt lo hi M XS XR w1 B d m Q) {g : Nat} (f : Fr (fun i => i = g) w1 w2) (hw : w.heap.size ≤ g) (hX : XS g) (ht : ¬ (lo ≤ g ∧ g < hi)) (hr : ¬ XR g) : Both OS w qs qt lo hi M XS XR w2 B d m Q := by
  have kw : Keep w w2 := Fr.low (C.kp h.s) f fun i e => by rw [e]; exact hw
  have lt := C.lt h.s
  refine ⟨C.write h.s kw f.size fun i hi hx => f.block i hi fun e => hx (by rw [e]; exact hX), h.t.step C kw f.size fun i h1 h2 => f.block i (lt i (h.lh i h1 h2)) fun e => ht (by rw [← e]; exact ⟨h1, h2⟩), h.r.same kw fun i hx => f.block i (lt i (h.rs i hx)) fun e => hr (by rw [← e]; exact hx), h.e, h.m, h.lh, h.rs⟩
/-- Behind a Submit and the reference's. -/
theorem Both.submitted (C : Con OS) (h : Both OS w qs qt lo hi M XS XR w1 B d m Q) {M2 : List PodV} {X2 XR2 : Nat → Prop} {w3 : World} (o : OS w 100 qs M2 X2 w2) (hX : ∀ i, XS i → X2 i) (sx : SameX XS w1 w2) (hs : w1.heap.size ≤ w2.heap.size) (k : Keep w2 w3) {B' : Option Addr} {d' m' : Nat} {Q' : Nat → PodV} (r : RL w XR2 w3 B' d' m' Q') (e : (lst Q' m').map nm = M2) (hm : ∀ y ∈ M2, y.m ≤ 20) (hr : ∀ i, XR2 i → XR i ∨ (w2.heap.size ≤ i ∧ i < w3.heap.size)) : Both OS w qs qt lo hi M2 (fun i => X2 i ∨ (w2.heap.size ≤ i ∧ i < w3.heap.size)) XR2 w3 B' d' m' Q' :=
  ⟨C.more o k (fun _ h => h), (h.t.step C (C.kp o) hs (fun i h1 h2 => sx i (h.lh i h1 h2))).keep C k, r, e, hm, fun i h1 h2 => Or.inl (hX i (h.lh i h1 h2)), fun i h1 => (hr i h1).imp (fun h2 => hX i (h.rs i h2)) id⟩
/-- Behind a spoil. -/
theorem Both.spd (C : Con OS) (h : Both OS w qs qt lo hi M XS XR w1 B d m Q) {g : Nat} (f : Spd g w1 w2) (hc : w2 = w1 ∨ (w.heap.size ≤ g ∧ XS g ∧ hi ≤ g ∧ ¬ XR g)) : Both OS w qs qt lo hi M XS XR w2 B d m Q := by
  rcases hc with rfl | ⟨h1, h2, h3, h4⟩
  · exact h
  · exact h.fr C f.fr h1 h2 (fun h5 => by omega) h4
end
/-- What the second loop wants of the row of all pods: identities, requests, phases; the requests are ints of others' blocks. -/
structure Aok (w : World) (ga lo hi m : Nat) (S : Nat → PodV) : Prop where
  ik : ∀ j, j < m → w.cell? ⟨ga, j * 9, none⟩ = some (.int .i64 (S j).k)
  rq : ∀ j, j < m → w.cell? ⟨ga, j * 9 + 4, none⟩ = some (.slice (S j).A (S j).m (S j).c)
  ph : ∀ j, j < m → ∃ z, w.cell? ⟨ga, j * 9 + 6, none⟩ = some (.int .i64 z)
  fz : ∀ i, w.frozen? ⟨ga, i, none⟩ = false
  sp : ∀ j, j < m → ((S j).A = none ∧ (S j).m = 0 ∧ (S j).c = 0) ∨ ∃ g, (S j).A = some ⟨g, 0, none⟩ ∧ lo ≤ g ∧ g < hi ∧ g ≠ ga ∧ SpG w g (S j).m
theorem Aok.keep {w w' : World} {ga lo hi m : Nat} {S : Nat → PodV} (h : Aok w ga lo hi m S) (k : Keep w w') (hf : ∀ a, a.block < w.heap.size → w'.frozen? a = w.frozen? a) (hg : ga < w.heap.size) (hh : hi ≤ w.heap.size) : Aok w' ga lo hi m S :=
  ⟨fun j hj => k.cell (h.ik j hj), fun j hj => k.cell (h.rq j hj), fun j hj => (h.ph j hj).imp fun _ h => k.cell h, fun i => (hf _ hg).trans (h.fz i), fun j hj => (h.sp j hj).imp id fun ⟨g, h1, h2, h3, h4, h5⟩ => ⟨g, h1, h2, h3, h4, fun t ht => ⟨(hf _ (by show g < _; omega)).trans (h5 t ht).1, (h5 t ht).2.imp fun _ h => k.cell h⟩⟩⟩
theorem Aok.spd {w w' : World} {ga lo hi m g : Nat} {S : Nat → PodV} (h : Aok w ga lo hi m S) (f : Spd g w w') (hg : g ≠ ga) : Aok w' ga lo hi m S :=
  ⟨fun j hj => f.fr.cell (h.ik j hj) (fun e => hg e.symm), fun j hj => f.fr.cell (h.rq j hj) (fun e => hg e.symm), fun j hj => (h.ph j hj).imp fun _ h => f.fr.cell h (fun e => hg e.symm), fun i => (f.fz _).trans (h.fz i), fun j hj => (h.sp j hj).imp id fun ⟨g, h1, h2, h3, h4, h5⟩ => ⟨g, h1, h2, h3, h4, f.g h5⟩⟩
theorem Aok.set {w : World} {ga lo hi m i : Nat} {S : Nat → PodV} (h : Aok w ga lo hi m S) (hi1 : i < m) (v : Int) : Aok (w.setCell ⟨ga, i * 9 + 6, none⟩ (.int .i64 v)) ga lo hi m S := by
  have no : ∀ t, t ≠ i * 9 + 6 → (w.setCell ⟨ga, i * 9 + 6, none⟩ (.int .i64 v)).cell? ⟨ga, t, none⟩ = w.cell? ⟨ga, t, none⟩ := fun t ht => World.cell?_setCell_other _ _ _ _ (fun e => by
    simp only [Addr.mk.injEq, and_true, true_and] at e
    omega)
  refine ⟨fun j hj => (no _ (by omega)).trans (h.ik j hj), fun j hj => (no _ (by omega)).trans (h.rq j hj), fun j hj => ?_, fun t => by rw [World.frozen?_setCell]; exact h.fz t, fun j hj => (h.sp j hj).imp id fun ⟨g, h1, h2, h3, h4, h5⟩ => ⟨g, h1, h2, h3, h4, fun t ht => ⟨by rw [World.frozen?_setCell]; exact (h5 t ht).1, (h5 t ht).2.imp fun _ h => (World.cell?_setCell_far w _ _ _ (fun e => h4 e.symm)).trans h⟩⟩⟩
  by_cases e : j = i
  · obtain ⟨z, hz⟩ := h.ph i hi1
    rw [e]
    exact ⟨v, World.cell?_setCell_same _ _ _ hz⟩
  · exact (h.ph j hj).imp fun _ h => (no _ (by omega)).trans h
end Go.Proofs.YtfidlljhmebpmaaDoor.T13
