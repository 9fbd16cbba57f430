/-
  A queue in memory: the frame of its methods, what its blocks hold. No condition.
-/
import Derived.Test.YtmmpmpdjcmilkaaMap7
import Derived.Test.YtmmpmpdjcmilkaaRSortW6
namespace Go.Proofs.Ytmmpmpdjcmilkaa
open Go.RowKit Go.Sort Go.Lib Go.Shelf
open Go.ChangeMaps (setBlock)

/-- All blocks but those of D are as they were. -/
structure Fr (D : Nat → Prop) (w w' : World) : Prop where
  os : w'.os = w.os
  tape : w'.tape = w.tape
  output : w'.output = w.output
  size : w.heap.size ≤ w'.heap.size
  block : ∀ k, k < w.heap.size → ¬ D k → w'.heap[k]? = w.heap[k]?
theorem Fr.refl (D : Nat → Prop) (w : World) : Fr D w w := ⟨rfl, rfl, rfl, Nat.le_refl _, fun _ _ _ => rfl⟩
theorem Fr.of {D : Nat → Prop} {w w' : World} (h : Keep w w') : Fr D w w' := ⟨h.os, h.tape, h.output, h.size, fun k hk _ => Below.block h k hk⟩
theorem Fr.trans {D D' : Nat → Prop} {a b c : World} (h : Fr D a b) (k : Fr D' b c) (hD : ∀ i, D' i → D i ∨ a.heap.size ≤ i) : Fr D a c :=
  ⟨k.os.trans h.os, k.tape.trans h.tape, k.output.trans h.output, Nat.le_trans h.size k.size, fun i hi hn => (k.block i (Nat.lt_of_lt_of_le hi h.size) (fun hd => (hD i hd).elim hn (fun h1 => absurd h1 (by omega)))).trans (h.block i hi hn)⟩
theorem Fr.same {D : Nat → Prop} {a b c : World} (h : Fr D a b) (k : Fr D b c) : Fr D a c := h.trans k fun _ h => Or.inl h
theorem Fr.keep {D : Nat → Prop} {a b c : World} (h : Fr D a b) (k : Keep b c) : Fr D a c := h.same (Fr.of k)
theorem Fr.after {D : Nat → Prop} {a b c : World} (h : Keep a b) (k : Fr D b c) : Fr D a c := (Fr.of h).same k
theorem Fr.low {D : Nat → Prop} {w0 w w' : World} (h : Keep w0 w) (k : Fr D w w') (hD : ∀ i, D i → w0.heap.size ≤ i) : Keep w0 w' :=
  ⟨k.os.trans h.os, k.tape.trans h.tape, k.output.trans h.output, Nat.le_trans h.size k.size, fun i hi => (k.block i (Nat.lt_of_lt_of_le hi h.size) (fun hd => by have := hD i hd; omega)).trans (Below.block h i hi)⟩
theorem Fr.cell {D : Nat → Prop} {w w' : World} (h : Fr D w w') {a : Addr} {v : Value} (hc : w.cell? a = some v) (hn : ¬ D a.block) : w'.cell? a = some v := by
  rw [World.cell?_of_block (w := w) (h.block _ (cell_lt hc) hn)]; exact hc
theorem Fr.grown {D : Nat → Prop} {w w' : World} {row : Option Nat} (hg : w.grownBy w' row) (hr : ∀ g, row = some g → D g ∨ w.heap.size ≤ g) : Fr D w w' :=
  ⟨hg.os, hg.tape, hg.output, hg.size, fun k hk hn => hg.block k hk (fun e => (hr k e.symm).elim hn (fun h => absurd h (by omega)))⟩
theorem Fr.set {D : Nat → Prop} {a b : World} (h : Fr D a b) {p : Addr} (hp : D p.block ∨ a.heap.size ≤ p.block) (u : Value) : Fr D a (b.setCell p u) :=
  ⟨h.os, h.tape, h.output, by rw [show (b.setCell p u).heap.size = b.heap.size by simp]; exact h.size, fun k hk hn => by
    rw [Below.heap_setCell b p u k (fun e => hp.elim (fun h => hn (by rw [e]; exact h)) (fun h => absurd h (by omega)))]; exact h.block k hk hn⟩
theorem Fr.drewN {D : Nat → Prop} {a b : World} (h : Fr D a b) (q : Nat) : Fr D a (b.drewN q) := ⟨h.os, h.tape, h.output, h.size, h.block⟩
theorem Fr.drew {D : Nat → Prop} {a b : World} (h : Fr D a b) : Fr D a b.drew := ⟨h.os, h.tape, h.output, h.size, h.block⟩
theorem Fr.put {D : Nat → Prop} {a b : World} (h : Fr D a b) {B : Nat} (hp : D B ∨ a.heap.size ≤ B) (o : Obj) : Fr D a (setBlock b B o) :=
  ⟨h.os, h.tape, h.output, by simp [setBlock]; exact h.size, fun k hk hn => by
    rw [heap_setBlock_ne (fun e => hp.elim (fun h => hn (by rw [e]; exact h)) (fun h => absurd h (by omega)))]; exact h.block k hk hn⟩
theorem Fr.alloc {D : Nat → Prop} {a b : World} (h : Fr D a b) (o : Obj) : Fr D a (b.alloc o) := h.keep (Keep.one _ _)
/-- A block's kind. -/
def Kind (w : World) (k : Nat) (T : TypeId) : Prop := ∃ cs fr, w.heap[k]? = some (.cells cs T fr)
theorem Kind.keep {w w' : World} {k : Nat} {T : TypeId} (h : Kind w k T) (e : Keep w w') : Kind w' k T := by
  obtain ⟨cs, fr, h⟩ := h
  exact ⟨cs, fr, e.block h⟩

/-- The blocks of a queue. -/
def Foot (bq B : Nat) (A : Option Addr) (k : Nat) : Prop := k = bq ∨ k = B ∨ ∃ off, A = some ⟨k, off, none⟩
def Places (n : Nat) (Q : Nat → PodV) (f : Int → Option Int) : Prop := ∀ k v, f k = some v ↔ ∃ j, j < n ∧ (Q j).k = k ∧ v = (j : Int)
structure QMem (w : World) (b0 b1 bq B : Nat) (A : Option Addr) (c n : Nat) (Q : Nat → PodV) : Prop where
  hq : w.heap[bq]? = some (.cells #[.slice A n c, .map (some B)] 54 (0, 0))
  row : RowP w b1 (.slice A n c) n Q
  map : ∃ f, MapI w B f ∧ Places n Q f
  lim : n ≤ 1000
  lo : b0 ≤ bq ∧ b0 ≤ B ∧ b0 ≤ b1 ∧ b1 ≤ w.heap.size
theorem RowP.blocks {w w' : World} {base : Nat} {v : Value} {n : Nat} {Q : Nat → PodV} (h : RowP w base v n Q) (hs : ∀ k T, Kind w k T → (T = 32 ∨ T = 2) → w'.heap[k]? = w.heap[k]?) : RowP w' base v n Q := by
  have own : ∀ {e : TypeId} {z n : Nat} {v : Value} {xs : List Value}, w.ownsRow base e z v n xs → (e = 32 ∨ e = 2) → w'.ownsRow base e z v n xs := fun {e z n v xs} h he => by
    rcases h with ⟨h1, h2 | ⟨g, cap, cur, h3, h4, h5, h6⟩⟩
    · exact ⟨h1, .inl h2⟩
    · exact ⟨h1, .inr ⟨g, cap, cur, h3, h4, (hs g e ⟨cur, (0, 0), h5⟩ he).trans h5, h6⟩⟩
  exact ⟨own h.row (Or.inl rfl), fun j hj => own (h.own j hj) (Or.inr rfl), h.ok⟩
section
variable {w w' : World} {b0 b1 bq B : Nat} {A : Option Addr} {c n : Nat} {Q : Nat → PodV}
theorem QMem.lt (h : QMem w b0 b1 bq B A c n Q) : bq < w.heap.size ∧ B < w.heap.size := by
  obtain ⟨f, h1, _⟩ := h.map
  exact ⟨(Array.getElem?_eq_some_iff.1 h.hq).1, h1.lt⟩
theorem QMem.keep (h : QMem w b0 b1 bq B A c n Q) (k : Keep w w') : QMem w' b0 b1 bq B A c n Q := by
  have hl := h.lt
  obtain ⟨f, h1, h2⟩ := h.map
  exact ⟨k.block h.hq, h.row.keep k, ⟨f, h1.of (Below.block k _ hl.2), h2⟩, h.lim, h.lo.1, h.lo.2.1, h.lo.2.2.1, Nat.le_trans h.lo.2.2.2 k.size⟩
theorem QMem.e0 (h : QMem w b0 b1 bq B A c n Q) : w.cell? ⟨bq, 0, none⟩ = some (.slice A n c) := by rw [cell_of_row w _ _ _ _ _ h.hq]; rfl
theorem QMem.e1 (h : QMem w b0 b1 bq B A c n Q) : w.cell? ⟨bq, 1, none⟩ = some (.map (some B)) := by rw [cell_of_row w _ _ _ _ _ h.hq]; rfl
theorem QMem.f0 (h : QMem w b0 b1 bq B A c n Q) : w.frozen? ⟨bq, 0, none⟩ = false := frozen_of_row w _ _ _ _ h.hq
theorem QMem.at (h : QMem w b0 b1 bq B A c n Q) (hn : 0 < n) : ∃ g, A = some ⟨g, 0, none⟩ ∧ ∀ j, j < n → Cel9 w g (j * 9) (Q j) ∧ ∀ t, w.frozen? ⟨g, j * 9 + t, none⟩ = false := by
  obtain ⟨g, cap, e, _, _⟩ := h.row.row.form hn
  simp only [Value.slice.injEq] at e
  obtain ⟨rfl, _, rfl⟩ := e
  refine ⟨g, rfl, fun j hj => ⟨?_, fun t => h.row.row.frozenAt _⟩⟩
  have := row_cel h.row.row hj
  rwa [Nat.zero_add] at this
theorem QMem.foot_lt (h : QMem w b0 b1 bq B A c n Q) : ∀ k, Foot bq B A k → b0 ≤ k ∧ k < w.heap.size := by
  rintro k (rfl | rfl | ⟨off, rfl⟩)
  · exact ⟨h.lo.1, h.lt.1⟩
  · exact ⟨h.lo.2.1, h.lt.2⟩
  · have := h.row.row.lt k rfl
    exact ⟨by have := h.lo.2.2.1; omega, this.2⟩
/-- No row of amounts lies among them. -/
theorem QMem.foot_kind (h : QMem w b0 b1 bq B A c n Q) : ∀ k, Foot bq B A k → ¬ Kind w k 2 := by
  rintro k (rfl | rfl | ⟨off, rfl⟩) ⟨cs, fr, e⟩
  · rw [h.hq] at e
    injection e with e
    injection e with _ e
    exact absurd e (by decide)
  · obtain ⟨f, ⟨o, h1, es, cl, l, rfl, _⟩, _⟩ := h.map
    rw [h1] at e
    cases e
  · obtain ⟨cur, h1⟩ := row_kind h.row.row (g := k) rfl
    rw [h1] at e
    injection e with e
    injection e with _ e
    exact absurd e (by decide)
end

set_option maxHeartbeats 1000000 in
theorem hlen_fn {w : World} {b0 b1 bq B : Nat} {A : Option Addr} {c n : Nat} {Q : Nat → PodV} (h : QMem w b0 b1 bq B A c n Q) :
    Calls Try.prog 27 #[.pointer (some ⟨bq, 0, none⟩)] w fun e w' => e = .returned (.int .i64 n) ∧ w = w' := by
  have c0 := h.e0
  have hn := h.lim
  clear h
  go_enter Try.func27, Try.ntmps27
  go_wp2
  go_ret
  exact ⟨rfl, rfl⟩

set_option maxRecDepth 100000 in
set_option maxHeartbeats 8000000 in
theorem hless_fn {w : World} {b0 b1 bq B : Nat} {A : Option Addr} {c n : Nat} {Q : Nat → PodV} (h : QMem w b0 b1 bq B A c n Q) (i j : Nat) (hi : i < n) (hj : j < n) :
    Calls Try.prog 72 #[.pointer (some ⟨bq, 0, none⟩), .int .i64 i, .int .i64 j] w fun e w' => e = .returned (.bool (befP (Q i) (Q j))) ∧ Gr w w' := by
  have mixed : Try.prog.follows .mixedOrders = true := by kernel_rfl
  obtain ⟨g, rfl, hg⟩ := h.at (by omega)
  have c0 := h.e0
  have X := (hg i hi).1
  have Y := (hg j hj).1
  have kb := fun W => before_fn (Q i) (Q j) W
  have q1 := pods_at g 0 n c i hi
  have q2 := pods_at g 0 n c j hj
  rw [Nat.zero_add] at q1 q2
  clear h hg
  generalize Q i = x at *
  generalize Q j = y at *
  generalize befP x y = r at kb ⊢
  unfold PodV.val Gr at kb
  replace kb := Lib.hid kb
  have c0 := grows c0
  have x0 := grows X.e0; have x1 := grows X.e1; have x2 := grows X.e2; have x3 := grows X.e3; have x4 := grows X.e4; have x5 := grows X.e5; have x6 := grows X.e6; have x7 := grows X.e7; have x8 := grows X.e8
  have y0 := grows Y.e0; have y1 := grows Y.e1; have y2 := grows Y.e2; have y3 := grows Y.e3; have y4 := grows Y.e4; have y5 := grows Y.e5; have y6 := grows Y.e6; have y7 := grows Y.e7; have y8 := grows Y.e8
  clear X Y
  go_enter Try.func72, Try.ntmps72
  go_wp2_with fail
  refine wp_region_quiet_grown (by assumption) (by kernel_rfl) ?_
  repeat (go_big_quiet_step (first | (go_at_call 76; with_reducible refine Calls.grown_of (kb.out _))))
  refine wpQuiet_nil ?_
  intro _ hw'
  obtain ⟨⟨nq, osq⟩, hw''⟩ := hw'
  subst hw''
  clear x0 x1 x2 x3 x4 x5 x6 x7 x8 y0 y1 y2 y3 y4 y5 y6 y7 y8 c0 kb
  go_wp2
  go_ret
  exact ⟨rfl, ⟨nq, osq, rfl⟩⟩
end Go.Proofs.Ytmmpmpdjcmilkaa
