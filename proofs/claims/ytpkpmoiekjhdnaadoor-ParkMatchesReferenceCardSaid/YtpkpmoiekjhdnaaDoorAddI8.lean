/-
  The reference's Add: its region keeps what it keeps, whatever its order. Condition: at most 1000 pods.
-/
import Derived.Test.YtpkpmoiekjhdnaaDoorAddR8
namespace Go.Proofs.YtpkpmoiekjhdnaaDoor
open Go.RowKit Go.Sort Go.Lib Go.Shelf

/-- The pods' half: what has come up. -/
structure ChA (base n : Nat) (S : Nat → PodV) (x : PodV) (b0 b3 b5 b6 : Bool) (v23 v26 v28 v29 : Value) (w : World) : Prop where
  d6 : b6 = true → b3 = true ∧ b5 = true
  f23 : b0 = true → b3 = false → ∃ g, v23 = .slice (some ⟨g, 0, none⟩) 0 0 ∧ base ≤ g ∧ w.heap[g]? = some (.cells #[] 35 (0, 0))
  f26 : b3 = true → b6 = false → w.ownsRow base 35 9 v26 n (podCs S n)
  f28 : b5 = true → b6 = false → ∃ g, v28 = .slice (some ⟨g, 0, none⟩) 1 1 ∧ w.heap[g]? = some (.cells #[.int .i64 x.k, .int .i64 x.p, .bool x.f, .int .i64 x.g, .slice x.A x.m x.c, .int .i64 x.a, .int .i64 x.h, .int .i64 x.d, .int .i64 x.t] 35 (0, 0))
  f29 : b6 = true → w.ownsRow base 35 9 v29 (n + 1) (podCs (put S n x) (n + 1))
/-- The reasons' half. -/
structure ChB (base n : Nat) (Z : Nat → Int) (r : Int) (b7 b10 b12 b13 : Bool) (v30 v33 v35 v36 : Value) (w : World) : Prop where
  d13 : b13 = true → b10 = true ∧ b12 = true
  f30 : b7 = true → b10 = false → ∃ g, v30 = .slice (some ⟨g, 0, none⟩) 0 0 ∧ base ≤ g ∧ w.heap[g]? = some (.cells #[] 3 (0, 0))
  f33 : b10 = true → b13 = false → w.ownsRow base 3 1 v33 n (rowL n Z)
  f35 : b12 = true → b13 = false → ∃ g, v35 = .slice (some ⟨g, 0, none⟩) 1 1 ∧ w.heap[g]? = some (.cells #[.int .i64 r] 3 (0, 0))
  f36 : b13 = true → w.ownsRow base 3 1 v36 (n + 1) (rowL (n + 1) (putZ Z n r))
theorem cells_far {w w' : World} {g base n z : Nat} {cs : Array Value} {T T' : TypeId} {fr : Nat × Nat} {v : Value} {xs : List Value} (h : w.heap[g]? = some (.cells cs T fr)) (o : w.ownsRow base T' z v n xs) (hT : T ≠ T') (hg : w.grownBy w' v.ownBlock) : w'.heap[g]? = some (.cells cs T fr) :=
  (hg.block g (Array.getElem?_eq_some_iff.1 h).1 fun e => by
    obtain ⟨cur, hk⟩ := row_kind o e.symm
    rw [h] at hk
    injection hk with hk
    injection hk with _ hk
    exact hT hk).trans h
section
variable {w w' : World} {base n m z : Nat} {S : Nat → PodV} {Z : Nat → Int} {x : PodV} {r : Int} {b0 b3 b5 b6 b7 b10 b12 b13 : Bool} {v v23 v26 v28 v29 v30 v33 v35 v36 : Value} {xs : List Value}
theorem ChA.keep (h : ChA base n S x b0 b3 b5 b6 v23 v26 v28 v29 w) (k : Keep w w') : ChA base n S x b0 b3 b5 b6 v23 v26 v28 v29 w' :=
  ⟨h.d6, fun a b => by obtain ⟨g, h1, h2, h3⟩ := h.f23 a b; exact ⟨g, h1, h2, k.block h3⟩, fun a b => own_keep (h.f26 a b) k, fun a b => by obtain ⟨g, h1, h2⟩ := h.f28 a b; exact ⟨g, h1, k.block h2⟩, fun a => own_keep (h.f29 a) k⟩
theorem ChB.keep (h : ChB base n Z r b7 b10 b12 b13 v30 v33 v35 v36 w) (k : Keep w w') : ChB base n Z r b7 b10 b12 b13 v30 v33 v35 v36 w' :=
  ⟨h.d13, fun a b => by obtain ⟨g, h1, h2, h3⟩ := h.f30 a b; exact ⟨g, h1, h2, k.block h3⟩, fun a b => own_keep (h.f33 a b) k, fun a b => by obtain ⟨g, h1, h2⟩ := h.f35 a b; exact ⟨g, h1, k.block h2⟩, fun a => own_keep (h.f36 a) k⟩
theorem ChA.far (h : ChA base n S x b0 b3 b5 b6 v23 v26 v28 v29 w) (o : w.ownsRow base 3 z v m xs) (hg : w.grownBy w' v.ownBlock) : ChA base n S x b0 b3 b5 b6 v23 v26 v28 v29 w' :=
  ⟨h.d6, fun a b => by obtain ⟨g, h1, h2, h3⟩ := h.f23 a b; exact ⟨g, h1, h2, cells_far h3 o (by decide) hg⟩, fun a b => World.ownsRow.kept (h.f26 a b) hg (rows_apart (h.f26 a b) o (by decide)), fun a b => by obtain ⟨g, h1, h2⟩ := h.f28 a b; exact ⟨g, h1, cells_far h2 o (by decide) hg⟩, fun a => World.ownsRow.kept (h.f29 a) hg (rows_apart (h.f29 a) o (by decide))⟩
theorem ChB.far (h : ChB base n Z r b7 b10 b12 b13 v30 v33 v35 v36 w) (o : w.ownsRow base 35 z v m xs) (hg : w.grownBy w' v.ownBlock) : ChB base n Z r b7 b10 b12 b13 v30 v33 v35 v36 w' :=
  ⟨h.d13, fun a b => by obtain ⟨g, h1, h2, h3⟩ := h.f30 a b; exact ⟨g, h1, h2, cells_far h3 o (by decide) hg⟩, fun a b => World.ownsRow.kept (h.f33 a b) hg (rows_apart (h.f33 a b) o (by decide)), fun a b => by obtain ⟨g, h1, h2⟩ := h.f35 a b; exact ⟨g, h1, cells_far h2 o (by decide) hg⟩, fun a => World.ownsRow.kept (h.f36 a) hg (rows_apart (h.f36 a) o (by decide))⟩
end

/-- What the region keeps. -/
structure AdI (W0 : World) (s n : Nat) (S : Nat → PodV) (Z : Nat → Int) (x : PodV) (r : Int) (b0 b3 b5 b6 b7 b10 b12 b13 b14 b15 : Bool) (v23 v26 v28 v29 v30 v33 v35 v36 v37 : Value) (w : World) : Prop where
  fr : Fr (fun k => k = s) W0 w
  out : b15 = false → w.heap[s]? = some (.cells #[.slice none 0 0, .slice none 0 0] 30 (0, 0))
  a : ChA W0.heap.size n S x b0 b3 b5 b6 v23 v26 v28 v29 w
  b : ChB W0.heap.size n Z r b7 b10 b12 b13 v30 v33 v35 v36 w
  d14 : b14 = true → b6 = true ∧ b13 = true
  d15 : b15 = true → b0 = true ∧ b3 = true ∧ b5 = true ∧ b6 = true ∧ b7 = true ∧ b10 = true ∧ b12 = true ∧ b13 = true ∧ b14 = true
  f37 : b14 = true → ∃ B d B2 d2, v29 = .slice B (n + 1) d ∧ v36 = .slice B2 (n + 1) d2 ∧ v37 = .agg #[.slice B (n + 1) d, .slice B2 (n + 1) d2]
  f15 : b15 = true → ∃ B d B2 d2, v29 = .slice B (n + 1) d ∧ v36 = .slice B2 (n + 1) d2 ∧ w.heap[s]? = some (.cells #[.slice B (n + 1) d, .slice B2 (n + 1) d2] 30 (0, 0))
theorem fr_grown {W0 w w' : World} {s base n z : Nat} {T : TypeId} {v : Value} {xs : List Value} (h : Fr (fun k => k = s) W0 w) (o : w.ownsRow base T z v n xs) (hb : W0.heap.size ≤ base) (hg : w.grownBy w' v.ownBlock) : Fr (fun k => k = s) W0 w' :=
  h.trans (Fr.grown (D := fun k => W0.heap.size ≤ k) hg fun g e => Or.inl (Nat.le_trans hb (o.lt g e).1)) fun _ hi => Or.inr hi
theorem out_grown {w w' : World} {s base n z : Nat} {cs : Array Value} {fr : Nat × Nat} {T T' : TypeId} {v : Value} {xs : List Value} (h : w.heap[s]? = some (.cells cs T fr)) (o : w.ownsRow base T' z v n xs) (hT : T ≠ T') (hg : w.grownBy w' v.ownBlock) : w'.heap[s]? = some (.cells cs T fr) := cells_far h o hT hg

section
variable {W0 : World} {s s0 n : Nat} {S : Nat → PodV} {Z : Nat → Int} {x : PodV} {r : Int} {A A2 : Option Addr} {c c2 : Nat} {e : Nat → Value} {Q : Exit → Act → World → Prop}
def adS (s0 : Nat) (A : Option Addr) (n c : Nat) (A2 : Option Addr) (c2 : Nat) (x : PodV) (w : World) : Prop :=
  w.heap[s0]? = some (.cells #[.slice A n c, .slice A2 n c2] 30 (0, 0)) ∧ w.heap[s0 + 1]? = some (.cells #[.int .i64 x.k, .int .i64 x.p, .bool x.f, .int .i64 x.g, .slice x.A x.m x.c, .int .i64 x.a, .int .i64 x.h, .int .i64 x.d, .int .i64 x.t] 35 (0, 0))
def adB (b0 b3 b5 b6 b7 b10 b12 b13 b14 b15 b16 : Bool) : Array Bool := #[b0, true, true, b3, true, b5, b6, b7, true, true, b10, true, b12, b13, b14, b15, b16]
def adInv (W0 : World) (s n : Nat) (S : Nat → PodV) (Z : Nat → Int) (x : PodV) (r : Int) (e : Nat → Value) (l : Array Bool) (a : Act) (w : World) : Prop :=
  ∃ b0 b3 b5 b6 b7 b10 b12 b13 b14 b15 b16 v7 v23 v26 v28 v29 v30 v33 v35 v36 v37, l = adB b0 b3 b5 b6 b7 b10 b12 b13 b14 b15 b16 ∧ a = adF e v7 v23 v26 v28 v29 v30 v33 v35 v36 v37 ∧ AdI W0 s n S Z x r b0 b3 b5 b6 b7 b10 b12 b13 b14 b15 v23 v26 v28 v29 v30 v33 v35 v36 v37 w ∧ (b16 = true → v7 = .bool true)
theorem ads_fr {w : World} (h : adS s0 A n c A2 c2 x W0) (f : Fr (fun k => k = s) W0 w) (h1 : s0 ≠ s) (h2 : s0 + 1 ≠ s) : adS s0 A n c A2 c2 x w :=
  ⟨(f.block _ (Array.getElem?_eq_some_iff.1 h.1).1 h1).trans h.1, (f.block _ (Array.getElem?_eq_some_iff.1 h.2).1 h2).trans h.2⟩

set_option maxRecDepth 100000 in
set_option maxHeartbeats 4000000 in
theorem ad_step (h0 : adS s0 A n c A2 c2 x W0) (hs1 : s0 ≠ s) (hs2 : s0 + 1 ≠ s) (hn : n ≤ 1000) (e6 : e 6 = .pointer (some ⟨s, 0, none⟩)) (e27 : e 27 = x.val) (e34 : e 34 = .int .i64 r)
    (srcA : ∀ w, Fr (fun k => k = s) W0 w → SrcP w (e 25) n (podCs S n)) (srcB : ∀ w, Fr (fun k => k = s) W0 w → SrcN w (e 32) n Z) :
    ∀ l a w, adInv W0 s n S Z x r e l a w → ∀ i ∈ Region.ready .any adOps l, wpOp Tryd.prog adOps Q i (fun a' w' => adS s0 A n c A2 c2 x w' ∧ adInv W0 s n S Z x r e (l.setIfInBounds i true) a' w') a w := by
  rintro l a w ⟨b0, b3, b5, b6, b7, b10, b12, b13, b14, b15, b16, v7, v23, v26, v28, v29, v30, v33, v35, v36, v37, rfl, rfl, I, h16⟩ i hi
  have hi17 : i < 17 := by
    obtain ⟨_, o, ho, _⟩ := mem_ready.1 hi
    have := (Array.getElem?_eq_some_iff.1 ho).1
    rw [ad_size] at this
    exact this
  have hun := (mem_ready.1 hi).1
  have ks : W0.heap.size ≤ w.heap.size := I.fr.size
  have S1 : ∀ {w'}, Fr (fun k => k = s) W0 w' → adS s0 A n c A2 c2 x w' := fun f => ads_fr h0 f hs1 hs2
  have no : ∀ j, (j = 1 ∨ j = 2 ∨ j = 4 ∨ j = 8 ∨ j = 9 ∨ j = 11) → i ≠ j := by
    rintro j hj rfl
    rcases hj with rfl | rfl | rfl | rfl | rfl | rfl <;> cases hun
  have n1 := no 1 (by omega)
  have n2 := no 2 (by omega)
  have n4 := no 4 (by omega)
  have n8 := no 8 (by omega)
  have n9 := no 9 (by omega)
  have n11 := no 11 (by omega)
  obtain rfl | rfl | rfl | rfl | rfl | rfl | rfl | rfl | rfl | rfl | rfl : i = 0 ∨ i = 3 ∨ i = 5 ∨ i = 6 ∨ i = 7 ∨ i = 10 ∨ i = 12 ∨ i = 13 ∨ i = 14 ∨ i = 15 ∨ i = 16 := by omega
  all_goals clear n1 n2 n4 n8 n9 n11 no hi17
  · have hb : b0 = false := hun
    subst hb
    have h15 : b15 = false := by
      cases b15 with
      | false => rfl
      | true => exact absurd (I.d15 rfl).1 (by decide)
    subst h15
    refine ad0 ⟨S1 (I.fr.alloc _), true, _, _, _, _, _, _, _, _, _, _, _, _, _, _, _, _, _, _, _, _, rfl, rfl, ⟨I.fr.alloc _, fun h => (Keep.one _ _).block (I.out h), ?_, I.b.keep (Keep.one _ _), I.d14, (fun h => by cases h), I.f37, (fun h => by cases h)⟩, h16⟩
    have a := I.a.keep (Keep.one w (.cells #[] 35))
    exact ⟨a.d6, fun _ _ => ⟨_, rfl, ks, heap_alloc_new _ _⟩, a.f26, a.f28, a.f29⟩
  · have hb : b3 = false := hun
    subst hb
    have h15 : b15 = false := by
      cases b15 with
      | false => rfl
      | true => exact absurd (I.d15 rfl).2.1 (by decide)
    subst h15
    have h0 : b0 = true := dep_of hi ado3.1 0 (by kernel_rfl)
    subst h0
    have h6 : b6 = false := by
      cases b6 with
      | false => rfl
      | true => exact absurd (I.a.d6 rfl).1 (by decide)
    subst h6
    have h14 : b14 = false := by
      cases b14 with
      | false => rfl
      | true => exact absurd (I.d14 rfl).1 (by decide)
    subst h14
    obtain ⟨g, rfl, hg, hh⟩ := I.a.f23 rfl rfl
    have own := own_empty hg hh
    refine ad3 own (srcA w I.fr) hn ks fun v' w' hr hgr => ?_
    have F := fr_grown I.fr own (Nat.le_refl _) hgr
    refine ⟨S1 F, true, true, _, _, _, _, _, _, _, _, _, _, _, v', _, _, _, _, _, _, _, rfl, rfl, ⟨F, fun h => out_grown (I.out h) own (by decide) hgr, ?_, I.b.far own hgr, (fun h => by cases h), (fun h => by cases h), (fun h => by cases h), (fun h => by cases h)⟩, h16⟩
    refine ⟨(fun h => by cases h), (fun _ h => by cases h), fun _ _ => hr, fun h5 _ => ?_, (fun h => by cases h)⟩
    obtain ⟨g2, e2, hh2⟩ := I.a.f28 h5 rfl
    refine ⟨g2, e2, (hgr.block g2 (Array.getElem?_eq_some_iff.1 hh2).1 fun e => ?_).trans hh2⟩
    have e3 : g2 = g := Option.some.inj e
    subst e3
    rw [hh] at hh2
    injection hh2 with hh2
    injection hh2 with hh2 _
    exact absurd (congrArg Array.size hh2) (by simp)
  · have hb : b5 = false := hun
    subst hb
    have h15 : b15 = false := by
      cases b15 with
      | false => rfl
      | true => exact absurd (I.d15 rfl).2.2.1 (by decide)
    subst h15
    have h6 : b6 = false := by
      cases b6 with
      | false => rfl
      | true => exact absurd (I.a.d6 rfl).2 (by decide)
    subst h6
    have h14 : b14 = false := by
      cases b14 with
      | false => rfl
      | true => exact absurd (I.d14 rfl).1 (by decide)
    subst h14
    refine ad5 e27 ⟨S1 (I.fr.alloc _), _, _, true, _, _, _, _, _, _, _, _, _, _, _, _, _, _, _, _, _, _, rfl, rfl, ⟨I.fr.alloc _, fun h => (Keep.one _ _).block (I.out h), ?_, I.b.keep (Keep.one _ _), (fun h => by cases h), (fun h => by cases h), (fun h => by cases h), (fun h => by cases h)⟩, h16⟩
    have a := I.a.keep (Keep.one w (.cells #[.int .i64 x.k, .int .i64 x.p, .bool x.f, .int .i64 x.g, .slice x.A x.m x.c, .int .i64 x.a, .int .i64 x.h, .int .i64 x.d, .int .i64 x.t] 35))
    exact ⟨(fun h => by cases h), a.f23, a.f26, fun _ _ => ⟨_, rfl, heap_alloc_new _ _⟩, (fun h => by cases h)⟩
  · have hb : b6 = false := hun
    subst hb
    have h15 : b15 = false := by
      cases b15 with
      | false => rfl
      | true => exact absurd (I.d15 rfl).2.2.2.1 (by decide)
    subst h15
    have h3 : b3 = true := dep_of hi ado6.1 3 (by kernel_rfl)
    subst h3
    have h5 : b5 = true := dep_of hi ado6.1 5 (by kernel_rfl)
    subst h5
    have h14 : b14 = false := by
      cases b14 with
      | false => rfl
      | true => exact absurd (I.d14 rfl).1 (by decide)
    subst h14
    have own := I.a.f26 rfl rfl
    obtain ⟨g2, rfl, hh2⟩ := I.a.f28 rfl rfl
    refine ad6 own (src_one hh2) hn ks fun v' w' hr hgr => ?_
    have F := fr_grown I.fr own (Nat.le_refl _) hgr
    exact ⟨S1 F, _, true, true, true, _, _, _, _, _, _, _, _, _, _, _, v', _, _, _, _, _, rfl, rfl, ⟨F, fun h => out_grown (I.out h) own (by decide) hgr, ⟨fun _ => ⟨rfl, rfl⟩, (fun _ h => by cases h), (fun _ h => by cases h), (fun _ h => by cases h), fun _ => hr⟩, I.b.far own hgr, (fun h => by cases h), (fun h => by cases h), (fun h => by cases h), (fun h => by cases h)⟩, h16⟩
  · have hb : b7 = false := hun
    subst hb
    have h15 : b15 = false := by
      cases b15 with
      | false => rfl
      | true => exact absurd (I.d15 rfl).2.2.2.2.1 (by decide)
    subst h15
    refine ad7 ⟨S1 (I.fr.alloc _), _, _, _, _, true, _, _, _, _, _, _, _, _, _, _, _, _, _, _, _, _, rfl, rfl, ⟨I.fr.alloc _, fun h => (Keep.one _ _).block (I.out h), I.a.keep (Keep.one _ _), ?_, I.d14, (fun h => by cases h), I.f37, (fun h => by cases h)⟩, h16⟩
    have a := I.b.keep (Keep.one w (.cells #[] 3))
    exact ⟨a.d13, fun _ _ => ⟨_, rfl, ks, heap_alloc_new _ _⟩, a.f33, a.f35, a.f36⟩
  · have hb : b10 = false := hun
    subst hb
    have h15 : b15 = false := by
      cases b15 with
      | false => rfl
      | true => exact absurd (I.d15 rfl).2.2.2.2.2.1 (by decide)
    subst h15
    have h7 : b7 = true := dep_of hi ado10.1 7 (by kernel_rfl)
    subst h7
    have h13 : b13 = false := by
      cases b13 with
      | false => rfl
      | true => exact absurd (I.b.d13 rfl).1 (by decide)
    subst h13
    have h14 : b14 = false := by
      cases b14 with
      | false => rfl
      | true => exact absurd (I.d14 rfl).2 (by decide)
    subst h14
    obtain ⟨g, rfl, hg, hh⟩ := I.b.f30 rfl rfl
    have own := ownN_empty hg hh
    refine ad10 own (srcB w I.fr) hn ks fun v' w' hr hgr => ?_
    have F := fr_grown I.fr own (Nat.le_refl _) hgr
    refine ⟨S1 F, _, _, _, _, true, true, _, _, _, _, _, _, _, _, _, _, _, v', _, _, _, rfl, rfl, ⟨F, fun h => out_grown (I.out h) own (by decide) hgr, I.a.far own hgr, ?_, (fun h => by cases h), (fun h => by cases h), (fun h => by cases h), (fun h => by cases h)⟩, h16⟩
    refine ⟨(fun h => by cases h), (fun _ h => by cases h), fun _ _ => hr, fun h5 _ => ?_, (fun h => by cases h)⟩
    obtain ⟨g2, e2, hh2⟩ := I.b.f35 h5 rfl
    refine ⟨g2, e2, (hgr.block g2 (Array.getElem?_eq_some_iff.1 hh2).1 fun e => ?_).trans hh2⟩
    have e3 : g2 = g := Option.some.inj e
    subst e3
    rw [hh] at hh2
    injection hh2 with hh2
    injection hh2 with hh2 _
    exact absurd (congrArg Array.size hh2) (by simp)
  · have hb : b12 = false := hun
    subst hb
    have h15 : b15 = false := by
      cases b15 with
      | false => rfl
      | true => exact absurd (I.d15 rfl).2.2.2.2.2.2.1 (by decide)
    subst h15
    have h13 : b13 = false := by
      cases b13 with
      | false => rfl
      | true => exact absurd (I.b.d13 rfl).2 (by decide)
    subst h13
    have h14 : b14 = false := by
      cases b14 with
      | false => rfl
      | true => exact absurd (I.d14 rfl).2 (by decide)
    subst h14
    refine ad12 e34 ⟨S1 (I.fr.alloc _), _, _, _, _, _, _, true, _, _, _, _, _, _, _, _, _, _, _, _, _, _, rfl, rfl, ⟨I.fr.alloc _, fun h => (Keep.one _ _).block (I.out h), I.a.keep (Keep.one _ _), ?_, (fun h => by cases h), (fun h => by cases h), (fun h => by cases h), (fun h => by cases h)⟩, h16⟩
    have a := I.b.keep (Keep.one w (.cells #[.int .i64 r] 3))
    exact ⟨(fun h => by cases h), a.f30, a.f33, fun _ _ => ⟨_, rfl, heap_alloc_new _ _⟩, (fun h => by cases h)⟩
  · have hb : b13 = false := hun
    subst hb
    have h15 : b15 = false := by
      cases b15 with
      | false => rfl
      | true => exact absurd (I.d15 rfl).2.2.2.2.2.2.2.1 (by decide)
    subst h15
    have h10 : b10 = true := dep_of hi ado13.1 10 (by kernel_rfl)
    subst h10
    have h12 : b12 = true := dep_of hi ado13.1 12 (by kernel_rfl)
    subst h12
    have h14 : b14 = false := by
      cases b14 with
      | false => rfl
      | true => exact absurd (I.d14 rfl).2 (by decide)
    subst h14
    have own := I.b.f33 rfl rfl
    obtain ⟨g2, rfl, hh2⟩ := I.b.f35 rfl rfl
    refine ad13 own (srcN_one hh2) hn ks fun v' w' hr hgr => ?_
    have F := fr_grown I.fr own (Nat.le_refl _) hgr
    exact ⟨S1 F, _, _, _, _, _, true, true, true, _, _, _, _, _, _, _, _, _, _, _, v', _, rfl, rfl, ⟨F, fun h => out_grown (I.out h) own (by decide) hgr, I.a.far own hgr, ⟨fun _ => ⟨rfl, rfl⟩, (fun _ h => by cases h), (fun _ h => by cases h), (fun _ h => by cases h), fun _ => hr⟩, (fun h => by cases h), (fun h => by cases h), (fun h => by cases h), (fun h => by cases h)⟩, h16⟩
  · have hb : b14 = false := hun
    subst hb
    have h15 : b15 = false := by
      cases b15 with
      | false => rfl
      | true => exact absurd (I.d15 rfl).2.2.2.2.2.2.2.2 (by decide)
    subst h15
    have h6 : b6 = true := dep_of hi ado14.1 6 (by kernel_rfl)
    subst h6
    have h13 : b13 = true := dep_of hi ado14.1 13 (by kernel_rfl)
    subst h13
    obtain ⟨B, d, eB, _⟩ := own_form (I.a.f29 rfl)
    obtain ⟨B2, d2, eB2, _⟩ := own_form (I.b.f36 rfl)
    subst eB eB2
    exact ad14 rfl rfl ⟨S1 I.fr, _, _, _, true, _, _, _, true, true, _, _, _, _, _, _, _, _, _, _, _, _, rfl, rfl, ⟨I.fr, I.out, I.a, I.b, fun _ => ⟨rfl, rfl⟩, (fun h => by cases h), fun _ => ⟨B, d, B2, d2, rfl, rfl, rfl⟩, (fun h => by cases h)⟩, h16⟩
  · have hb : b15 = false := hun
    subst hb
    have h0 : b0 = true := dep_of hi ado15.1 0 (by kernel_rfl)
    subst h0
    have h3 : b3 = true := dep_of hi ado15.1 3 (by kernel_rfl)
    subst h3
    have h5 : b5 = true := dep_of hi ado15.1 5 (by kernel_rfl)
    subst h5
    have h6 : b6 = true := dep_of hi ado15.1 6 (by kernel_rfl)
    subst h6
    have h7 : b7 = true := dep_of hi ado15.1 7 (by kernel_rfl)
    subst h7
    have h10 : b10 = true := dep_of hi ado15.1 10 (by kernel_rfl)
    subst h10
    have h12 : b12 = true := dep_of hi ado15.1 12 (by kernel_rfl)
    subst h12
    have h13 : b13 = true := dep_of hi ado15.1 13 (by kernel_rfl)
    subst h13
    have h14 : b14 = true := dep_of hi ado15.1 14 (by kernel_rfl)
    subst h14
    obtain ⟨B, d, B2, d2, rfl, rfl, rfl⟩ := I.f37 rfl
    have ho := I.out rfl
    have hl := (Array.getElem?_eq_some_iff.1 ho).1
    have F : Fr (fun k => k = s) W0 ((w.setCell ⟨s, 0, none⟩ (.slice B (n + 1) d)).setCell ⟨s, 1, none⟩ (.slice B2 (n + 1) d2)) := (I.fr.set (p := ⟨s, 0, none⟩) (Or.inl rfl) _).set (p := ⟨s, 1, none⟩) (Or.inl rfl) _
    have hh1 : (w.setCell ⟨s, 0, none⟩ (.slice B (n + 1) d)).heap[s]? = some (.cells #[.slice B (n + 1) d, .slice none 0 0] 30 (0, 0)) := heap_setCell_same w s 0 _ _ (.slice B (n + 1) d) ho
    have hh2 : ((w.setCell ⟨s, 0, none⟩ (.slice B (n + 1) d)).setCell ⟨s, 1, none⟩ (.slice B2 (n + 1) d2)).heap[s]? = some (.cells #[.slice B (n + 1) d, .slice B2 (n + 1) d2] 30 (0, 0)) := heap_setCell_same _ s 1 _ _ (.slice B2 (n + 1) d2) hh1
    have ra := set_own hh1 (set_own ho (I.a.f29 rfl) (by decide) 0 (.slice B (n + 1) d)) (by decide) 1 (.slice B2 (n + 1) d2)
    have rb := set_own hh1 (set_own ho (I.b.f36 rfl) (by decide) 0 (.slice B (n + 1) d)) (by decide) 1 (.slice B2 (n + 1) d2)
    exact ad15 rfl e6 ho ⟨S1 F, true, true, true, true, true, true, true, true, true, true, _, _, _, _, _, _, _, _, _, _, _, rfl, rfl, ⟨F, (fun h => by cases h), ⟨fun _ => ⟨rfl, rfl⟩, (fun _ h => by cases h), (fun _ h => by cases h), (fun _ h => by cases h), fun _ => ra⟩, ⟨fun _ => ⟨rfl, rfl⟩, (fun _ h => by cases h), (fun _ h => by cases h), (fun _ h => by cases h), fun _ => rb⟩, fun _ => ⟨rfl, rfl⟩, fun _ => ⟨rfl, rfl, rfl, rfl, rfl, rfl, rfl, rfl, rfl⟩, fun _ => ⟨B, d, B2, d2, rfl, rfl, rfl⟩, fun _ => ⟨B, d, B2, d2, rfl, rfl, hh2⟩⟩, h16⟩
  · have hb : b16 = false := hun
    subst hb
    exact ad16 ⟨S1 I.fr, _, _, _, _, _, _, _, _, _, _, true, _, _, _, _, _, _, _, _, _, _, rfl, rfl, I, fun _ => rfl⟩

theorem ad_region (h0 : adS s0 A n c A2 c2 x W0) (hs1 : s0 ≠ s) (hs2 : s0 + 1 ≠ s) (hn : n ≤ 1000) (e6 : e 6 = .pointer (some ⟨s, 0, none⟩)) (e27 : e 27 = x.val) (e34 : e 34 = .int .i64 r)
    (srcA : ∀ w, Fr (fun k => k = s) W0 w → SrcP w (e 25) n (podCs S n)) (srcB : ∀ w, Fr (fun k => k = s) W0 w → SrcN w (e 32) n Z) (ho : W0.heap[s]? = some (.cells #[.slice none 0 0, .slice none 0 0] 30 (0, 0)))
    (hQ : ∀ v23 v26 v28 v30 v33 v35 v37 B d B2 d2 w, Fr (fun k => k = s) W0 w → w.heap[s]? = some (.cells #[.slice B (n + 1) d, .slice B2 (n + 1) d2] 30 (0, 0)) → w.ownsRow W0.heap.size 35 9 (.slice B (n + 1) d) (n + 1) (podCs (put S n x) (n + 1)) → w.ownsRow W0.heap.size 3 1 (.slice B2 (n + 1) d2) (n + 1) (rowL (n + 1) (putZ Z n r)) → Q .normal (adF e (.bool true) v23 v26 v28 (.slice B (n + 1) d) v30 v33 v35 (.slice B2 (n + 1) d2) v37) w) (v7 u : Value) :
    wpAnyH Tryd.prog .any adOps Q (adS s0 A n c A2 c2 x) 11 (adB false false false false false false false false false false false) (adF e v7 u u u u u u u u u) W0 := by
  refine any_inv (adInv W0 s n S Z x r e) (ad_step h0 hs1 hs2 hn e6 e27 e34 srcA srcB) ?_ 11 _ _ _ ?_ (by decide)
  · rintro l a w ⟨b0, b3, b5, b6, b7, b10, b12, b13, b14, b15, b16, v7, v23, v26, v28, v29, v30, v33, v35, v36, v37, rfl, rfl, I, h16⟩ hr
    have all := ready_done (by kernel_rfl) (by rw [ad_size]; rfl) hr
    rw [ad_size] at all
    have h15 : b15 = true := all 15 (by omega)
    have h16' : b16 = true := all 16 (by omega)
    have h6 : b6 = true := all 6 (by omega)
    have h13 : b13 = true := all 13 (by omega)
    subst h15 h16' h6 h13
    obtain ⟨B, d, B2, d2, rfl, rfl, hh⟩ := I.f15 rfl
    rw [h16 rfl]
    exact hQ _ _ _ _ _ _ _ B d B2 d2 w I.fr hh (I.a.f29 rfl) (I.b.f36 rfl)
  · exact ⟨_, _, _, _, _, _, _, _, _, _, _, _, _, _, _, _, _, _, _, _, _, rfl, rfl, ⟨Fr.refl _ _, fun _ => ho, ⟨(fun h => by cases h), (fun h => by cases h), (fun h => by cases h), (fun h => by cases h), (fun h => by cases h)⟩, ⟨(fun h => by cases h), (fun h => by cases h), (fun h => by cases h), (fun h => by cases h), (fun h => by cases h)⟩, (fun h => by cases h), (fun h => by cases h), (fun h => by cases h), (fun h => by cases h)⟩, (fun h => by cases h)⟩
end
end Go.Proofs.YtpkpmoiekjhdnaaDoor
