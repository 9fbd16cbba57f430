/-
  What the laws ask of the nodes' functions. No condition, no walk.
-/
import Derived.Test.YtokopegffeablaaDoorClone12
import Derived.Test.YtokopegffeablaaDoorFuncs
namespace Go.Proofs.YtokopegffeablaaDoor.T12
open Go.RowKit Go.Sort Go.Lib V12

/-- The fault of a code at an index; none at 0. -/
def flt (c n : Int) : Value := (Base.fault c n).val
def fltC (c n : Int) : Value := if c = 0 then .nilIface else flt c n
/-- All blocks but those of D, and all numbers, are as they were. -/
structure FrS (D : Nat → Prop) (w w' : World) : Prop where
  fr : Fr D w w'
  int : ∀ b o k i, w.cell? ⟨b, o, none⟩ = some (.int k i) → w'.cell? ⟨b, o, none⟩ = some (.int k i)
theorem FrS.of {D : Nat → Prop} {w w' : World} (k : Keep w w') : FrS D w w' := ⟨Fr.of k, fun _ _ _ _ h => k.cell h⟩
theorem FrS.keep {D : Nat → Prop} {a b c : World} (f : FrS D a b) (k : Keep b c) : FrS D a c := ⟨f.fr.keep k, fun _ _ _ _ h => k.cell (f.int _ _ _ _ h)⟩
theorem FrS.after {D : Nat → Prop} {a b c : World} (k : Keep a b) (f : FrS D b c) : FrS D a c := ⟨Fr.after k f.fr, fun _ _ _ _ h => f.int _ _ _ _ (k.cell h)⟩
theorem FrS.rd {D : Nat → Prop} {w w' : World} (f : FrS D w w') {A : Option Addr} {n : Nat} {Z : Nat → Int} (g : Rd w A n Z) : Rd w' A n Z :=
  ⟨g.small, g.range, fun hn => by
    obtain ⟨b, off, e, hc⟩ := g.adr hn
    exact ⟨b, off, e, fun j hj => f.int _ _ _ _ (hc j hj)⟩⟩
/-- The store's function: what is there behind it. -/
def Eff (SI : World → Nat → Int → Nat → (Nat → Prop) → List NodeV → Prop) (d : Nat) (s : Int) (q : Nat) (D : Nat → Prop) (w : World) (M : List NodeV) (w' : World) : Prop :=
  ∃ D', SI w' d s q D' M ∧ FrS D w w' ∧ ∀ k, D' k → D k ∨ w.heap.size ≤ k
def nget (L : List NodeV) (id : Int) : NodeV := G.get NodeV.k zn L id
def nrow (L : List NodeV) (j : Nat) : NodeV := L.getD j zn
/-- SI w d s q D L: the store at q, of dimension d and size s, holds the nodes L; D are its blocks that its functions change. -/
structure Con (SI : World → Nat → Int → Nat → (Nat → Prop) → List NodeV → Prop) : Prop where
  keep : ∀ {w w' d s q D L}, SI w d s q D L → Keep w w' → SI w' d s q D L
  offV : ∀ {w d s q D L a v}, SI w d s q D L → w.cell? a = some v → D a.block → ∀ t x, v ≠ .iface t x
  srt : ∀ {w d s q D L}, SI w d s q D L → NSrt L
  ok : ∀ {w d s q D L}, SI w d s q D L → ∀ x ∈ L, NodeOk d x
  len : ∀ {w d s q D L}, SI w d s q D L → (L.length : Int) ≤ s
  new : ∀ (d : Nat) (s : Int) (w : World), d ≤ 64 → 0 ≤ s → s ≤ 1000 → Calls Tryd.prog 5 #[.int .i64 d, .int .i64 s] w fun e w' => ∃ q, e = .returned (.pointer (some ⟨q, 0, none⟩)) ∧ ∃ D, SI w' d s q D [] ∧ Keep w w' ∧ ∀ k, D k → w.heap.size ≤ k
  dims : ∀ {w d s q D L}, SI w d s q D L → Calls Tryd.prog 18 #[.pointer (some ⟨q, 0, none⟩)] w fun e w' => e = .returned (.int .i64 d) ∧ Keep w w'
  add : ∀ {w d s q D L} (k : Int) (A : Option Addr) (n c : Nat) (Z : Nat → Int), SI w d s q D L → ErrT w → Rd w A n Z → (A = none → n = 0 ∧ c = 0) → I64 k → n ≤ 1000 → d ≤ 64 →
    Calls Tryd.prog 7 #[.pointer (some ⟨q, 0, none⟩), .agg #[.int .i64 k, .slice A n c]] w fun e w' => e = .returned (fltC (addC L d s k n Z) (addI d n Z)) ∧ Eff SI d s q D w (addL L d s k n Z) w'
  hold : ∀ {w d s q D L} (id : Int) (A : Option Addr) (n c : Nat) (Z : Nat → Int), SI w d s q D L → ErrT w → Rd w A n Z → I64 id → n ≤ 1000 → d ≤ 64 →
    Calls Tryd.prog 8 #[.pointer (some ⟨q, 0, none⟩), .int .i64 id, .slice A n c] w fun e w' => e = .returned (fltC (chC L d id n Z false) 0) ∧ Eff SI d s q D w (chL L d id n Z false) w'
  release : ∀ {w d s q D L} (id : Int) (A : Option Addr) (n c : Nat) (Z : Nat → Int), SI w d s q D L → ErrT w → Rd w A n Z → I64 id → n ≤ 1000 → d ≤ 64 →
    Calls Tryd.prog 9 #[.pointer (some ⟨q, 0, none⟩), .int .i64 id, .slice A n c] w fun e w' => e = .returned (fltC (chC L d id n Z true) 0) ∧ Eff SI d s q D w (chL L d id n Z true) w'
  get : ∀ {w d s q D L} (id : Int), SI w d s q D L → I64 id →
    Calls Tryd.prog 13 #[.pointer (some ⟨q, 0, none⟩), .int .i64 id] w fun e w' => ∃ k A n c, e = .returned (.tuple #[.agg #[.int .i64 k, .slice A n c], .bool (decide (id ∈ nkeys L))]) ∧ (id ∈ nkeys L → k = id ∧ n = d ∧ Rd w' A d (nget L id).C ∧ New w w' A n) ∧ (id ∉ nkeys L → k = 0 ∧ n = 0) ∧ Keep w w'
  used : ∀ {w d s q D L} (id : Int), SI w d s q D L → I64 id →
    Calls Tryd.prog 11 #[.pointer (some ⟨q, 0, none⟩), .int .i64 id] w fun e w' => ∃ A n c, e = .returned (.slice A n c) ∧ (id ∈ nkeys L → n = d ∧ Rd w' A d (nget L id).U ∧ New w w' A n) ∧ (id ∉ nkeys L → n = 0) ∧ Keep w w'
  free : ∀ {w d s q D L} (id : Int), SI w d s q D L → I64 id →
    Calls Tryd.prog 12 #[.pointer (some ⟨q, 0, none⟩), .int .i64 id] w fun e w' => ∃ A n c, e = .returned (.slice A n c) ∧ (id ∈ nkeys L → n = d ∧ Rd w' A d (fun j => (nget L id).C j - (nget L id).U j) ∧ New w w' A n) ∧ (id ∉ nkeys L → n = 0) ∧ Keep w w'
  ids : ∀ {w d s q D L}, SI w d s q D L → Calls Tryd.prog 14 #[.pointer (some ⟨q, 0, none⟩)] w fun e w' => ∃ A c, e = .returned (.slice A L.length c) ∧ Rd w' A L.length (fun j => (nrow L j).k) ∧ Keep w w'
  holdNil : ∀ (w : World) (id : Int), ErrT w → Calls Tryd.prog 8 #[.pointer none, .int .i64 id, .slice none 0 0] w fun e w' => e = .returned (flt 5 0) ∧ Keep w w'
  usedNil : ∀ (w : World) (id : Int), Calls Tryd.prog 11 #[.pointer none, .int .i64 id] w fun e w' => ∃ A c, e = .returned (.slice A 0 c) ∧ Keep w w'
section
variable {SI : World → Nat → Int → Nat → (Nat → Prop) → List NodeV → Prop} {w w' : World} {d : Nat} {s : Int} {q : Nat} {D : Nat → Prop} {L : List NodeV}
theorem Con.errT (C : Con SI) (h : SI w d s q D L) (f : FrS D w w') (g : ErrT w) : ErrT w' := f.fr.cell g fun hd => C.offV h g hd _ _ rfl
theorem Eff.of (C : Con SI) (h : SI w d s q D L) (k : Keep w w') : Eff SI d s q D w L w' := ⟨D, C.keep h k, FrS.of k, fun _ h => Or.inl h⟩
end
set_option maxHeartbeats 1000000 in
theorem wrong_yes (c n : Int) (w : World) (hg : ErrT w) : Calls Tryd.prog 16 #[flt c n, .int .i64 c, .int .i64 n] w fun e w' => e = .returned (.bool true) ∧ Keep w w' := by
  have h1 := Lib.hid (code_yes c [] (.fault c n) _ w (.base _) (Or.inr ⟨_, rfl⟩) hg)
  have h2 : Hid (∀ W, Keep w W → Calls Tryd.prog 34 #[(Base.fault c n).val] W fun e w' => e = .returned (.tuple #[.int .i64 n, .bool true]) ∧ Keep W w') := fun W k => at_yes c n [] _ W (.base _) (hg.keep k)
  clear hg
  unfold flt
  go_enter Tryd.func16, Tryd.ntmps16
  go_wp2_with fail
  refine h1.out.mono ?_
  rintro e w1 ⟨rfl, k1⟩
  have k1 := Lib.hid k1
  go_wp2_with fail
  refine (h2.out _ k1.out).mono ?_
  rintro e w2 ⟨rfl, k2⟩
  have k2 := Lib.hid k2
  go_wp2
  go_ret
  exact ⟨rfl, k1.out.trans k2.out⟩
set_option maxHeartbeats 1000000 in
theorem wrong_at (c n m : Int) (hnm : n ≠ m) (w : World) (hg : ErrT w) : Calls Tryd.prog 16 #[flt c n, .int .i64 c, .int .i64 m] w fun e w' => e = .returned (.bool false) ∧ Keep w w' := by
  have h1 := Lib.hid (code_yes c [] (.fault c n) _ w (.base _) (Or.inr ⟨_, rfl⟩) hg)
  have h2 : Hid (∀ W, Keep w W → Calls Tryd.prog 34 #[(Base.fault c n).val] W fun e w' => e = .returned (.tuple #[.int .i64 n, .bool true]) ∧ Keep W w') := fun W k => at_yes c n [] _ W (.base _) (hg.keep k)
  clear hg
  unfold flt
  go_enter Tryd.func16, Tryd.ntmps16
  go_wp2_with fail
  refine h1.out.mono ?_
  rintro e w1 ⟨rfl, k1⟩
  have k1 := Lib.hid k1
  go_wp2_with fail
  refine (h2.out _ k1.out).mono ?_
  rintro e w2 ⟨rfl, k2⟩
  have k2 := Lib.hid k2
  go_wp2
  go_ret
  exact ⟨by simp [hnm], k1.out.trans k2.out⟩
end Go.Proofs.YtokopegffeablaaDoor.T12
