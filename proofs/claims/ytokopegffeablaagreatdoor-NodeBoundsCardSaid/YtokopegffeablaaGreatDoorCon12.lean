/-
  What the laws ask of the nodes' functions. No condition, no walk.
-/
import Derived.Test.YtokopegffeablaaGreatDoorClone12
import Derived.Test.YtokopegffeablaaGreatDoorFuncs
namespace Go.Proofs.YtokopegffeablaaGreatDoor.T12
open Go.RowKit Go.Sort Go.Lib V12

/-- The fault of a code at an index; none at 0. -/
def flt (c n : Int) : Value := (Base.fault c n).val
def fltC (c n : Int) : Value := if c = 0 then .nilIface else flt c n
/-- All blocks but those of D, and all numbers, are as they were. -/
structure FrS (D : Nat → Prop) (w w' : World) : Prop where
  fr : Fr D w w'
  int : ∀ b o k i, w.cell? ⟨b, o, none⟩ = some (.int k i) → w'.cell? ⟨b, o, none⟩ = some (.int k i)
theorem FrS.of {D : Nat → Prop} {w w' : World} (k : Keep w w') : FrS D w w' := ⟨Fr.of k, fun _ _ _ _ h => k.cell h⟩
theorem FrS.keep {D : Nat → Prop} {a b c : World} (f : FrS D a b) (k : Keep b c) : FrS D a c := ⟨f.fr.keep k, fun _ _ _ _ h => k.cell (f.int _ _ _ _ h)⟩
theorem FrS.after {D : Nat → Prop} {a b c : World} (k : Keep a b) (f : FrS D b c) : FrS D a c := ⟨Fr.after k f.fr, fun _ _ _ _ h => f.int _ _ _ _ (k.cell h)⟩
theorem FrS.rd {D : Nat → Prop} {w w' : World} (f : FrS D w w') {A : Option Addr} {n : Nat} {Z : Nat → Int} (g : Rd w A n Z) : Rd w' A n Z :=
  ⟨g.small, g.range, fun hn => by
    obtain ⟨b, off, e, hc⟩ := g.adr hn
    exact ⟨b, off, e, fun j hj => f.int _ _ _ _ (hc j hj)⟩⟩
/-- The store's function: what is there behind it. -/
def Eff (SI : World → Nat → Int → Nat → (Nat → Prop) → List NodeV → Prop) (d : Nat) (s : Int) (q : Nat) (D : Nat → Prop) (w : World) (M : List NodeV) (w' : World) : Prop :=
  ∃ D', SI w' d s q D' M ∧ FrS D w w' ∧ ∀ k, D' k → D k ∨ w.heap.size ≤ k
def nget (L : List NodeV) (id : Int) : NodeV := G.get NodeV.k zn L id
def nrow (L : List NodeV) (j : Nat) : NodeV := L.getD j zn
/-- SI w d s q D L: the store at q, of dimension d and size s, holds the nodes L; D are its blocks that its functions change. -/
structure Con (SI : World → Nat → Int → Nat → (Nat → Prop) → List NodeV → Prop) : Prop where
  keep : ∀ {w w' d s q D L}, SI w d s q D L → Keep w w' → SI w' d s q D L
  offT : ∀ {w d s q D L b T}, SI w d s q D L → D b → Typ w b T → T ≠ 42
  offV : ∀ {w d s q D L a v}, SI w d s q D L → w.cell? a = some v → D a.block → ∀ t x, v ≠ .iface t x
  srt : ∀ {w d s q D L}, SI w d s q D L → NSrt L
  ok : ∀ {w d s q D L}, SI w d s q D L → ∀ x ∈ L, NodeOk d x
  len : ∀ {w d s q D L}, SI w d s q D L → (L.length : Int) ≤ s
  new : ∀ (d : Nat) (s : Int) (w : World), d ≤ 64 → 0 ≤ s → s ≤ 1000 → Calls Tryz.prog 5 #[.int .i64 d, .int .i64 s] w fun e w' => ∃ q, e = .returned (.pointer (some ⟨q, 0, none⟩)) ∧ ∃ D, SI w' d s q D [] ∧ Keep w w' ∧ ∀ k, D k → w.heap.size ≤ k
  dims : ∀ {w d s q D L}, SI w d s q D L → Calls Tryz.prog 21 #[.pointer (some ⟨q, 0, none⟩)] w fun e w' => e = .returned (.int .i64 d) ∧ Keep w w'
  add : ∀ {w d s q D L} (k : Int) (A : Option Addr) (n c : Nat) (Z : Nat → Int), SI w d s q D L → ErrT w → Rd w A n Z → (A = none → n = 0 ∧ c = 0) → I64 k → n ≤ 1000 → d ≤ 64 →
    Calls Tryz.prog 15 #[.pointer (some ⟨q, 0, none⟩), .agg #[.int .i64 k, .slice A n c]] w fun e w' => e = .returned (fltC (addC L d s k n Z) (addI d n Z)) ∧ Eff SI d s q D w (addL L d s k n Z) w'
  drop : ∀ {w d s q D L} (id : Int), SI w d s q D L → ErrT w → I64 id →
    Calls Tryz.prog 24 #[.pointer (some ⟨q, 0, none⟩), .int .i64 id] w fun e w' => ∃ k A n c, e = .returned (.tuple #[.agg #[.int .i64 k, .slice A n c], if id ∈ nkeys L then .nilIface else flt 5 0]) ∧ (id ∈ nkeys L → k = id ∧ n = d ∧ Rd w' A d (nget L id).C) ∧ (id ∉ nkeys L → k = 0 ∧ n = 0) ∧ Eff SI d s q D w (dropL L id) w'
  hold : ∀ {w d s q D L} (id : Int) (A : Option Addr) (n c : Nat) (Z : Nat → Int), SI w d s q D L → ErrT w → Rd w A n Z → I64 id → n ≤ 1000 → d ≤ 64 →
    Calls Tryz.prog 16 #[.pointer (some ⟨q, 0, none⟩), .int .i64 id, .slice A n c] w fun e w' => e = .returned (fltC (chC L d id n Z false) 0) ∧ Eff SI d s q D w (chL L d id n Z false) w'
  release : ∀ {w d s q D L} (id : Int) (A : Option Addr) (n c : Nat) (Z : Nat → Int), SI w d s q D L → ErrT w → Rd w A n Z → I64 id → n ≤ 1000 → d ≤ 64 →
    Calls Tryz.prog 18 #[.pointer (some ⟨q, 0, none⟩), .int .i64 id, .slice A n c] w fun e w' => e = .returned (fltC (chC L d id n Z true) 0) ∧ Eff SI d s q D w (chL L d id n Z true) w'
  get : ∀ {w d s q D L} (id : Int), SI w d s q D L → I64 id →
    Calls Tryz.prog 10 #[.pointer (some ⟨q, 0, none⟩), .int .i64 id] w fun e w' => ∃ k A n c, e = .returned (.tuple #[.agg #[.int .i64 k, .slice A n c], .bool (decide (id ∈ nkeys L))]) ∧ (id ∈ nkeys L → k = id ∧ n = d ∧ Rd w' A d (nget L id).C ∧ New w w' A n) ∧ (id ∉ nkeys L → k = 0 ∧ n = 0) ∧ Keep w w'
  used : ∀ {w d s q D L} (id : Int), SI w d s q D L → I64 id →
    Calls Tryz.prog 11 #[.pointer (some ⟨q, 0, none⟩), .int .i64 id] w fun e w' => ∃ A n c, e = .returned (.slice A n c) ∧ (id ∈ nkeys L → n = d ∧ Rd w' A d (nget L id).U ∧ New w w' A n) ∧ (id ∉ nkeys L → n = 0) ∧ Keep w w'
  free : ∀ {w d s q D L} (id : Int), SI w d s q D L → I64 id →
    Calls Tryz.prog 17 #[.pointer (some ⟨q, 0, none⟩), .int .i64 id] w fun e w' => ∃ A n c, e = .returned (.slice A n c) ∧ (id ∈ nkeys L → n = d ∧ Rd w' A d (fun j => (nget L id).C j - (nget L id).U j) ∧ New w w' A n) ∧ (id ∉ nkeys L → n = 0) ∧ Keep w w'
  ids : ∀ {w d s q D L}, SI w d s q D L → Calls Tryz.prog 9 #[.pointer (some ⟨q, 0, none⟩)] w fun e w' => ∃ A c, e = .returned (.slice A L.length c) ∧ Rd w' A L.length (fun j => (nrow L j).k) ∧ Keep w w'
  holdNil : ∀ (w : World) (id : Int), ErrT w → Calls Tryz.prog 16 #[.pointer none, .int .i64 id, .slice none 0 0] w fun e w' => e = .returned (flt 5 0) ∧ Keep w w'
  usedNil : ∀ (w : World) (id : Int), Calls Tryz.prog 11 #[.pointer none, .int .i64 id] w fun e w' => ∃ A c, e = .returned (.slice A 0 c) ∧ Keep w w'
section
variable {SI : World → Nat → Int → Nat → (Nat → Prop) → List NodeV → Prop} {w w' : World} {d : Nat} {s : Int} {q : Nat} {D : Nat → Prop} {L : List NodeV}
theorem Con.errT (C : Con SI) (h : SI w d s q D L) (f : FrS D w w') (g : ErrT w) : ErrT w' := f.fr.cell g fun hd => C.offV h g hd _ _ rfl
theorem Con.rl (C : Con SI) (h : SI w d s q D L) (f : FrS D w w') {B : Option Addr} {cp : Nat} {l : List RnV} (g : RL w d B cp l) : RL w' d B cp l := by
  have hb : ∀ b off, B = some ⟨b, off, none⟩ → ¬ D b := fun b off e hd => C.offT h hd (g.ty b off e) rfl
  refine ⟨⟨g.rd.small, fun hn => ?_, g.rd.ok⟩, g.cap, g.pl, fun x hx => ?_, fun b off e => (g.ty b off e).same (f.fr.block _ (g.ty b off e).lt (hb b off e))⟩
  · obtain ⟨b, off, e, hc⟩ := g.rd.adr hn
    have nb := hb b off e
    refine ⟨b, off, e, fun j hj => ⟨f.fr.cell (hc j hj).e0 nb, f.fr.cell (hc j hj).e1 nb, f.fr.cell (hc j hj).e2 nb⟩⟩
  · have := g.is x hx
    exact ⟨this.n, this.m, f.rd this.rc, f.rd this.ru, this.na, this.nb⟩
theorem Eff.of (C : Con SI) (h : SI w d s q D L) (k : Keep w w') : Eff SI d s q D w L w' := ⟨D, C.keep h k, FrS.of k, fun _ h => Or.inl h⟩
end
set_option maxHeartbeats 1000000 in
theorem wrong_yes (c n : Int) (w : World) (hg : ErrT w) : Calls Tryz.prog 19 #[flt c n, .int .i64 c, .int .i64 n] w fun e w' => e = .returned (.bool true) ∧ Keep w w' := by
  have h1 := Lib.hid (code_yes c [] (.fault c n) _ w (.base _) (Or.inr ⟨_, rfl⟩) hg)
  have h2 : Hid (∀ W, Keep w W → Calls Tryz.prog 42 #[(Base.fault c n).val] W fun e w' => e = .returned (.tuple #[.int .i64 n, .bool true]) ∧ Keep W w') := fun W k => at_yes c n [] _ W (.base _) (hg.keep k)
  clear hg
  unfold flt
  go_enter Tryz.func19, Tryz.ntmps19
  go_wp2_with fail
  refine h1.out.mono ?_
  rintro e w1 ⟨rfl, k1⟩
  have k1 := Lib.hid k1
  go_wp2_with fail
  refine (h2.out _ k1.out).mono ?_
  rintro e w2 ⟨rfl, k2⟩
  have k2 := Lib.hid k2
  go_wp2
  go_ret
  exact ⟨rfl, k1.out.trans k2.out⟩
set_option maxHeartbeats 1000000 in
theorem told_yes (c n : Int) (w : World) (hg : ErrT w) : Calls Tryz.prog 23 #[fltC c n, .int .i64 c, .int .i64 n] w fun e w' => e = .returned (.bool true) ∧ Keep w w' := by
  unfold fltC
  by_cases hc : c = 0
  · rw [if_pos hc]
    subst hc
    clear hg
    go_enter Tryz.func23, Tryz.ntmps23
    go_wp2
    go_ret
    exact ⟨rfl, Keep.refl _⟩
  · rw [if_neg hc]
    have h1 := Lib.hid (wrong_yes c n w hg)
    clear hg
    go_enter Tryz.func23, Tryz.ntmps23
    go_wp2_with fail
    refine h1.out.mono ?_
    rintro e w1 ⟨rfl, k1⟩
    have k1 := Lib.hid k1
    go_wp2
    go_ret
    exact ⟨rfl, k1.out⟩
set_option maxHeartbeats 1000000 in
theorem wrong_at (c n m : Int) (hnm : n ≠ m) (w : World) (hg : ErrT w) : Calls Tryz.prog 19 #[flt c n, .int .i64 c, .int .i64 m] w fun e w' => e = .returned (.bool false) ∧ Keep w w' := by
  have h1 := Lib.hid (code_yes c [] (.fault c n) _ w (.base _) (Or.inr ⟨_, rfl⟩) hg)
  have h2 : Hid (∀ W, Keep w W → Calls Tryz.prog 42 #[(Base.fault c n).val] W fun e w' => e = .returned (.tuple #[.int .i64 n, .bool true]) ∧ Keep W w') := fun W k => at_yes c n [] _ W (.base _) (hg.keep k)
  clear hg
  unfold flt
  go_enter Tryz.func19, Tryz.ntmps19
  go_wp2_with fail
  refine h1.out.mono ?_
  rintro e w1 ⟨rfl, k1⟩
  have k1 := Lib.hid k1
  go_wp2_with fail
  refine (h2.out _ k1.out).mono ?_
  rintro e w2 ⟨rfl, k2⟩
  have k2 := Lib.hid k2
  go_wp2
  go_ret
  exact ⟨by simp [hnm], k1.out.trans k2.out⟩
set_option maxHeartbeats 1000000 in
theorem told_any (c n m : Int) (w : World) (hg : ErrT w) : Calls Tryz.prog 23 #[fltC c n, .int .i64 c, .int .i64 m] w fun e w' => (∃ b, e = .returned (.bool b)) ∧ Keep w w' := by
  by_cases hc : c = 0
  · unfold fltC
    rw [if_pos hc]
    subst hc
    clear hg
    go_enter Tryz.func23, Tryz.ntmps23
    go_wp2
    go_ret
    exact ⟨⟨_, rfl⟩, Keep.refl _⟩
  · by_cases hnm : n = m
    · subst hnm
      exact (told_yes c n w hg).mono fun _ _ h => ⟨⟨_, h.1⟩, h.2⟩
    · unfold fltC
      rw [if_neg hc]
      have h1 := Lib.hid (wrong_at c n m hnm w hg)
      clear hg
      go_enter Tryz.func23, Tryz.ntmps23
      go_wp2_with fail
      refine h1.out.mono ?_
      rintro e w1 ⟨rfl, k1⟩
      have k1 := Lib.hid k1
      go_wp2
      go_ret
      exact ⟨⟨_, rfl⟩, k1.out⟩
end Go.Proofs.YtokopegffeablaaGreatDoor.T12
