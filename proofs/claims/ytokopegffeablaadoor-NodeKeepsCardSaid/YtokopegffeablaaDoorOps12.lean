/-
  The law's operations, its few, its play of any of them. Conditions: errors.errorType holds its own; at most 1000 nodes, 64 dimensions.
-/
import Derived.Test.YtokopegffeablaaDoorPlayD12
namespace Go.Proofs.YtokopegffeablaaDoor.T12
open Go.RowKit Go.Sort Go.Lib V12

/-- An operation: its kind, its id, its vector (where it lies, and what it is). -/
structure OpV where
  kd : Int
  id : Int
  A : Option Addr
  n : Nat
  c : Nat
  Z : Nat → Int
def OpV.val (o : OpV) : Value := .agg #[.int .i64 o.kd, .int .i64 o.id, .slice o.A o.n o.c]
structure OpIs (w : World) (o : OpV) : Prop where
  k : I64 o.kd
  i : I64 o.id
  r : Rd w o.A o.n o.Z
  nil : o.A = none → o.n = 0 ∧ o.c = 0
theorem OpIs.keep {w w' : World} {o : OpV} (h : OpIs w o) (k : Keep w w') : OpIs w' o := ⟨h.k, h.i, h.r.keep k, h.nil⟩
/-- The operations of a slice. -/
structure RdO (w : World) (A : Option Addr) (n : Nat) (P : Nat → OpV) : Prop where
  small : n ≤ 9223372036854775807
  adr : 0 < n → ∃ b off, A = some ⟨b, off, none⟩ ∧ ∀ j, j < n → w.cell? ⟨b, off + j * 3, none⟩ = some (.int .i64 (P j).kd) ∧ w.cell? ⟨b, off + j * 3 + 1, none⟩ = some (.int .i64 (P j).id) ∧ w.cell? ⟨b, off + j * 3 + 2, none⟩ = some (.slice (P j).A (P j).n (P j).c)
  is : ∀ j, j < n → OpIs w (P j)
theorem RdO.keep {w w' : World} {A : Option Addr} {n : Nat} {P : Nat → OpV} (h : RdO w A n P) (k : Keep w w') : RdO w' A n P :=
  ⟨h.small, fun hn => by
    obtain ⟨b, off, e, c⟩ := h.adr hn
    exact ⟨b, off, e, fun j hj => ⟨k.cell (c j hj).1, k.cell (c j hj).2.1, k.cell (c j hj).2.2⟩⟩, fun j hj => (h.is j hj).keep k⟩
def FewO (P : Nat → OpV) (n : Nat) : Prop := n ≤ 60 ∧ ∀ j, j < n → (P j).n ≤ 20
theorem few_or (P : Nat → OpV) (n : Nat) : ∃ b, b = true ↔ FewO P n := ⟨@decide (FewO P n) (Classical.propDecidable _), by simp⟩
/-- What an operation leaves. -/
def opL (L : List NodeV) (d : Nat) (s : Int) (o : OpV) : List NodeV :=
  if o.kd = 0 then addL L d s o.id o.n o.Z else if o.kd = 1 then dropL L o.id else if o.kd = 2 then chL L d o.id o.n o.Z false else chL L d o.id o.n o.Z true
theorem opL_len (L : List NodeV) (d : Nat) (s : Int) (o : OpV) : (opL L d s o).length ≤ L.length + 1 := by
  unfold opL
  split
  · exact addL_len _ _ _ _ _ _
  · split
    · have := dropL_len L o.id; omega
    · split
      · rw [chL_len]; omega
      · rw [chL_len]; omega
end Go.Proofs.YtokopegffeablaaDoor.T12
