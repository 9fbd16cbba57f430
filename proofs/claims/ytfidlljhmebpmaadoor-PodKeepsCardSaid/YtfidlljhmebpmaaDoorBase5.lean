/-
  What was there stays; slices of numbers; bounds. No condition.
-/
import Derived.Test.YtfidlljhmebpmaaDoorFuncs
import Derived.WalkKit
import Derived.WalkSpells
import Derived.WalkLawsBesides
import Derived.BigQuiet
import Derived.Deep.QuietTactic
import Derived.Deep.LoopGhost
import Derived.Deep.OwnRows
import Derived.Deep.RegionHeld3
import Derived.Below
import Derived.Lib.Hide
import Derived.WideShapes
import Derived.WalkMore
namespace Go.Proofs.YtfidlljhmebpmaaDoor
open Go.RowKit Go.Extern.Stop Go.Stop Go.Extern

/-- The numbers of a slice: n of them, number k is Z k. -/
structure Rd (w : World) (A : Option Addr) (n : Nat) (Z : Nat → Int) : Prop where
  small : n ≤ 9223372036854775807
  range : ∀ k, k < n → -9223372036854775808 ≤ Z k ∧ Z k ≤ 9223372036854775807
  adr : 0 < n → ∃ b off, A = some ⟨b, off, none⟩ ∧ ∀ j, j < n → w.cell? ⟨b, off + j, none⟩ = some (.int .i64 (Z j))

theorem Rd.below {w w' : World} {A n Z} (h : Rd w A n Z) (hb : Below w.heap.size w w') : Rd w' A n Z :=
  ⟨h.small, h.range, fun hn => by
    obtain ⟨b, off, e, hc⟩ := h.adr hn
    exact ⟨b, off, e, fun j hj => by rw [hb.cell (p := ⟨b, off + j, none⟩) (World.block_lt_of_cell? _ _ (hc j hj))]; exact hc j hj⟩⟩

theorem below_drewN {B : Nat} {a w : World} (h : Below B a w) (q : Nat) : Below B a (w.drewN q) := ⟨h.os, h.tape, h.output, h.size, h.block⟩
/-- The world has at most drawn. -/
def Drawn (w w' : World) : Prop := ∃ q, w' = w.drewN q
theorem Drawn.refl (w : World) : Drawn w w := ⟨0, rfl⟩
theorem Drawn.drewN {w w' : World} (h : Drawn w w') (q : Nat) : Drawn w (w'.drewN q) := by
  obtain ⟨p, rfl⟩ := h
  exact ⟨p + q, World.drewN_drewN ..⟩
theorem Drawn.drew {w w' : World} (h : Drawn w w') : Drawn w w'.drew := h.drewN 1
theorem Drawn.trans {w w' w'' : World} (h : Drawn w w') (k : Drawn w' w'') : Drawn w w'' := by
  obtain ⟨p, rfl⟩ := k
  exact h.drewN p
theorem Drawn.below {w w' : World} (h : Drawn w w') : Below w.heap.size w w' := by
  obtain ⟨q, rfl⟩ := h
  exact below_drewN (Below.refl _ _) q
theorem Rd.nil (w : World) (A : Option Addr) (Z : Nat → Int) : Rd w A 0 Z := ⟨by omega, fun _ h => absurd h (Nat.not_lt_zero _), fun h => absurd h (Nat.lt_irrefl _)⟩

theorem Rd.congr {w : World} {A n Z Y} (h : Rd w A n Z) (e : ∀ k, k < n → Z k = Y k) : Rd w A n Y :=
  ⟨h.small, fun k hk => by rw [← e k hk]; exact h.range k hk, fun hn => by
    obtain ⟨b, off, e', hc⟩ := h.adr hn
    exact ⟨b, off, e', fun j hj => by rw [← e j hj]; exact hc j hj⟩⟩

theorem Drawn.keep {w w' : World} (h : Drawn w w') : Keep w w' := h.below
theorem Rd.keep {w w' : World} {A n Z} (h : Rd w A n Z) (hb : Keep w w') : Rd w' A n Z := h.below hb

theorem Keep.drewN {w w' : World} (h : Keep w w') (q : Nat) : Keep w (w'.drewN q) := below_drewN h q
theorem Keep.lift {w w1 w2 : World} (h : Keep w w1) (k : Keep w1 w2) : Keep w w2 := h.trans k
theorem retv {a b : Value} (h : a = b) : Ending.returned a = .returned b := by rw [h]
end Go.Proofs.YtfidlljhmebpmaaDoor
