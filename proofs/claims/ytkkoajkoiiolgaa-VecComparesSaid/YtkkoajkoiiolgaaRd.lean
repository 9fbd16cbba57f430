/-
  How slices of int64, and slices of them, read in a world; what a later world keeps of it. No condition.
-/
import Derived.Test.YtkkoajkoiiolgaaLeaf
import Derived.WideShapes
namespace Go.Proofs.Ytkkoajkoiiolgaa
open Go.RowKit

/-- The numbers of a slice: n of them, number k is Z k. -/
structure Rd (w : World) (A : Option Addr) (n : Nat) (Z : Nat → Int) : Prop where
  small : n ≤ 9223372036854775807
  range : ∀ k, k < n → -9223372036854775808 ≤ Z k ∧ Z k ≤ 9223372036854775807
  adr : 0 < n → ∃ b off, A = some ⟨b, off, none⟩ ∧ ∀ j, j < n → w.cell? ⟨b, off + j, none⟩ = some (.int .i64 (Z j))

/-- The rows of a slice of slices: R of them, row r has len r numbers. -/
structure Rds (w : World) (L : Option Addr) (R : Nat) (A : Nat → Option Addr) (len C : Nat → Nat) (Z : Nat → Nat → Int) : Prop where
  small : R ≤ 9223372036854775807
  adr : 0 < R → ∃ b off, L = some ⟨b, off, none⟩ ∧ ∀ j, j < R → w.cell? ⟨b, off + j, none⟩ = some (.slice (A j) (len j) (C j))
  row : ∀ r, r < R → Rd w (A r) (len r) (Z r)

theorem Rd.below {w w' : World} {A n Z} (h : Rd w A n Z) (hb : Below w.heap.size w w') : Rd w' A n Z :=
  ⟨h.small, h.range, fun hn => by
    obtain ⟨b, off, e, hc⟩ := h.adr hn
    exact ⟨b, off, e, fun j hj => by rw [hb.cell (p := ⟨b, off + j, none⟩) (World.block_lt_of_cell? _ _ (hc j hj))]; exact hc j hj⟩⟩

theorem Rds.below {w w' : World} {L R A len C Z} (h : Rds w L R A len C Z) (hb : Below w.heap.size w w') : Rds w' L R A len C Z :=
  ⟨h.small, fun hn => by
    obtain ⟨b, off, e, hc⟩ := h.adr hn
    exact ⟨b, off, e, fun j hj => by rw [hb.cell (p := ⟨b, off + j, none⟩) (World.block_lt_of_cell? _ _ (hc j hj))]; exact hc j hj⟩, fun r hr => (h.row r hr).below hb⟩

theorem below_drewN {B : Nat} {a w : World} (h : Below B a w) (q : Nat) : Below B a (w.drewN q) := ⟨h.os, h.tape, h.output, h.size, h.block⟩
/-- The world has at most drawn. -/
def Drawn (w w' : World) : Prop := ∃ q, w' = w.drewN q
theorem Drawn.refl (w : World) : Drawn w w := ⟨0, rfl⟩
theorem Drawn.drewN {w w' : World} (h : Drawn w w') (q : Nat) : Drawn w (w'.drewN q) := by
  obtain ⟨p, rfl⟩ := h
  exact ⟨p + q, World.drewN_drewN ..⟩
theorem Drawn.drew {w w' : World} (h : Drawn w w') : Drawn w w'.drew := h.drewN 1
theorem Drawn.trans {w w' w'' : World} (h : Drawn w w') (k : Drawn w' w'') : Drawn w w'' := by
  obtain ⟨p, rfl⟩ := k
  exact h.drewN p
theorem Drawn.below {w w' : World} (h : Drawn w w') : Below w.heap.size w w' := by
  obtain ⟨q, rfl⟩ := h
  exact below_drewN (Below.refl _ _) q
theorem Rd.nil (w : World) (A : Option Addr) (Z : Nat → Int) : Rd w A 0 Z := ⟨by omega, fun _ h => absurd h (Nat.not_lt_zero _), fun h => absurd h (Nat.lt_irrefl _)⟩
theorem Rds.nil (w : World) (L : Option Addr) (A len C Z) : Rds w L 0 A len C Z := ⟨by omega, fun h => absurd h (Nat.lt_irrefl _), fun _ h => absurd h (Nat.not_lt_zero _)⟩

theorem Rd.ofRow {w : World} {b n : Nat} {Z : Nat → Int} (h : w.rowIs b 2 n (fun k => .int .i64 (Z k))) (hn : n ≤ 9223372036854775807) (hr : ∀ k, k < n → -9223372036854775808 ≤ Z k ∧ Z k ≤ 9223372036854775807) : Rd w (some ⟨b, 0, none⟩) n Z :=
  ⟨hn, hr, fun _ => ⟨b, 0, rfl, fun j hj => by rw [Nat.zero_add]; exact h.cell hj⟩⟩

/-- The cells of a row that append has made: number k is D k. -/
def rowL (n : Nat) (D : Nat → Int) : List Value := (List.range n).map fun k => .int .i64 (D k)
theorem rowL_succ (n : Nat) (D : Nat → Int) : rowL n D ++ [.int .i64 (D n)] = rowL (n + 1) D := by simp [rowL, List.range_succ]
theorem Rd.ofOwn {w : World} {base n : Nat} {v : Value} {D : Nat → Int} (h : w.ownsRow base 2 1 v n (rowL n D)) (hn : n ≤ 9223372036854775807) (hr : ∀ k, k < n → -9223372036854775808 ≤ D k ∧ D k ≤ 9223372036854775807) :
    ∃ A cap, v = .slice A n cap ∧ Rd w A n D := by
  rcases h.2 with ⟨rfl, rfl⟩ | ⟨g, cap, cur, rfl, _, hb, _, _, _, ht⟩
  · exact ⟨none, 0, rfl, Rd.nil _ _ _⟩
  · refine ⟨some ⟨g, 0, none⟩, cap, rfl, hn, hr, fun _ => ⟨g, 0, rfl, fun j hj => ?_⟩⟩
    have := h.cells (g := g) rfl j (.int .i64 (D j)) (by simp [rowL, hj])
    rwa [WideShapes.add_plain] at this

theorem cell_keep {w w' : World} {a : Addr} {v : Value} (hb : Below w.heap.size w w') (hc : w.cell? a = some v) : w'.cell? a = some v := by
  rw [hb.cell (World.block_lt_of_cell? _ _ hc)]; exact hc

theorem Rd.congr {w : World} {A n Z Y} (h : Rd w A n Z) (e : ∀ k, k < n → Z k = Y k) : Rd w A n Y :=
  ⟨h.small, fun k hk => by rw [← e k hk]; exact h.range k hk, fun hn => by
    obtain ⟨b, off, e', hc⟩ := h.adr hn
    exact ⟨b, off, e', fun j hj => by rw [← e j hj]; exact hc j hj⟩⟩
end Go.Proofs.Ytkkoajkoiiolgaa
