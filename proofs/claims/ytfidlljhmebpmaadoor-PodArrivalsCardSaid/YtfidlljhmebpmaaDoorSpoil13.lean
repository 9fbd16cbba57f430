/-
  The law's spoil of a row of amounts: it changes no block but the row's; an int stays an int. Condition: the row's cells are ints of a block that is not frozen.
-/
import Derived.Test.YtfidlljhmebpmaaDoorWalk13
namespace Go.Proofs.YtfidlljhmebpmaaDoor.T13
open Go.RowKit Go.Sort Go.Lib V12

/-- The first m cells of the block are ints. -/
def SpG (w : World) (g m : Nat) : Prop := ∀ t, t < m → w.frozen? ⟨g, t, none⟩ = false ∧ ∃ z, w.cell? ⟨g, t, none⟩ = some (.int .i64 z)
/-- Behind a spoil of the block g: the other blocks are as they were, an int is an int, what was not frozen is not. -/
structure Spd (g : Nat) (w w' : World) : Prop where
  fr : Fr (fun i => i = g) w w'
  int : ∀ a z, w.cell? a = some (.int .i64 z) → ∃ y, w'.cell? a = some (.int .i64 y)
  fz : ∀ a, w'.frozen? a = w.frozen? a
theorem Spd.refl (g : Nat) (w : World) : Spd g w w := ⟨Fr.refl _ _, fun _ z h => ⟨z, h⟩, fun _ => rfl⟩
theorem Spd.set {g t : Nat} {w w' : World} (h : Spd g w w') {z : Int} (hc : w'.cell? ⟨g, t, none⟩ = some (.int .i64 z)) (v : Int) : Spd g w (w'.setCell ⟨g, t, none⟩ (.int .i64 v)) where
  fr := h.fr.set (Or.inl rfl) _
  int := fun a z0 h0 => by
    obtain ⟨y, hy⟩ := h.int a z0 h0
    by_cases e : (⟨g, t, none⟩ : Addr) = a
    · rw [← e]; exact ⟨v, World.cell?_setCell_same _ _ _ hc⟩
    · exact ⟨y, (World.cell?_setCell_other _ _ _ _ e).trans hy⟩
  fz := fun a => by rw [World.frozen?_setCell]; exact h.fz a
theorem Spd.g {g m k : Nat} {w w' : World} (h : Spd g w w') (i : SpG w k m) : SpG w' k m := fun t ht => by
  obtain ⟨h1, z, h2⟩ := i t ht
  exact ⟨(h.fz _).trans h1, h.int _ _ h2⟩
theorem nums_atP (b n cp j : Nat) (hj : j < n) (W : World) : (Instr.indexAt 30 (.slice (some ⟨b, 0, none⟩) n cp) (.int .i64 j)).run Tryd.prog W = .ok (.pointer (some ⟨b, j, none⟩)) W := by
  go_simp
theorem spoil_nil (w : World) : Calls Tryd.prog 27 #[.slice none 0 0] w fun e w' => e = .returned (.tuple #[]) ∧ w' = w := by
  go_enter Tryd.func27, Tryd.ntmps27
  go_wp2
  go_loopg [2] 0 (fun gx s2 wr => s2 = .int .i64 0 ∧ wr = w)
  case atStart => exact ⟨rfl, rfl⟩
  case round =>
    obtain ⟨rfl, rfl⟩ := hrel
    go_wp2
    go_end0
    exact ⟨rfl, rfl⟩
set_option maxRecDepth 100000 in
set_option maxHeartbeats 4000000 in
theorem spoil_fn (g m c : Nat) (w : World) (hm : m ≤ 1000) (h : SpG w g m) : Calls Tryd.prog 27 #[.slice (some ⟨g, 0, none⟩) m c] w fun e w' => e = .returned (.tuple #[]) ∧ Spd g w w' ∧ (m = 0 → w' = w) := by
  replace h := Lib.hid h
  go_enter Tryd.func27, Tryd.ntmps27
  go_wp2
  go_loopg [2] m (fun gx s2 wr => ∃ j : Nat, s2 = .int .i64 j ∧ j ≤ m ∧ gx = m - j ∧ Hid (Spd g w wr) ∧ Hid (j = 0 → wr = w))
  case atStart => exact ⟨0, rfl, Nat.zero_le _, rfl, Spd.refl _ _, fun _ => rfl⟩
  case round =>
    obtain ⟨j, rfl, hj, rfl, S, Z⟩ := hrel
    by_cases hlt : j < m
    · obtain ⟨f5, z, c5⟩ := S.out.g h.out j hlt
      have q1 := nums_atP g m c j hlt
      have S2 := Lib.hid (S.out.set c5 (wrap64 (z + 1)))
      go_wp2
      go_roundg (m - (j + 1))
      case measure => omega
      case rel => exact ⟨j + 1, by first | rfl | go_num, hlt, rfl, S2, fun h => absurd h (by omega)⟩
    · obtain rfl : j = m := by omega
      go_wp2
      go_end0
      exact ⟨rfl, S.out, Z.out⟩
/-- A request of one's own can be spoiled. -/
theorem spg_own {w : World} {base n cap g : Nat} {Z : Nat → Int} (h : w.ownsRow base 2 1 (.slice (some ⟨g, 0, none⟩) n cap) n (rowL n Z)) : SpG w g n := fun t ht => by
  refine ⟨?_, Z t, ?_⟩
  · rcases h.2 with ⟨e, _⟩ | ⟨g', cap', cur, e, _, hb, _⟩
    · cases e
    · simp only [Value.slice.injEq, Option.some.injEq, Addr.mk.injEq, and_true] at e
      rw [e.1]
      exact frozen_of_row w g' t _ _ hb
  · have := h.cells (g := g) rfl t (.int .i64 (Z t)) (by simp [rowL, ht])
    rwa [WideShapes.add_plain, Nat.zero_add] at this
/-- A spoil of a row's own request: of the request as the law hands it on. -/
theorem spoil_req {w : World} {base : Nat} {x : PodV} (hx : Req w base x) (hm : x.m ≤ 1000) : Calls Tryd.prog 27 #[.slice x.A x.m x.c] w fun e w' => e = .returned (.tuple #[]) ∧ ∃ g, Spd g w w' ∧ (w' = w ∨ (0 < x.m ∧ x.A = some ⟨g, 0, none⟩ ∧ base ≤ g ∧ g < w.heap.size)) := by
  unfold Req at hx
  have hlt := hx.lt
  rcases hx.2 with ⟨e, h0⟩ | ⟨g, cap, cur, e, hb, _⟩
  · simp only [Value.slice.injEq] at e
    rw [e.1, e.2.1, e.2.2]
    refine (spoil_nil w).mono ?_
    rintro e w' ⟨rfl, rfl⟩
    exact ⟨rfl, 0, Spd.refl _ _, Or.inl rfl⟩
  · simp only [Value.slice.injEq] at e
    have hx2 := hx
    rw [e.1] at hx2 hlt ⊢
    refine (spoil_fn g x.m x.c w hm (spg_own hx2)).mono ?_
    rintro e' w' ⟨rfl, S, z⟩
    by_cases h0 : x.m = 0
    · exact ⟨rfl, g, S, Or.inl (z h0)⟩
    · exact ⟨rfl, g, S, Or.inr ⟨by omega, rfl, hb, (hlt g rfl).2⟩⟩
end Go.Proofs.YtfidlljhmebpmaaDoor.T13
