/-
  Pods to be spoiled, rows of amounts appended to. No condition.
-/
import Derived.Test.YtpkpmoiekjhdnaaDoorFr8
namespace Go.Proofs.YtpkpmoiekjhdnaaDoor
open Go.RowKit Go.Sort Go.Lib Go.Shelf
open Go.ChangeMaps (setBlock)

structure SpI (w : World) (D : Nat → Prop) (b off n : Nat) (P : Nat → PodV) : Prop where
  id : ∀ j, j < n → ∃ k, w.cell? ⟨b, off + j * 9, none⟩ = some (.int .i64 k)
  rq : ∀ j, j < n → w.cell? ⟨b, off + j * 9 + 4, none⟩ = some (.slice (P j).A (P j).m (P j).c)
  fz : ∀ j, j < n → w.frozen? ⟨b, off + j * 9, none⟩ = false
  d : 0 < n → D b
  el : ∀ j, j < n → 0 < (P j).m → ∃ b' off', (P j).A = some ⟨b', off', none⟩ ∧ D b' ∧ b' ≠ b ∧ ∀ k, k < (P j).m → w.frozen? ⟨b', off' + k, none⟩ = false ∧ ∃ z, w.cell? ⟨b', off' + k, none⟩ = some (.int .i64 z)
section
variable {w : World} {D : Nat → Prop} {b off n : Nat} {P : Nat → PodV}
theorem SpI.set1 (h : SpI w D b off n P) {i : Nat} (hi : i < n) (v : Int) : SpI (w.setCell ⟨b, off + i * 9, none⟩ (.int .i64 v)) D b off n P where
  id := fun j hj => by
    by_cases e : j = i
    · subst e
      obtain ⟨k, hk⟩ := h.id j hj
      exact ⟨v, World.cell?_setCell_same _ _ _ hk⟩
    · obtain ⟨k, hk⟩ := h.id j hj
      refine ⟨k, (World.cell?_setCell_other _ _ _ _ (fun e2 => ?_)).trans hk⟩
      simp only [Addr.mk.injEq, and_true, true_and] at e2
      omega
  rq := fun j hj => by
    refine (World.cell?_setCell_other _ _ _ _ (fun e2 => ?_)).trans (h.rq j hj)
    simp only [Addr.mk.injEq, and_true, true_and] at e2
    omega
  fz := fun j hj => by rw [World.frozen?_setCell]; exact h.fz j hj
  d := h.d
  el := fun j hj hm => by
    obtain ⟨b', off', e, hd, hne, hc⟩ := h.el j hj hm
    refine ⟨b', off', e, hd, hne, fun k hk => ?_⟩
    obtain ⟨h1, z, h2⟩ := hc k hk
    exact ⟨by rw [World.frozen?_setCell]; exact h1, z, (World.cell?_setCell_far w _ _ _ (fun e => hne e.symm)).trans h2⟩
theorem SpI.set2 (h : SpI w D b off n P) {b1 o1 : Nat} (hb : b1 ≠ b) {v0 : Int} (hc : w.cell? ⟨b1, o1, none⟩ = some (.int .i64 v0)) (v : Int) : SpI (w.setCell ⟨b1, o1, none⟩ (.int .i64 v)) D b off n P where
  id := fun j hj => by
    obtain ⟨k, hk⟩ := h.id j hj
    exact ⟨k, (World.cell?_setCell_far w _ _ _ hb).trans hk⟩
  rq := fun j hj => (World.cell?_setCell_far w _ _ _ hb).trans (h.rq j hj)
  fz := fun j hj => by rw [World.frozen?_setCell]; exact h.fz j hj
  d := h.d
  el := fun j hj hm => by
    obtain ⟨b', off', e, hd, hne, hcc⟩ := h.el j hj hm
    refine ⟨b', off', e, hd, hne, fun k hk => ?_⟩
    obtain ⟨h1, z, h2⟩ := hcc k hk
    refine ⟨by rw [World.frozen?_setCell]; exact h1, ?_⟩
    by_cases e2 : (⟨b1, o1, none⟩ : Addr) = ⟨b', off' + k, none⟩
    · rw [← e2]
      exact ⟨v, World.cell?_setCell_same _ _ _ hc⟩
    · exact ⟨z, (World.cell?_setCell_other _ _ _ _ e2).trans h2⟩
end
theorem nums_at (b off n cp j : Nat) (hj : j < n) (W : World) : (Instr.indexAt 33 (.slice (some ⟨b, off, none⟩) n cp) (.int .i64 j)).run Tryd.prog W = .ok (.pointer (some ⟨b, off + j, none⟩)) W := by
  go_simp

/-- Amounts appended to a row of the call's own. -/
theorem wpl_ownI {ops : Array Oper} {rest : List Oper} {o : Oper} {a : Act} {w : World} {Q : Exit → Act → World → Prop} (hgd : o.guard = none) (s x : Operand) (ho : o.op = .call { callee := .builtin .append, args := #[s, x], argTypes := #[33, 33] })
    (base : Nat) (v : Value) (n : Nat) (xs : List Value) (hs : a.eval s = v) (hown : w.ownsRow base 2 1 v n xs) (A : Option Addr) (m c : Nat) (Z : Nat → Int) (hx : a.eval x = .slice A m c) (hR : Rd w A m Z) (h0 : A = none → m = 0 ∧ c = 0)
    (hlim : n + m ≤ 1048576) (hbase : base ≤ w.heap.size)
    (h : ∀ v' w', w'.ownsRow base 2 1 v' (n + m) (xs ++ rowL m Z) → w.grownBy w' v.ownBlock → wpList Tryd.prog ops Q rest (a.put o.dst v') w') : wpList Tryd.prog ops Q (o :: rest) a w := by
  obtain ⟨i0, hi0, hz0, hz1, hz2⟩ := info_parts Tryd.infoI64
  cases A with
  | none =>
    obtain ⟨rfl, rfl⟩ := h0 rfl
    refine wpList_append_own_none hgd s x 33 ho base 2 i0 1 Tryd.underlying33 hi0 v n xs hs hown hx (h v w ?_ ⟨rfl, rfl, rfl, Nat.le_refl _, fun _ _ _ => rfl⟩)
    show w.ownsRow base 2 1 v n (xs ++ [])
    rw [List.append_nil]
    exact hown
  | some ad =>
    exact wpList_append_own (P := Tryd.prog) w hgd s x 33 ho base 2 i0 _ 1 8 Tryd.underlying33 hi0 hz0 hz1 hz2 rfl (by decide) v n xs hs hown ad m c (rowL m Z) hx (by simp [rowL]) (news_of hR) (rowL_one m Z) (by unfold maxLen; omega) (by omega) hbase fun v' w' h2 h3 _ => h v' w' h2 h3

/-- A sorted copy can be spoiled. -/
theorem spi_all {w w' : World} {L : List PodV} {n g : Nat} {S : Nat → PodV} (h : AllIs w w' L n (.slice (some ⟨g, 0, none⟩) n n) S) : SpI w' (fun k => w.heap.size ≤ k) g 0 n S := by
  obtain ⟨k, ⟨g', e, hg, hl, hz, hR, hq⟩, p, s⟩ := h
  simp only [Value.slice.injEq, Option.some.injEq, Addr.mk.injEq, and_true] at e
  subst e
  have cel : ∀ j, j < n → Cel9 w' g (0 + j * 9) (S j) := fun j hj => by
    obtain ⟨b, off, e, hc⟩ := hR.adr (by omega)
    simp only [Option.some.injEq, Addr.mk.injEq, and_true] at e
    obtain ⟨rfl, rfl⟩ := e
    exact hc j hj
  refine ⟨fun j hj => ⟨_, (cel j hj).e0⟩, fun j hj => (cel j hj).e4, fun j hj => by rw [Nat.zero_add]; exact hz _ (by omega), fun _ => hg, fun j hj hm => ?_⟩
  obtain ⟨r, _, ne⟩ := hq j hj
  obtain ⟨g2, cap, e, hb, hl2⟩ := World.ownsRow.form r hm
  simp only [Value.slice.injEq, true_and] at e
  refine ⟨g2, 0, e.1, hb, fun e2 => ?_, fun k hk => ?_⟩
  · rw [e.1, e2] at ne
    exact ne rfl
  · unfold Req at r
    rw [e.1] at r
    refine ⟨?_, (S j).Z k, ?_⟩
    · rw [Nat.zero_add]; exact r.frozenAt k
    · rw [Nat.zero_add, r.cellAt k (by omega)]
      simp [rowL, hk]

end Go.Proofs.YtpkpmoiekjhdnaaDoor
