/-
  The law's spoil: it changes the pods of a list, and no block but theirs. Condition: the list's blocks lie in D; none of them is frozen.
-/
import Derived.Test.YtmmpmpdjcmilkaaLMath7
namespace Go.Proofs.Ytmmpmpdjcmilkaa
open Go.RowKit Go.Sort Go.Lib Go.Shelf

structure SpI (w : World) (D : Nat → Prop) (b off n : Nat) (P : Nat → PodV) : Prop where
  id : ∀ j, j < n → ∃ k, w.cell? ⟨b, off + j * 9, none⟩ = some (.int .i64 k)
  rq : ∀ j, j < n → w.cell? ⟨b, off + j * 9 + 4, none⟩ = some (.slice (P j).A (P j).m (P j).c)
  fz : ∀ j, j < n → w.frozen? ⟨b, off + j * 9, none⟩ = false
  d : 0 < n → D b
  el : ∀ j, j < n → 0 < (P j).m → ∃ b' off', (P j).A = some ⟨b', off', none⟩ ∧ D b' ∧ b' ≠ b ∧ ∀ k, k < (P j).m → w.frozen? ⟨b', off' + k, none⟩ = false ∧ ∃ z, w.cell? ⟨b', off' + k, none⟩ = some (.int .i64 z)
section
variable {w : World} {D : Nat → Prop} {b off n : Nat} {P : Nat → PodV}
theorem SpI.set1 (h : SpI w D b off n P) {i : Nat} (hi : i < n) (v : Int) : SpI (w.setCell ⟨b, off + i * 9, none⟩ (.int .i64 v)) D b off n P where
  id := fun j hj => by
    by_cases e : j = i
    · subst e
      obtain ⟨k, hk⟩ := h.id j hj
      exact ⟨v, World.cell?_setCell_same _ _ _ hk⟩
    · obtain ⟨k, hk⟩ := h.id j hj
      refine ⟨k, (World.cell?_setCell_other _ _ _ _ (fun e2 => ?_)).trans hk⟩
      simp only [Addr.mk.injEq, and_true, true_and] at e2
      omega
  rq := fun j hj => by
    refine (World.cell?_setCell_other _ _ _ _ (fun e2 => ?_)).trans (h.rq j hj)
    simp only [Addr.mk.injEq, and_true, true_and] at e2
    omega
  fz := fun j hj => by rw [World.frozen?_setCell]; exact h.fz j hj
  d := h.d
  el := fun j hj hm => by
    obtain ⟨b', off', e, hd, hne, hc⟩ := h.el j hj hm
    refine ⟨b', off', e, hd, hne, fun k hk => ?_⟩
    obtain ⟨h1, z, h2⟩ := hc k hk
    exact ⟨by rw [World.frozen?_setCell]; exact h1, z, (World.cell?_setCell_far w _ _ _ (fun e => hne e.symm)).trans h2⟩
theorem SpI.set2 (h : SpI w D b off n P) {b1 o1 : Nat} (hb : b1 ≠ b) {v0 : Int} (hc : w.cell? ⟨b1, o1, none⟩ = some (.int .i64 v0)) (v : Int) : SpI (w.setCell ⟨b1, o1, none⟩ (.int .i64 v)) D b off n P where
  id := fun j hj => by
    obtain ⟨k, hk⟩ := h.id j hj
    exact ⟨k, (World.cell?_setCell_far w _ _ _ hb).trans hk⟩
  rq := fun j hj => (World.cell?_setCell_far w _ _ _ hb).trans (h.rq j hj)
  fz := fun j hj => by rw [World.frozen?_setCell]; exact h.fz j hj
  d := h.d
  el := fun j hj hm => by
    obtain ⟨b', off', e, hd, hne, hcc⟩ := h.el j hj hm
    refine ⟨b', off', e, hd, hne, fun k hk => ?_⟩
    obtain ⟨h1, z, h2⟩ := hcc k hk
    refine ⟨by rw [World.frozen?_setCell]; exact h1, ?_⟩
    by_cases e2 : (⟨b1, o1, none⟩ : Addr) = ⟨b', off' + k, none⟩
    · rw [← e2]
      exact ⟨v, World.cell?_setCell_same _ _ _ hc⟩
    · exact ⟨z, (World.cell?_setCell_other _ _ _ _ e2).trans h2⟩
end
theorem nums_at (b off n cp j : Nat) (hj : j < n) (W : World) : (Instr.indexAt 30 (.slice (some ⟨b, off, none⟩) n cp) (.int .i64 j)).run Try.prog W = .ok (.pointer (some ⟨b, off + j, none⟩)) W := by
  go_simp

set_option maxRecDepth 100000 in
set_option maxHeartbeats 8000000 in
theorem spoil_fn (D : Nat → Prop) (A : Option Addr) (n c : Nat) (P : Nat → PodV) (w : World) (hn : n ≤ 1000) (hm : ∀ j, j < n → (P j).m ≤ 1000) (h : 0 < n → ∃ b off, A = some ⟨b, off, none⟩ ∧ SpI w D b off n P) :
    Calls Try.prog 22 #[.slice A n c] w fun e w' => e = .returned (.tuple #[]) ∧ Fr D w w' := by
  replace hm := Lib.hid hm
  by_cases h0 : n = 0
  · subst h0
    clear h
    go_enter Try.func22, Try.ntmps22
    go_wp2
    go_loopg [2, 3] 0 (fun gx s2 _ wr => s2 = .int .i64 0 ∧ wr = w)
    case atStart => exact ⟨rfl, rfl⟩
    case round =>
      obtain ⟨rfl, rfl⟩ := hrel
      go_wp2
      go_end0
      exact ⟨rfl, Fr.refl _ _⟩
  · obtain ⟨b, off, rfl, I0⟩ := h (by omega)
    replace I0 := Lib.hid I0
    go_enter Try.func22, Try.ntmps22
    go_wp2
    go_loopg [2, 3] n (fun gx s2 _ wr => ∃ j : Nat, s2 = .int .i64 j ∧ j ≤ n ∧ gx = n - j ∧ Hid (SpI wr D b off n P) ∧ Hid (Fr D w wr))
    case atStart => exact ⟨0, rfl, Nat.zero_le _, rfl, I0, Fr.refl _ _⟩
    case round =>
      clear I0
      obtain ⟨j, rfl, hj, rfl, I, F⟩ := hrel
      by_cases hlt : j < n
      · have q1 := pods_at b off n c j hlt
        obtain ⟨k, c0⟩ := I.out.id j hlt
        have f0 := I.out.fz j hlt
        have I1 := Lib.hid (I.out.set1 hlt (wrap64 (k + 1)))
        have F1 := Lib.hid (F.out.set (p := ⟨b, off + j * 9, none⟩) (Or.inl (I.out.d (by omega))) (.int .i64 (wrap64 (k + 1))))
        have c4 := I1.out.rq j hlt
        have hmj := hm.out j hlt
        obtain ⟨A', hA'⟩ : ∃ a, a = (P j).A := ⟨_, rfl⟩
        obtain ⟨m, hm'⟩ : ∃ m, m = (P j).m := ⟨_, rfl⟩
        obtain ⟨c', hc'⟩ : ∃ m, m = (P j).c := ⟨_, rfl⟩
        rw [← hA', ← hm', ← hc'] at c4
        rw [← hm'] at hmj
        have rqs : Hid (∀ W, SpI W D b off n P → W.cell? ⟨b, off + j * 9 + 4, none⟩ = some (.slice A' m c') ∧ (0 < m → ∃ b' off', A' = some ⟨b', off', none⟩ ∧ D b' ∧ b' ≠ b ∧ ∀ k, k < m → W.frozen? ⟨b', off' + k, none⟩ = false ∧ ∃ z, W.cell? ⟨b', off' + k, none⟩ = some (.int .i64 z))) := fun W hW => by
          have h1 := hW.rq j hlt
          have h2 := hW.el j hlt
          rw [← hA', ← hm', ← hc'] at h1
          rw [← hA', ← hm'] at h2
          exact ⟨h1, h2⟩
        replace hA' := Lib.hid hA'
        replace hm' := Lib.hid hm'
        replace hc' := Lib.hid hc'
        clear c4
        go_wp2
        generalize wr.setCell ⟨b, off + j * 9, none⟩ (.int .i64 (wrap64 (k + 1))) = w1 at I1 F1 ⊢
        clear c0 f0
        go_loopg [3] m (fun gy s3 wq => ∃ t : Nat, s3 = .int .i64 t ∧ t ≤ m ∧ gy = m - t ∧ Hid (SpI wq D b off n P) ∧ Hid (Fr D w wq))
        case atStart => exact ⟨0, rfl, Nat.zero_le _, rfl, I1, F1⟩
        case round =>
          clear I1 F1 I F
          obtain ⟨t, rfl, ht, rfl, I2, F2⟩ := hrel
          have c4 := (rqs.out _ I2.out).1
          by_cases hlt2 : t < m
          · obtain ⟨b', off', rfl, hd', hne', he⟩ := (rqs.out _ I2.out).2 (by omega)
            obtain ⟨f5, z, c5⟩ := he t hlt2
            have q2 := nums_at b' off' m c' t hlt2
            have I3 := Lib.hid (I2.out.set2 hne' c5 (wrap64 (z + 1)))
            have F3 := Lib.hid (F2.out.set (p := ⟨b', off' + t, none⟩) (Or.inl hd') (.int .i64 (wrap64 (z + 1))))
            replace hd' := Lib.hid hd'
            replace hne' := Lib.hid hne'
            replace he := Lib.hid he
            go_wp2
            go_roundg (m - (t + 1))
            case measure => omega
            case rel => exact ⟨t + 1, by first | rfl | go_num, hlt2, rfl, I3, F3⟩
          · obtain rfl : t = m := by omega
            go_wp2
            go_roundg (n - (j + 1))
            case measure => omega
            case rel => exact ⟨j + 1, by first | rfl | go_num, hlt, rfl, I2, F2⟩
      · obtain rfl : j = n := by omega
        go_wp2
        go_end0
        exact ⟨rfl, F.out⟩
end Go.Proofs.Ytmmpmpdjcmilkaa
