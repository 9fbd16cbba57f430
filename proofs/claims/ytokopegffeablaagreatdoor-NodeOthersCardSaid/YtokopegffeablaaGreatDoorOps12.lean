/-
  The law's operations, its few, its play of any of them. Conditions: errors.errorType holds its own; at most 1000 nodes, 64 dimensions.
-/
import Derived.Test.YtokopegffeablaaGreatDoorPlayD12
namespace Go.Proofs.YtokopegffeablaaGreatDoor.T12
open Go.RowKit Go.Sort Go.Lib V12

/-- An operation: its kind, its id, its vector (where it lies, and what it is). -/
structure OpV where
  kd : Int
  id : Int
  A : Option Addr
  n : Nat
  c : Nat
  Z : Nat → Int
def OpV.val (o : OpV) : Value := .agg #[.int .i64 o.kd, .int .i64 o.id, .slice o.A o.n o.c]
structure OpIs (w : World) (o : OpV) : Prop where
  k : I64 o.kd
  i : I64 o.id
  r : Rd w o.A o.n o.Z
  nil : o.A = none → o.n = 0 ∧ o.c = 0
theorem OpIs.keep {w w' : World} {o : OpV} (h : OpIs w o) (k : Keep w w') : OpIs w' o := ⟨h.k, h.i, h.r.keep k, h.nil⟩
/-- The operations of a slice. -/
structure RdO (w : World) (A : Option Addr) (n : Nat) (P : Nat → OpV) : Prop where
  small : n ≤ 9223372036854775807
  adr : 0 < n → ∃ b off, A = some ⟨b, off, none⟩ ∧ ∀ j, j < n → w.cell? ⟨b, off + j * 3, none⟩ = some (.int .i64 (P j).kd) ∧ w.cell? ⟨b, off + j * 3 + 1, none⟩ = some (.int .i64 (P j).id) ∧ w.cell? ⟨b, off + j * 3 + 2, none⟩ = some (.slice (P j).A (P j).n (P j).c)
  is : ∀ j, j < n → OpIs w (P j)
theorem RdO.keep {w w' : World} {A : Option Addr} {n : Nat} {P : Nat → OpV} (h : RdO w A n P) (k : Keep w w') : RdO w' A n P :=
  ⟨h.small, fun hn => by
    obtain ⟨b, off, e, c⟩ := h.adr hn
    exact ⟨b, off, e, fun j hj => ⟨k.cell (c j hj).1, k.cell (c j hj).2.1, k.cell (c j hj).2.2⟩⟩, fun j hj => (h.is j hj).keep k⟩
theorem atO (b off n cp j : Nat) (hj : j < n) (W : World) : (Instr.indexAt 22 (.slice (some ⟨b, off, none⟩) n cp) (.int .i64 j)).run Tryz.prog W = .ok (.pointer (some ⟨b, off + j * 3, none⟩)) W := by
  go_simp
def FewO (P : Nat → OpV) (n : Nat) : Prop := n ≤ 60 ∧ ∀ j, j < n → (P j).n ≤ 20
theorem few_or (P : Nat → OpV) (n : Nat) : ∃ b, b = true ↔ FewO P n := ⟨@decide (FewO P n) (Classical.propDecidable _), by simp⟩
set_option maxRecDepth 100000 in
set_option maxHeartbeats 4000000 in
theorem few_fn (A : Option Addr) (n c : Nat) (P : Nat → OpV) (w : World) (hR : RdO w A n P) (b : Bool) (hb : b = true ↔ FewO P n) : Calls Tryz.prog 7 #[.slice A n c] w fun e w' => e = .returned (.bool b) ∧ w = w' := by
  have hn := hR.small
  replace hR := Lib.hid hR
  replace hb := Lib.hid hb
  go_enter Tryz.func7, Tryz.ntmps7
  go_wp2
  go_loopg [3] n (fun gx s3 wr => ∃ j : Nat, j ≤ n ∧ gx = n - j ∧ s3 = .int .i64 j ∧ wr = w ∧ Hid (∀ t, t < j → (P t).n ≤ 20))
  case atStart => exact ⟨0, Nat.zero_le _, rfl, rfl, rfl, fun t h => absurd h (Nat.not_lt_zero _)⟩
  case round =>
    obtain ⟨j, hj, rfl, rfl, rfl, NO⟩ := hrel
    by_cases hlt : j < n
    · obtain ⟨g, off, hA, ca⟩ := hR.out.adr (by omega)
      subst hA
      have q1 := atO g off n c j hlt
      have x2 := (ca j hlt).2.2
      have hs := (hR.out.is j hlt).r.small
      clear ca
      obtain ⟨k, hkk⟩ : ∃ k, k = (P j).n := ⟨_, rfl⟩
      rw [← hkk] at x2 hs
      replace hkk := Lib.hid hkk
      by_cases hk : 20 < k
      · have e : b = false := by
          cases b
          · rfl
          · have := (hb.out.1 rfl).2 j hlt
            rw [← hkk.out] at this
            omega
        subst e
        go_wp2
        go_ret
        exact ⟨rfl, rfl⟩
      · have NO2 : Hid (∀ t, t < j + 1 → (P t).n ≤ 20) := fun t ht => by
          by_cases e : t = j
          · rw [e, ← hkk.out]; omega
          · exact NO.out t (by omega)
        go_wp2
        go_roundg (n - (j + 1))
        case measure => omega
        case rel => exact ⟨j + 1, hlt, rfl, by go_num, rfl, NO2⟩
    · obtain rfl : j = n := by omega
      have e : b = decide (j ≤ 60) := by
        rw [Bool.eq_iff_iff, hb.out, decide_eq_true_eq]
        exact ⟨fun h => h.1, fun h => ⟨h, NO.out⟩⟩
      subst e
      by_cases h60 : j ≤ 60
      · go_wp2
        go_ret
        refine ⟨?_, rfl⟩
        simp [h60] <;> omega
      · go_wp2
        go_ret
        refine ⟨?_, rfl⟩
        simp [h60] <;> omega
/-- What an operation leaves. -/
def opL (L : List NodeV) (d : Nat) (s : Int) (o : OpV) : List NodeV :=
  if o.kd = 0 then addL L d s o.id o.n o.Z else if o.kd = 1 then dropL L o.id else if o.kd = 2 then chL L d o.id o.n o.Z false else chL L d o.id o.n o.Z true
theorem opL_len (L : List NodeV) (d : Nat) (s : Int) (o : OpV) : (opL L d s o).length ≤ L.length + 1 := by
  unfold opL
  split
  · exact addL_len _ _ _ _ _ _
  · split
    · have := dropL_len L o.id; omega
    · split
      · rw [chL_len]; omega
      · rw [chL_len]; omega
theorem play_fn {SI : World → Nat → Int → Nat → (Nat → Prop) → List NodeV → Prop} (C : Con SI) {w : World} {d : Nat} {s : Int} {q : Nat} {D : Nat → Prop} {L : List NodeV} (h : SI w d s q D L) {B : Option Addr} {cp : Nat} {l : List RnV} (hr : RL w d B cp l) (hL : l.map node = L) (hg : ErrT w)
    (o : OpV) (ho : OpIs w o) (hn : o.n ≤ 1000) (hd : d ≤ 64) (hl : l.length ≤ 1000) :
    Calls Tryz.prog 8 #[.pointer (some ⟨q, 0, none⟩), .slice B l.length cp, .int .i64 s, o.val] w (Played SI d s q D w (opL L d s o)) := by
  obtain ⟨kd, id, A, n, c, Z⟩ := o
  unfold OpV.val opL
  by_cases h0 : kd = 0
  · subst h0
    rw [if_pos rfl]
    exact play_add C h hr hL hg id A n c Z ho.r ho.nil ho.i hn hd hl
  · rw [if_neg h0]
    by_cases h1 : kd = 1
    · subst h1
      rw [if_pos rfl]
      by_cases hk : id ∈ nkeys L
      · exact play_dropYes C h hr hL hg id A n c ho.i hl hk
      · exact play_dropNo C h hr hL hg id A n c ho.i hk
    · rw [if_neg h1]
      by_cases h2 : kd = 2
      · subst h2
        rw [if_pos rfl]
        exact play_hold C h hr hL hg id A n c Z ho.r ho.nil ho.i hn hd hl
      · rw [if_neg h2]
        exact play_rel C h hr hL hg id A n c Z kd h0 h1 h2 ho.r ho.nil ho.i hn hd hl
end Go.Proofs.YtokopegffeablaaGreatDoor.T12
