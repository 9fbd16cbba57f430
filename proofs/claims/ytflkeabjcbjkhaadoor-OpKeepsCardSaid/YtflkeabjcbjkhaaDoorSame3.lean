/-
  op.Same: what is kept of both, and the comparison. No condition.
-/
import Derived.Test.YtflkeabjcbjkhaaDoorKeptX
import Derived.Deep.CutRange
namespace Go.Proofs.YtflkeabjcbjkhaaDoor
open Go.RowKit

/-- What the six cells of an operation hold. -/
structure Cel (w : World) (b : Nat) (c0 c1 c2 c3 c4 c5 : Value) : Prop where
  e0 : w.cell? ⟨b, 0, none⟩ = some c0
  e1 : w.cell? ⟨b, 1, none⟩ = some c1
  e2 : w.cell? ⟨b, 2, none⟩ = some c2
  e3 : w.cell? ⟨b, 3, none⟩ = some c3
  e4 : w.cell? ⟨b, 4, none⟩ = some c4
  e5 : w.cell? ⟨b, 5, none⟩ = some c5
theorem Cel.keep {w w' : World} {b : Nat} {c0 c1 c2 c3 c4 c5 : Value} (h : Cel w b c0 c1 c2 c3 c4 c5) (k : Keep w w') : Cel w' b c0 c1 c2 c3 c4 c5 := ⟨k.cell h.e0, k.cell h.e1, k.cell h.e2, k.cell h.e3, k.cell h.e4, k.cell h.e5⟩
theorem Box.cel {w : World} {b : Nat} {c0 c1 c2 c3 c4 c5 : Value} (h : Box w b c0 c1 c2 c3 c4 c5) : Cel w b c0 c1 c2 c3 c4 c5 := ⟨h.ce0, h.ce1, h.ce2, h.ce3, h.ce4, h.ce5⟩
theorem Keep.drewN {w w' : World} (h : Keep w w') (q : Nat) : Keep w (w'.drewN q) := below_drewN h q

set_option maxRecDepth 100000 in
set_option maxHeartbeats 16000000 in
theorem osame_fn (k i c n : Int) (f : Bool) (A : Option Addr) (m cp : Nat) (Z : Nat → Int) (k' i' c' n' : Int) (f' : Bool) (B : Option Addr) (m' cp' : Nat) (Y : Nat → Int) (w : World) (hA : Rd w A m Z) (hB : Rd w B m' Y) (s : Bool) (hs : sameB (kM k m) Z (kM k' m') Y = s) :
    Calls Tryd.prog 19 #[.agg #[.int .i64 k, .int .i64 i, .int .i64 c, .int .i64 n, .bool f, .slice A m cp], .agg #[.int .i64 k', .int .i64 i', .int .i64 c', .int .i64 n', .bool f', .slice B m' cp']] w fun e w' => e = .returned (.bool (sameO k i c n f k' i' c' n' f' s)) ∧ Keep w w' := by
  replace hA := Lib.hid (hA.kept k)
  replace hB := Lib.hid (hB.kept k')
  replace hs := Lib.hid hs
  go_enter Tryd.func19, Tryd.ntmps19
  go_wp2_with fail
  have k0 : Keep w ((w.alloc (.cells #[.int .i64 k, .int .i64 i, .int .i64 c, .int .i64 n, .bool f, .slice A m cp] 24)).alloc (.cells #[.int .i64 k', .int .i64 i', .int .i64 c', .int .i64 n', .bool f', .slice B m' cp'] 24)) := ((Keep.refl w).alloc _).alloc _
  have X1 := (Box.new w (.int .i64 k) (.int .i64 i) (.int .i64 c) (.int .i64 n) (.bool f) (.slice A m cp)).keep ((Keep.refl (w.alloc (.cells #[.int .i64 k, .int .i64 i, .int .i64 c, .int .i64 n, .bool f, .slice A m cp] 24))).alloc (.cells #[.int .i64 k', .int .i64 i', .int .i64 c', .int .i64 n', .bool f', .slice B m' cp'] 24))
  have X2 := Box.new2 w (.cells #[.int .i64 k, .int .i64 i, .int .i64 c, .int .i64 n, .bool f, .slice A m cp] 24) (.int .i64 k') (.int .i64 i') (.int .i64 c') (.int .i64 n') (.bool f') (.slice B m' cp')
  obtain ⟨w0, hw0⟩ : ∃ w0, w0 = (w.alloc (.cells #[.int .i64 k, .int .i64 i, .int .i64 c, .int .i64 n, .bool f, .slice A m cp] 24)).alloc (.cells #[.int .i64 k', .int .i64 i', .int .i64 c', .int .i64 n', .bool f', .slice B m' cp'] 24) := ⟨_, rfl⟩
  rw [← hw0] at k0 X1 X2 ⊢
  have p0 := X1.ce0
  have p1 := X1.ce1
  have p2 := X1.ce2
  have p3 := X1.ce3
  have p4 := X1.ce4
  have p5 := X1.ce5
  have r0 := X2.ce0
  have r1 := X2.ce1
  have r2 := X2.ce2
  have r3 := X2.ce3
  have r4 := X2.ce4
  have r5 := X2.ce5
  replace k0 := Lib.hid k0
  clear X1 X2 hw0
  go_cut [5, 6] from 7 (fun u v wx => ∃ b1 b2 : Nat, u = .pointer (some ⟨b1, 0, none⟩) ∧ v = .pointer (some ⟨b2, 0, none⟩) ∧ Cel wx b1 (.int .i64 k) (.int .i64 (kI k i)) (.int .i64 (kC k c)) (.int .i64 (kN k n)) (.bool (kF k f)) (.slice (kA k A) (kM k m) (kM k cp)) ∧ Cel wx b2 (.int .i64 k') (.int .i64 (kI k' i')) (.int .i64 (kC k' c')) (.int .i64 (kN k' n')) (.bool (kF k' f')) (.slice (kA k' B) (kM k' m') (kM k' cp')) ∧ Keep w wx)
  case first =>
    go_region_held3 (fun w' => w'.cell? ⟨w.heap.size, 0, none⟩ = some (.int .i64 k) ∧ w'.cell? ⟨w.heap.size, 1, none⟩ = some (.int .i64 i) ∧ w'.cell? ⟨w.heap.size, 2, none⟩ = some (.int .i64 c) ∧ w'.cell? ⟨w.heap.size, 3, none⟩ = some (.int .i64 n) ∧ w'.cell? ⟨w.heap.size, 4, none⟩ = some (.bool f) ∧ w'.cell? ⟨w.heap.size, 5, none⟩ = some (.slice A m cp) ∧ w'.cell? ⟨w.heap.size + 1, 0, none⟩ = some (.int .i64 k') ∧ w'.cell? ⟨w.heap.size + 1, 1, none⟩ = some (.int .i64 i') ∧ w'.cell? ⟨w.heap.size + 1, 2, none⟩ = some (.int .i64 c') ∧ w'.cell? ⟨w.heap.size + 1, 3, none⟩ = some (.int .i64 n') ∧ w'.cell? ⟨w.heap.size + 1, 4, none⟩ = some (.bool f') ∧ w'.cell? ⟨w.heap.size + 1, 5, none⟩ = some (.slice B m' cp'))
      ((refine (fun (K : Keep w0 _) => ⟨K.cell p0, K.cell p1, K.cell p2, K.cell p3, K.cell p4, K.cell p5, K.cell r0, K.cell r1, K.cell r2, K.cell r3, K.cell r4, K.cell r5⟩) ?_; repeat (with_reducible first | exact Keep.refl w0 | apply Keep.alloc | apply Keep.drew | apply Keep.drewN | (refine Keep.set ?_ (by simp <;> omega) _))))
      (first
        | (go_at_call_of 34 (Value.slice A m cp); refine (keptx_fn k i c n f A m cp _).mono ?_; rintro e w1 ⟨rfl, q1, rfl⟩)
        | (go_at_call_of 34 (Value.slice B m' cp'); refine (keptx_fn k' i' c' n' f' B m' cp' _).mono ?_; rintro e w2 ⟨rfl, q2, rfl⟩))
    all_goals
      go_wp2_with fail
      go_meet
      refine ⟨_, _, rfl, rfl, ⟨by simp (maxDischargeDepth := 12) [go_sem], by simp (maxDischargeDepth := 12) [go_sem], by simp (maxDischargeDepth := 12) [go_sem], by simp (maxDischargeDepth := 12) [go_sem], by simp (maxDischargeDepth := 12) [go_sem], by simp (maxDischargeDepth := 12) [go_sem]⟩, ⟨by simp (maxDischargeDepth := 12) [go_sem], by simp (maxDischargeDepth := 12) [go_sem], by simp (maxDischargeDepth := 12) [go_sem], by simp (maxDischargeDepth := 12) [go_sem], by simp (maxDischargeDepth := 12) [go_sem], by simp (maxDischargeDepth := 12) [go_sem]⟩, k0.out.trans ?_⟩
      repeat (with_reducible first | exact Keep.refl w0 | apply Keep.alloc | apply Keep.drew | apply Keep.drewN | (refine Keep.set ?_ (by simp <;> omega) _))
  case rest =>
    obtain ⟨b1, b2, rfl, rfl, Y1, Y2, k1⟩ := hcut
    obtain ⟨y0, y1, y2, y3, y4, y5⟩ := Y1
    obtain ⟨z0, z1, z2, z3, z4, z5⟩ := Y2
    replace k1 := Lib.hid k1
    clear p0 p1 p2 p3 p4 p5 r0 r1 r2 r3 r4 r5
    by_cases h0 : k = k'
    rotate_left
    · have g0 := beqI h0
      have e0 : Hid (sameO k i c n f k' i' c' n' f' s = false) := by show _ = _; simp [sameO, eqO, h0]
      replace h0 := Lib.hid h0
      go_wp2
      go_ret
      exact ⟨retb e0.out.symm, k1.out⟩
    have g0 : (k == k') = true := by simp [h0]
    replace h0 := Lib.hid h0
    by_cases h1 : kI k i = kI k' i'
    rotate_left
    · have g1 := beqI h1
      have e0 : Hid (sameO k i c n f k' i' c' n' f' s = false) := by show _ = _; simp [sameO, eqO, h1]
      replace h1 := Lib.hid h1
      go_wp2
      go_ret
      exact ⟨retb e0.out.symm, k1.out⟩
    have g1 : (kI k i == kI k' i') = true := by simp [h1]
    replace h1 := Lib.hid h1
    by_cases h2 : kC k c = kC k' c'
    rotate_left
    · have g2 := beqI h2
      have e0 : Hid (sameO k i c n f k' i' c' n' f' s = false) := by show _ = _; simp [sameO, eqO, h2]
      replace h2 := Lib.hid h2
      go_wp2
      go_ret
      exact ⟨retb e0.out.symm, k1.out⟩
    have g2 : (kC k c == kC k' c') = true := by simp [h2]
    replace h2 := Lib.hid h2
    by_cases h3 : kN k n = kN k' n'
    rotate_left
    · have g3 := beqI h3
      have e0 : Hid (sameO k i c n f k' i' c' n' f' s = false) := by show _ = _; simp [sameO, eqO, h3]
      replace h3 := Lib.hid h3
      go_wp2
      go_ret
      exact ⟨retb e0.out.symm, k1.out⟩
    have g3 : (kN k n == kN k' n') = true := by simp [h3]
    replace h3 := Lib.hid h3
    by_cases h4 : kF k f = kF k' f'
    rotate_left
    · have g4 := beqF h4
      have e0 : Hid (sameO k i c n f k' i' c' n' f' s = false) := by show _ = _; simp [sameO, eqO, h4]
      replace h4 := Lib.hid h4
      go_wp2
      go_ret
      exact ⟨retb e0.out.symm, k1.out⟩
    have g4 : (kF k f == kF k' f') = true := by simp [h4]
    replace h4 := Lib.hid h4
    have e0 : Hid (sameO k i c n f k' i' c' n' f' s = s) := by show _ = _; unfold sameO eqO; rw [decide_eq_true ⟨h0.out, h1.out, h2.out, h3.out, h4.out⟩, Bool.true_and]
    go_wp2_with fail
    refine (vsame_k (hA.out.keep k1.out) (hB.out.keep k1.out) s hs.out).mono ?_
    rintro e w3 ⟨rfl, h⟩
    replace k1 := Lib.hid (k1.out.trans h)
    replace h := Lib.hid h
    go_wp2
    go_ret
    exact ⟨retb e0.out.symm, k1.out⟩

end Go.Proofs.YtflkeabjcbjkhaaDoor
