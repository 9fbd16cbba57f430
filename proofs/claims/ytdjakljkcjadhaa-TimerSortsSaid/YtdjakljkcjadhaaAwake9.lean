/-
  The law's awake returns true, if the functions are as the contracts say. No condition.
-/
import Derived.Test.YtdjakljkcjadhaaSame9
namespace Go.Proofs.Ytdjakljkcjadhaa.T9
open Go.RowKit Go.Sort Go.Lib

set_option maxRecDepth 100000 in
set_option maxHeartbeats 8000000 in
theorem awake_true {TI : World → Nat → Nat → (Nat → Prop) → List TmV → Prop} (C : Con TI) (w : World) : Calls Try.prog 9 #[] w fun e w' => e = .returned (.bool true) ∧ Keep w w' := by
  have C := Lib.hid C
  go_enter Try.func9, Try.ntmps9
  go_wp2_with fail
  refine (C.out.new _).mono ?_
  rintro e w1 ⟨bq, rfl, k1, D1, T1⟩
  have b1 : Hid (∀ k, D1 k → w.heap.size ≤ k) := fun k h => (C.out.lo T1 k h).1
  have c1 := Lib.hid (C.out.set_to T1 1 5 0 (tm_small _ _ _ (by decide)) (by decide) (M := [⟨1, 5, 0⟩]) rfl (s := true) rfl)
  replace T1 := Lib.hid T1
  replace k1 := Lib.hid k1
  go_wp2_with fail
  refine c1.out.mono ?_
  rintro e w2 ⟨rfl, D2, T2, F2, N2⟩
  have k2 : Hid (Keep w w2) := F2.low k1.out b1.out
  have b2 : Hid (∀ k, D2 k → w.heap.size ≤ k) := fun k h => (C.out.lo T2 k h).1
  have c2 := Lib.hid (C.out.set_to T2 2 3 0 (tm_small _ _ _ (by decide)) (by decide) (M := [⟨2, 3, 0⟩, ⟨1, 5, 0⟩]) rfl (s := true) rfl)
  replace T2 := Lib.hid T2
  replace F2 := Lib.hid F2
  replace N2 := Lib.hid N2
  clear c1
  go_wp2_with fail
  refine c2.out.mono ?_
  rintro e w3 ⟨rfl, D3, T3, F3, N3⟩
  have k3 : Hid (Keep w w3) := F3.low k2.out b2.out
  have b3 : Hid (∀ k, D3 k → w.heap.size ≤ k) := fun k h => (C.out.lo T3 k h).1
  have c3 := Lib.hid (C.out.set_to T3 2 4 0 (tm_small _ _ _ (by decide)) (by decide) (M := [⟨2, 3, 0⟩, ⟨1, 5, 0⟩]) rfl (s := false) rfl)
  replace T3 := Lib.hid T3
  replace F3 := Lib.hid F3
  replace N3 := Lib.hid N3
  clear c2
  go_wp2_with fail
  refine c3.out.mono ?_
  rintro e w4 ⟨rfl, D4, T4, F4, N4⟩
  have k4 : Hid (Keep w w4) := F4.low k3.out b3.out
  have b4 : Hid (∀ k, D4 k → w.heap.size ≤ k) := fun k h => (C.out.lo T4 k h).1
  have c4 := Lib.hid (C.out.due_to T4 4 (i64_small (by decide) (by decide)) (m := 1) rfl (M := [⟨1, 5, 0⟩]) rfl)
  replace T4 := Lib.hid T4
  replace F4 := Lib.hid F4
  replace N4 := Lib.hid N4
  clear c3
  go_wp2_with fail
  refine c4.out.mono ?_
  rintro e w5 ⟨B, d, rfl, R5, D5, T5, F5, N5, O5⟩
  have k5 : Hid (Keep w w5) := F5.low k4.out b4.out
  have b5 : Hid (∀ k, D5 k → w.heap.size ≤ k) := fun k h => (C.out.lo T5 k h).1
  have z5 : Hid (∀ k, D5 k → k < w5.heap.size) := fun k h => (C.out.lo T5 k h).2
  obtain ⟨g, cap, hB, _, _⟩ := R5.form (by decide)
  simp only [Value.slice.injEq] at hB
  obtain ⟨rfl, _, rfl⟩ := hB
  have X5 := row_cel R5 (j := 0) (by decide)
  have x5 : Hid (w5.cell? ⟨g, 0, none⟩ = some (.int .i64 2)) := X5.e0
  have g5 : Hid (¬ D5 g) := O5 g 0 rfl (by decide)
  have c5 := Lib.hid (C.out.next_to T5 1 5 0 rfl (s := true) rfl)
  replace T5 := Lib.hid T5
  replace F5 := Lib.hid F5
  replace N5 := Lib.hid N5
  replace O5 := Lib.hid O5
  replace R5 := Lib.hid R5
  replace X5 := Lib.hid X5
  clear c4
  go_wp2_with fail
  refine c5.out.mono ?_
  rintro e w6 ⟨rfl, k6⟩
  obtain ⟨W6, hW6⟩ : ∃ W, W = w6.alloc (.cells #[.int .i64 1, .int .i64 5, .int .i64 0] 33) := ⟨_, rfl⟩
  have K6 : Hid (Keep w5 W6) := by rw [hW6]; exact k6.trans (Keep.one _ _)
  have T6 := C.out.keep T5.out K6.out
  have k7 : Hid (Keep w W6) := k5.out.trans K6.out
  have c6 := Lib.hid (C.out.cancel_to T6 1 (i64_small (by decide) (by decide)) 1 5 0 rfl (M := []) rfl (s := true) rfl)
  have n6 : Hid (W6.cell? ⟨w6.heap.size, 0, none⟩ = some (.int .i64 1)) := by rw [hW6]; show _ = _; rw [World.cell?_alloc_new]; rfl
  have s6 : Hid (¬ D5 w6.heap.size) := fun h => by have := z5.out _ h; have := k6.size; omega
  have x6 : Hid (W6.cell? ⟨g, 0, none⟩ = some (.int .i64 2)) := K6.out.cell x5.out
  replace T6 := Lib.hid T6
  replace k6 := Lib.hid k6
  clear c5
  go_wp2_with fail
  rw [← hW6]
  replace hW6 := Lib.hid hW6
  refine c6.out.mono ?_
  rintro e w8 ⟨rfl, D8, T8, F8, N8⟩
  obtain ⟨W8, hW8⟩ : ∃ W, W = w8.alloc (.cells #[.int .i64 1, .int .i64 5, .int .i64 0] 33) := ⟨_, rfl⟩
  have K8 : Hid (Keep w8 W8) := by rw [hW8]; exact Keep.one _ _
  have k8 : Hid (Keep w W8) := (F8.low k7.out b5.out).trans K8.out
  have n8 : W8.cell? ⟨w6.heap.size, 0, none⟩ = some (.int .i64 1) := K8.out.cell (F8.cell n6.out s6.out)
  have x8 : W8.cell? ⟨g, 0, none⟩ = some (.int .i64 2) := K8.out.cell (F8.cell x6.out g5.out)
  have m8 : W8.cell? ⟨w8.heap.size, 1, none⟩ = some (.int .i64 5) := by rw [hW8, World.cell?_alloc_new]; rfl
  have T9 := C.out.keep T8 K8.out
  have c8 := Lib.hid (C.out.len T9)
  have c9 := Lib.hid (C.out.all T9)
  have c10 := Lib.hid (fun W => C.out.setNil W zt)
  have c11 := Lib.hid (fun W => C.out.dueNil W 9)
  unfold zt TmV.val at c10
  rw [hW8] at n8 x8 m8
  replace T8 := Lib.hid T8
  replace T9 := Lib.hid T9
  replace F8 := Lib.hid F8
  replace N8 := Lib.hid N8
  clear c6
  go_wp2_with fail
  rw [← hW8]
  replace hW8 := Lib.hid hW8
  refine c8.out.mono ?_
  rintro e w9 ⟨rfl, rfl⟩
  clear c8
  go_wp2_with fail
  refine c9.out.mono ?_
  rintro e w10 ⟨B', d', rfl, k10, _⟩
  have k10' : Hid (Keep w w10) := k8.out.trans k10
  replace k10 := Lib.hid k10
  clear c9
  go_wp2_with fail
  refine (c10.out _).mono ?_
  rintro e w11 ⟨rfl, k11⟩
  have k11' : Hid (Keep w w11) := k10'.out.trans k11
  replace k11 := Lib.hid k11
  clear c10
  go_wp2_with fail
  refine (c11.out _).mono ?_
  rintro e w12 ⟨⟨B'', d'', rfl⟩, k12⟩
  have k12' : Hid (Keep w w12) := k11'.out.trans k12
  replace k12 := Lib.hid k12
  clear c11
  go_wp2
  go_ret
  exact ⟨rfl, k12'.out⟩
end Go.Proofs.Ytdjakljkcjadhaa.T9
