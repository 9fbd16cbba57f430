/-
  The law's awake. Condition: errors.errorType holds its own.
-/
import Derived.Test.YtokopegffeablaaDoorOwn12
namespace Go.Proofs.YtokopegffeablaaDoor.T12
open Go.RowKit Go.Sort Go.Lib V12

/-- What the laws ask of slices.Equal. -/
def EqC : Prop := ∀ (w : World) (A B : Option Addr) (n c e : Nat) (Z : Nat → Int), Rd w A n Z → Rd w B n Z → Calls Tryd.prog 17 #[.slice A n c, .slice B n e] w fun e w' => e = .returned (.bool true) ∧ Keep w w'
set_option maxRecDepth 100000 in
set_option maxHeartbeats 16000000 in
theorem awake_true {SI : World → Nat → Int → Nat → (Nat → Prop) → List NodeV → Prop} (C : Con SI) (cE : EqC) (w : World) (hg : ErrT w) : Calls Tryd.prog 6 #[] w fun e w' => e = .returned (.bool true) ∧ Keep w w' := by
  obtain ⟨v7, hv7⟩ : ∃ v, v = flt 7 0 := ⟨_, rfl⟩
  have dv7 : Hid (∀ W, Keep w W → Calls Tryd.prog 16 #[v7, .int .i64 7, .int .i64 0] W fun e w' => e = .returned (.bool true) ∧ Keep W w') := fun W k => by rw [hv7]; exact wrong_yes 7 0 W (hg.keep k)
  replace hv7 := Lib.hid hv7
  obtain ⟨v3, hv3⟩ : ∃ v, v = flt 3 1 := ⟨_, rfl⟩
  have dv3 : Hid (∀ W, Keep w W → Calls Tryd.prog 16 #[v3, .int .i64 3, .int .i64 1] W fun e w' => e = .returned (.bool true) ∧ Keep W w') := fun W k => by rw [hv3]; exact wrong_yes 3 1 W (hg.keep k)
  replace hv3 := Lib.hid hv3
  obtain ⟨va, hva⟩ : ∃ v, v = flt 10 0 := ⟨_, rfl⟩
  have dva : Hid (∀ W, Keep w W → Calls Tryd.prog 16 #[va, .int .i64 10, .int .i64 0] W fun e w' => e = .returned (.bool true) ∧ Keep W w') := fun W k => by rw [hva]; exact wrong_yes 10 0 W (hg.keep k)
  replace hva := Lib.hid hva
  obtain ⟨v5, hv5⟩ : ∃ v, v = flt 5 0 := ⟨_, rfl⟩
  have dv5 : Hid (∀ W, Keep w W → Calls Tryd.prog 16 #[v5, .int .i64 5, .int .i64 0] W fun e w' => e = .returned (.bool true) ∧ Keep W w') := fun W k => by rw [hv5]; exact wrong_yes 5 0 W (hg.keep k)
  replace hv5 := Lib.hid hv5
  have cN : Hid (Calls Tryd.prog 5 #[.int .i64 2, .int .i64 1] w fun e w' => ∃ q, e = .returned (.pointer (some ⟨q, 0, none⟩)) ∧ Own SI w 2 1 q [] w') := own_new C 2 1 w (Keep.refl w) (by omega) (by omega) (by omega)
  have cH : Hid (∀ W, Keep w W → Calls Tryd.prog 8 #[.pointer none, .int .i64 1, .slice none 0 0] W fun e w' => e = .returned v5 ∧ Keep W w') := fun W k => by rw [hv5.out]; exact C.holdNil W 1 (hg.keep k)
  have cU := Lib.hid (fun W => C.usedNil W 1)
  replace hg := Lib.hid hg
  go_enter Tryd.func6, Tryd.ntmps6
  go_wp2_with fail
  refine cN.out.mono ?_
  rintro e w1 ⟨q, rfl, o1⟩
  replace o1 := Lib.hid o1
  clear cN
  obtain ⟨W1, hW1⟩ : ∃ W, W = w1.alloc (.cells #[.int .i64 5, .int .i64 2] 2) := ⟨_, rfl⟩
  have KW1 : Hid (Keep w1 W1) := by rw [hW1]; exact Keep.one _ _
  have B1 : Hid (W1.heap[w1.heap.size]? = some (.cells #[.int .i64 5, .int .i64 2] 2 (0, 0))) := by rw [hW1]; exact heap_alloc_new _ _
  have Y1 : Hid (Rd W1 (some ⟨w1.heap.size, 0, none⟩) 2 (two 5 2)) := rd_two B1.out (by unfold I64; omega) (by unfold I64; omega)
  have c1 := own_add C (o1.out.keep C KW1.out) hg.out 7 (some ⟨w1.heap.size, 0, none⟩) 2 2 (two 5 2) Y1.out (fun h => by cases h) (by unfold I64; omega) (by omega) (by omega) la0 (by decide : addI 2 2 (two 5 2) = 0) (by rfl : _ = La)
  rw [show fltC 0 0 = Value.nilIface from rfl] at c1
  replace c1 := Lib.hid c1
  go_wp2_with fail
  rw [← hW1]
  replace hW1 := Lib.hid hW1
  refine c1.out.mono ?_
  rintro e w2 ⟨rfl, o2⟩
  replace o2 := Lib.hid o2
  clear c1
  obtain ⟨W2, hW2⟩ : ∃ W, W = w2.alloc (.cells #[.int .i64 5, .int .i64 2] 2) := ⟨_, rfl⟩
  have KW2 : Hid (Keep w2 W2) := by rw [hW2]; exact Keep.one _ _
  have B2 : Hid (W2.heap[w2.heap.size]? = some (.cells #[.int .i64 5, .int .i64 2] 2 (0, 0))) := by rw [hW2]; exact heap_alloc_new _ _
  have Y2 : Hid (Rd W2 (some ⟨w2.heap.size, 0, none⟩) 2 (two 5 2)) := rd_two B2.out (by unfold I64; omega) (by unfold I64; omega)
  have c2 := own_add C (o2.out.keep C KW2.out) hg.out 8 (some ⟨w2.heap.size, 0, none⟩) 2 2 (two 5 2) Y2.out (fun h => by cases h) (by unfold I64; omega) (by omega) (by omega) la1 (by decide : addI 2 2 (two 5 2) = 0) la2
  rw [show fltC 7 0 = flt 7 0 from rfl, ← hv7.out] at c2
  replace c2 := Lib.hid c2
  go_wp2_with fail
  rw [← hW2]
  replace hW2 := Lib.hid hW2
  refine c2.out.mono ?_
  rintro e w3 ⟨rfl, o3⟩
  replace o3 := Lib.hid o3
  clear c2
  obtain ⟨W3, hW3⟩ : ∃ W, W = w3.alloc (.cells #[.int .i64 5] 2) := ⟨_, rfl⟩
  have KW3 : Hid (Keep w3 W3) := by rw [hW3]; exact Keep.one _ _
  have B3 : Hid (W3.heap[w3.heap.size]? = some (.cells #[.int .i64 5] 2 (0, 0))) := by rw [hW3]; exact heap_alloc_new _ _
  have Y3 : Hid (Rd W3 (some ⟨w3.heap.size, 0, none⟩) 1 (fun _ => 5)) := rd_one B3.out (by unfold I64; omega)
  have c3 := own_add C (o3.out.keep C KW3.out) hg.out 8 (some ⟨w3.heap.size, 0, none⟩) 1 1 (fun _ => 5) Y3.out (fun h => by cases h) (by unfold I64; omega) (by omega) (by omega) la3 la4 la5
  rw [show fltC 3 1 = flt 3 1 from rfl, ← hv3.out] at c3
  replace c3 := Lib.hid c3
  go_wp2_with fail
  rw [← hW3]
  replace hW3 := Lib.hid hW3
  refine c3.out.mono ?_
  rintro e w4 ⟨rfl, o4⟩
  replace o4 := Lib.hid o4
  clear c3
  obtain ⟨W4, hW4⟩ : ∃ W, W = w4.alloc (.cells #[.int .i64 3, .int .i64 1] 2) := ⟨_, rfl⟩
  have KW4 : Hid (Keep w4 W4) := by rw [hW4]; exact Keep.one _ _
  have B4 : Hid (W4.heap[w4.heap.size]? = some (.cells #[.int .i64 3, .int .i64 1] 2 (0, 0))) := by rw [hW4]; exact heap_alloc_new _ _
  have Y4 : Hid (Rd W4 (some ⟨w4.heap.size, 0, none⟩) 2 (two 3 1)) := rd_two B4.out (by unfold I64; omega) (by unfold I64; omega)
  have c4 := own_hold C (o4.out.keep C KW4.out) hg.out 7 (some ⟨w4.heap.size, 0, none⟩) 2 2 (two 3 1) Y4.out (by unfold I64; omega) (by omega) (by omega) lb0 (by decide : chI La 2 7 2 (two 3 1) = 0) (by rfl : _ = Lb)
  rw [show fltC 0 0 = Value.nilIface from rfl] at c4
  replace c4 := Lib.hid c4
  go_wp2_with fail
  rw [← hW4]
  replace hW4 := Lib.hid hW4
  refine c4.out.mono ?_
  rintro e w5 ⟨rfl, o5⟩
  replace o5 := Lib.hid o5
  clear c4
  obtain ⟨W5, hW5⟩ : ∃ W, W = w5.alloc (.cells #[.int .i64 3, .int .i64 1] 2) := ⟨_, rfl⟩
  have KW5 : Hid (Keep w5 W5) := by rw [hW5]; exact Keep.one _ _
  have B5 : Hid (W5.heap[w5.heap.size]? = some (.cells #[.int .i64 3, .int .i64 1] 2 (0, 0))) := by rw [hW5]; exact heap_alloc_new _ _
  have Y5 : Hid (Rd W5 (some ⟨w5.heap.size, 0, none⟩) 2 (two 3 1)) := rd_two B5.out (by unfold I64; omega) (by unfold I64; omega)
  have c5 := own_hold C (o5.out.keep C KW5.out) hg.out 7 (some ⟨w5.heap.size, 0, none⟩) 2 2 (two 3 1) Y5.out (by unfold I64; omega) (by omega) (by omega) lb1 (by decide : chI Lb 2 7 2 (two 3 1) = 0) lb2
  rw [show fltC 10 0 = flt 10 0 from rfl, ← hva.out] at c5
  replace c5 := Lib.hid c5
  go_wp2_with fail
  rw [← hW5]
  replace hW5 := Lib.hid hW5
  refine c5.out.mono ?_
  rintro e w6 ⟨rfl, o6⟩
  replace o6 := Lib.hid o6
  clear c5
  have c6 := Lib.hid (own_used C o6.out 7 (by unfold I64; omega) (by decide) (Z := two 3 1) (fun j hj => by rcases j with _ | _ | j <;> first | rfl | omega))
  go_wp2_with fail
  refine c6.out.mono ?_
  rintro e w7 ⟨A6, d6, rfl, r6, k6⟩
  have o7 := Lib.hid (o6.out.keep C k6)
  replace r6 := Lib.hid r6
  replace k6 := Lib.hid k6
  clear c6
  obtain ⟨W7, hW7⟩ : ∃ W, W = w7.alloc (.cells #[.int .i64 3, .int .i64 1] 2) := ⟨_, rfl⟩
  have KW7 : Hid (Keep w7 W7) := by rw [hW7]; exact Keep.one _ _
  have B7 : Hid (W7.heap[w7.heap.size]? = some (.cells #[.int .i64 3, .int .i64 1] 2 (0, 0))) := by rw [hW7]; exact heap_alloc_new _ _
  have Y7 : Hid (Rd W7 (some ⟨w7.heap.size, 0, none⟩) 2 (two 3 1)) := rd_two B7.out (by unfold I64; omega) (by unfold I64; omega)
  have c7 := Lib.hid (rsame_is A6 (some ⟨w7.heap.size, 0, none⟩) 2 2 d6 2 (two 3 1) (two 3 1) W7 (r6.out.keep KW7.out) Y7.out true (same_yes rfl fun _ _ => rfl))
  go_wp2_with fail
  rw [← hW7]
  replace hW7 := Lib.hid hW7
  refine c7.out.mono ?_
  rintro e w8 ⟨rfl, k7⟩
  have o8 := Lib.hid ((o7.out.keep C KW7.out).keep C k7.keep)
  replace k7 := Lib.hid k7
  clear c7
  have c8 := Lib.hid (own_free C o8.out 7 (by unfold I64; omega) (by decide) (Z := two 2 1) (fun j hj => by rcases j with _ | _ | j <;> first | rfl | omega))
  go_wp2_with fail
  refine c8.out.mono ?_
  rintro e w9 ⟨A8, d8, rfl, r8, k8⟩
  have o9 := Lib.hid (o8.out.keep C k8)
  replace r8 := Lib.hid r8
  replace k8 := Lib.hid k8
  clear c8
  obtain ⟨W9, hW9⟩ : ∃ W, W = w9.alloc (.cells #[.int .i64 2, .int .i64 1] 2) := ⟨_, rfl⟩
  have KW9 : Hid (Keep w9 W9) := by rw [hW9]; exact Keep.one _ _
  have B9 : Hid (W9.heap[w9.heap.size]? = some (.cells #[.int .i64 2, .int .i64 1] 2 (0, 0))) := by rw [hW9]; exact heap_alloc_new _ _
  have Y9 : Hid (Rd W9 (some ⟨w9.heap.size, 0, none⟩) 2 (two 2 1)) := rd_two B9.out (by unfold I64; omega) (by unfold I64; omega)
  have c9 := Lib.hid (rsame_is A8 (some ⟨w9.heap.size, 0, none⟩) 2 2 d8 2 (two 2 1) (two 2 1) W9 (r8.out.keep KW9.out) Y9.out true (same_yes rfl fun _ _ => rfl))
  go_wp2_with fail
  rw [← hW9]
  replace hW9 := Lib.hid hW9
  refine c9.out.mono ?_
  rintro e w10 ⟨rfl, k9⟩
  have o10 := Lib.hid ((o9.out.keep C KW9.out).keep C k9.keep)
  replace k9 := Lib.hid k9
  clear c9
  obtain ⟨W10, hW10⟩ : ∃ W, W = w10.alloc (.cells #[.int .i64 3, .int .i64 1] 2) := ⟨_, rfl⟩
  have KW10 : Hid (Keep w10 W10) := by rw [hW10]; exact Keep.one _ _
  have B10 : Hid (W10.heap[w10.heap.size]? = some (.cells #[.int .i64 3, .int .i64 1] 2 (0, 0))) := by rw [hW10]; exact heap_alloc_new _ _
  have Y10 : Hid (Rd W10 (some ⟨w10.heap.size, 0, none⟩) 2 (two 3 1)) := rd_two B10.out (by unfold I64; omega) (by unfold I64; omega)
  have c10 := own_rel C (o10.out.keep C KW10.out) hg.out 7 (some ⟨w10.heap.size, 0, none⟩) 2 2 (two 3 1) Y10.out (by unfold I64; omega) (by omega) (by omega) lc0 (by decide : chI Lb 2 7 2 (two 3 1) = 0) (by rfl : _ = Lc)
  rw [show fltC 0 0 = Value.nilIface from rfl] at c10
  replace c10 := Lib.hid c10
  go_wp2_with fail
  rw [← hW10]
  replace hW10 := Lib.hid hW10
  refine c10.out.mono ?_
  rintro e w11 ⟨rfl, o11⟩
  replace o11 := Lib.hid o11
  clear c10
  obtain ⟨W11, hW11⟩ : ∃ W, W = w11.alloc (.cells #[.int .i64 3, .int .i64 1] 2) := ⟨_, rfl⟩
  have KW11 : Hid (Keep w11 W11) := by rw [hW11]; exact Keep.one _ _
  have B11 : Hid (W11.heap[w11.heap.size]? = some (.cells #[.int .i64 3, .int .i64 1] 2 (0, 0))) := by rw [hW11]; exact heap_alloc_new _ _
  have Y11 : Hid (Rd W11 (some ⟨w11.heap.size, 0, none⟩) 2 (two 3 1)) := rd_two B11.out (by unfold I64; omega) (by unfold I64; omega)
  have c11 := own_rel C (o11.out.keep C KW11.out) hg.out 7 (some ⟨w11.heap.size, 0, none⟩) 2 2 (two 3 1) Y11.out (by unfold I64; omega) (by omega) (by omega) lc1 (by decide : chI Lc 2 7 2 (two 3 1) = 0) lc2
  rw [show fltC 10 0 = flt 10 0 from rfl, ← hva.out] at c11
  replace c11 := Lib.hid c11
  go_wp2_with fail
  rw [← hW11]
  replace hW11 := Lib.hid hW11
  refine c11.out.mono ?_
  rintro e w12 ⟨rfl, o12⟩
  replace o12 := Lib.hid o12
  clear c11
  have c12 := Lib.hid (own_get C o12.out 7 (by unfold I64; omega) (by decide))
  go_wp2_with fail
  refine c12.out.mono ?_
  rintro e w13 ⟨A12, d12, rfl, r12, k12⟩
  have o13 := Lib.hid (o12.out.keep C k12)
  replace r12 := Lib.hid r12
  replace k12 := Lib.hid k12
  clear c12
  obtain ⟨W13, hW13⟩ : ∃ W, W = w13.alloc (.cells #[.int .i64 7, .slice A12 2 d12] 31) := ⟨_, rfl⟩
  have KW13 : Hid (Keep w13 W13) := by rw [hW13]; exact Keep.one _ _
  have B13 : Hid (W13.heap[w13.heap.size]? = some (.cells #[.int .i64 7, .slice A12 2 d12] 31 (0, 0))) := by rw [hW13]; exact heap_alloc_new _ _
  have o13 := Lib.hid (o13.out.keep C KW13.out)
  have K13 := Lib.hid o13.out.kp
  go_wp2_with fail
  rw [← hW13]
  replace hW13 := Lib.hid hW13
  refine (dv7.out _ K13.out).mono ?_
  rintro e w14 ⟨rfl, k13⟩
  have K14 := Lib.hid (K13.out.trans k13)
  have o14 := Lib.hid (o13.out.keep C k13)
  have B14 := Lib.hid (k13.block B13.out)
  replace k13 := Lib.hid k13
  go_wp2_with fail
  refine (dv3.out _ K14.out).mono ?_
  rintro e w15 ⟨rfl, k14⟩
  have K15 := Lib.hid (K14.out.trans k14)
  have o15 := Lib.hid (o14.out.keep C k14)
  have B15 := Lib.hid (k14.block B14.out)
  replace k14 := Lib.hid k14
  go_wp2_with fail
  refine (dva.out _ K15.out).mono ?_
  rintro e w16 ⟨rfl, k15⟩
  have K16 := Lib.hid (K15.out.trans k15)
  have o16 := Lib.hid (o15.out.keep C k15)
  have B16 := Lib.hid (k15.block B15.out)
  replace k15 := Lib.hid k15
  go_wp2_with fail
  refine (dva.out _ K16.out).mono ?_
  rintro e w17 ⟨rfl, k16⟩
  have K17 := Lib.hid (K16.out.trans k16)
  have o17 := Lib.hid (o16.out.keep C k16)
  have B17 := Lib.hid (k16.block B16.out)
  replace k16 := Lib.hid k16
  have n0 : w17.cell? ⟨w13.heap.size, 0, none⟩ = some (.int .i64 7) := by rw [cell_of_row w17 _ _ _ _ _ B17.out]; rfl
  have c17 := Lib.hid (own_ids C o17.out (n := 1) (by rfl) (Z := fun _ => 7) (fun j hj => by rcases j with _ | j <;> first | rfl | omega))
  go_wp2_with fail
  refine c17.out.mono ?_
  rintro e w18 ⟨A17, d17, rfl, r17, k17⟩
  have o18 := Lib.hid (o17.out.keep C k17)
  replace r17 := Lib.hid r17
  replace k17 := Lib.hid k17
  clear n0 c17
  obtain ⟨W18, hW18⟩ : ∃ W, W = w18.alloc (.cells #[.int .i64 7] 3) := ⟨_, rfl⟩
  have KW18 : Hid (Keep w18 W18) := by rw [hW18]; exact Keep.one _ _
  have B18 : Hid (W18.heap[w18.heap.size]? = some (.cells #[.int .i64 7] 3 (0, 0))) := by rw [hW18]; exact heap_alloc_new _ _
  have Y18 : Hid (Rd W18 (some ⟨w18.heap.size, 0, none⟩) 1 (fun _ => 7)) := rd_one B18.out (by unfold I64; omega)
  have c18 := Lib.hid (cE W18 A17 (some ⟨w18.heap.size, 0, none⟩) 1 d17 1 (fun _ => 7) (r17.out.keep KW18.out) Y18.out)
  go_wp2_with fail
  rw [← hW18]
  replace hW18 := Lib.hid hW18
  refine c18.out.mono ?_
  rintro e w19 ⟨rfl, k18⟩
  have o19 := Lib.hid ((o18.out.keep C KW18.out).keep C k18)
  replace k18 := Lib.hid k18
  clear c18
  have c19 : Hid (Calls Tryd.prog 18 #[.pointer (some ⟨q, 0, none⟩)] w19 fun e w' => e = .returned (.int .i64 2) ∧ Keep w19 w') := own_dims C o19.out
  go_wp2_with fail
  refine c19.out.mono ?_
  rintro e w20 ⟨rfl, k19⟩
  have K20 := Lib.hid (o19.out.kp.trans k19)
  replace k19 := Lib.hid k19
  clear c19
  go_wp2_with fail
  refine (cH.out _ K20.out).mono ?_
  rintro e w21 ⟨rfl, k20⟩
  have K21 := Lib.hid (K20.out.trans k20)
  replace k20 := Lib.hid k20
  go_wp2_with fail
  refine (dv5.out _ K21.out).mono ?_
  rintro e w22 ⟨rfl, k21⟩
  have K22 := Lib.hid (K21.out.trans k21)
  replace k21 := Lib.hid k21
  go_wp2_with fail
  refine (cU.out _).mono ?_
  rintro e w23 ⟨A22, d22, rfl, k22⟩
  have K23 := Lib.hid (K22.out.trans k22)
  replace k22 := Lib.hid k22
  go_wp2
  go_ret
  exact ⟨rfl, K23.out⟩
end Go.Proofs.YtokopegffeablaaDoor.T12
