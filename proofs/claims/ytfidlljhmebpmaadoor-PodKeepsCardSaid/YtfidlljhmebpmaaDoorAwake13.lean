/-
  The law's awake. Condition: errors.errorType holds its own.
-/
import Derived.Test.YtfidlljhmebpmaaDoorOps13
namespace Go.Proofs.YtfidlljhmebpmaaDoor.T13
open Go.RowKit Go.Sort Go.Lib V12

def litP (k p h d : Int) : PodV := ⟨k, p, false, 0, none, 0, 0, fun _ => 0, 0, h, d, 0⟩
theorem lit_is (w : World) (k p h d : Int) (hk : I64 k) (hp : I64 p) (hh : I64 h) (hd : I64 d) : PodIs w (litP k p h d) := ⟨(zpod_is w).rd, fun _ => ⟨rfl, rfl⟩, hk, hp, (zpod_is w).rng.1, (zpod_is w).rng.1, hh, hd, (zpod_is w).rng.1⟩
def aL1 : List PodV := [subP (litP 7 3 9 9) 0]
def aL2 : List PodV := [appP (subP (litP 7 3 9 9) 0) 1 3 0]
theorem la1 : subL [] 1 (litP 7 3 9 9) = aL1 := by unfold subL; rw [if_pos (by decide)]; rfl
theorem la2 : subL aL1 1 (litP 7 0 0 0) = aL1 := by unfold subL; rw [if_neg (by decide)]
theorem la3 : subL aL1 1 (litP 8 0 0 0) = aL1 := by unfold subL; rw [if_neg (by decide)]
theorem la4 : appL aL1 7 1 3 0 = aL2 := by unfold appL; rw [if_pos (by decide)]; rfl
theorem la5 : appL aL2 7 1 3 0 = aL2 := by unfold appL; rw [if_neg (by decide)]
theorem la6 : appL aL2 8 1 3 0 = aL2 := by unfold appL; rw [if_neg (by decide)]
theorem aL1m : ∀ y ∈ aL1, y.m ≤ 1000 := fun y h => by
  rw [List.mem_singleton.1 h]; show (0 : Nat) ≤ _; omega
theorem aL2m : ∀ y ∈ aL2, y.m ≤ 1000 := fun y h => by
  rw [List.mem_singleton.1 h]; show (0 : Nat) ≤ _; omega
theorem aOn : (aL2.filter (onB 3)).length = 1 := by decide
theorem aCo : (aL2.filter (withB 3)).length = 1 := by decide
theorem sub_step {OS : Pred} (C : Con OS) {w : World} {s : Int} {q : Nat} {L : List PodV} {X : Nat → Prop} {w1 : World} (h : OS w s q L X w1) (hg : ErrT w) (x : PodV) (hx : PodIs w1 x) (hm : x.m ≤ 1000) (hl : L.length ≤ 1000) {M : List PodV} {v : Value} (hM : subL L s x = M) (hv : fltC (subC L s x) = v) :
    Calls Tryd.prog 23 #[.pointer (some ⟨q, 0, none⟩), x.val] w1 fun e w' => ∃ r : PodV, e = .returned (.tuple #[r.val, v]) ∧ (subC L s x = 0 → nm r = subP x L.length) ∧ OS w s q M X w' ∧ SameX X w1 w' := by
  refine (C.submit x h (hg.keep (C.kp h)) hx hm hl).mono ?_
  rintro e w' ⟨r, rfl, h1, _, _, _, h5, h6⟩
  rw [hM] at h5
  rw [hv]
  exact ⟨r, rfl, h1, C.less h5 fun i hi => Or.inl hi, h6⟩
theorem app_step {OS : Pred} (C : Con OS) {w : World} {s : Int} {q : Nat} {L : List PodV} {X : Nat → Prop} {w1 : World} (h : OS w s q L X w1) (hg : ErrT w) (id e nd dl : Int) (hi : I64 id) (he : I64 e) (hn : I64 nd) (hd : I64 dl) (hy : ∀ y ∈ L, y.m ≤ 1000) (hl : L.length ≤ 1000) {M : List PodV} {v : Value} (hM : appL L id e nd dl = M) (hv : fltC (appC L id e) = v) :
    Calls Tryd.prog 24 #[.pointer (some ⟨q, 0, none⟩), .int .i64 id, .int .i64 e, .int .i64 nd, .int .i64 dl] w1 fun e' w' => ∃ r : PodV, e' = .returned (.tuple #[r.val, v]) ∧ (appC L id e = 0 → nm r = appP (getL L id) e nd dl) ∧ OS w s q M X w' ∧ SameX X w1 w' := by
  refine (C.apply id e nd dl h (hg.keep (C.kp h)) hi he hn hd hy hl).mono ?_
  rintro e w' ⟨r, rfl, h1, _, _, _, h5, h6⟩
  rw [hM] at h5
  rw [hv]
  exact ⟨r, rfl, h1, C.less h5 fun i hi => Or.inl hi, h6⟩
set_option maxRecDepth 100000 in
set_option maxHeartbeats 16000000 in
theorem awake_true {OS : Pred} (C : Con OS) (w : World) (hg : ErrT w) : Calls Tryd.prog 9 #[] w fun e w' => e = .returned (.bool true) ∧ Keep w w' := by
  obtain ⟨v6, hv6⟩ : ∃ v, v = flt 6 0 := ⟨_, rfl⟩
  have dv6 : Hid (∀ W, Keep w W → Calls Tryd.prog 29 #[v6] W fun e w' => e = .returned (.int .i64 6) ∧ Keep W w') := fun W k => by rw [hv6]; exact lcode_yes 6 W (hg.keep k)
  replace hv6 := Lib.hid hv6
  obtain ⟨v7, hv7⟩ : ∃ v, v = flt 7 0 := ⟨_, rfl⟩
  have dv7 : Hid (∀ W, Keep w W → Calls Tryd.prog 29 #[v7] W fun e w' => e = .returned (.int .i64 7) ∧ Keep W w') := fun W k => by rw [hv7]; exact lcode_yes 7 W (hg.keep k)
  replace hv7 := Lib.hid hv7
  obtain ⟨v8, hv8⟩ : ∃ v, v = flt 8 0 := ⟨_, rfl⟩
  have dv8 : Hid (∀ W, Keep w W → Calls Tryd.prog 29 #[v8] W fun e w' => e = .returned (.int .i64 8) ∧ Keep W w') := fun W k => by rw [hv8]; exact lcode_yes 8 W (hg.keep k)
  replace hv8 := Lib.hid hv8
  obtain ⟨v5, hv5⟩ : ∃ v, v = flt 5 0 := ⟨_, rfl⟩
  have dv5 : Hid (∀ W, Keep w W → Calls Tryd.prog 29 #[v5] W fun e w' => e = .returned (.int .i64 5) ∧ Keep W w') := fun W k => by rw [hv5]; exact lcode_yes 5 W (hg.keep k)
  replace hv5 := Lib.hid hv5
  have cN : Hid (Calls Tryd.prog 8 #[.int .i64 1] w fun e w' => ∃ q, e = .returned (.pointer (some ⟨q, 0, none⟩)) ∧ OS w 1 q [] (fun _ => False) w' ∧ Keep w w') := C.new 1 w w (Keep.refl w) (by unfold I64; omega)
  have cZ : Hid (∀ W, Keep w W → Calls Tryd.prog 23 #[.pointer none, zpod.val] W fun e w' => ∃ r : PodV, e = .returned (.tuple #[r.val, v5]) ∧ nm r = zpod ∧ Keep W w') := fun W k => by rw [hv5.out]; exact C.submitNil zpod W (hg.keep k) (zpod_is W)
  have cA := Lib.hid C.allNil
  replace hg := Lib.hid hg
  unfold zpod PodV.val at cZ
  simp only at cZ
  go_enter Tryd.func9, Tryd.ntmps9
  go_wp2_with fail
  refine cN.out.mono ?_
  rintro e w1 ⟨q, rfl, o1, _⟩
  replace o1 := Lib.hid o1
  clear cN
  have c1 := sub_step C o1.out hg.out (litP 7 3 9 9) (lit_is _ _ _ _ _ (by unfold I64; omega) (by unfold I64; omega) (by unfold I64; omega) (by unfold I64; omega)) (Nat.zero_le _) (Nat.zero_le _) la1 (show _ = Value.nilIface from rfl)
  replace c1 := Lib.hid c1
  unfold litP PodV.val at c1
  simp only at c1
  go_wp2_with fail
  refine c1.out.mono ?_
  rintro e w2 ⟨r1, rfl, n1, p1, s1⟩
  replace p1 := Lib.hid p1
  clear c1
  replace s1 := Lib.hid s1
  replace n1 := Lib.hid n1
  obtain ⟨b1, hb1⟩ : ∃ b, b = w2.heap.size := ⟨_, rfl⟩
  obtain ⟨W1, hW1⟩ : ∃ W, W = w2.alloc (.cells (podB r1) 32) := ⟨_, rfl⟩
  have KW1 : Hid (Keep w2 W1) := by rw [hW1]; exact Keep.one _ _
  have B1 : Hid (W1.heap[b1]? = some (.cells (podB r1) 32 (0, 0))) := by rw [hW1, hb1]; exact heap_alloc_new _ _
  have g1 : b1 < W1.heap.size := by rw [hW1, hb1, World.size_alloc]; omega
  have P1 := Lib.hid (C.more p1.out KW1.out (Z := fun i => i = b1) (fun j hj => by have := g1; omega))
  replace g1 := Lib.hid g1
  unfold podB at hW1
  clear p1
  have c2 := sub_step C P1.out hg.out (litP 7 0 0 0) (lit_is _ _ _ _ _ (by unfold I64; omega) (by unfold I64; omega) (by unfold I64; omega) (by unfold I64; omega)) (Nat.zero_le _) (by decide) la2 (show _ = v6 by rw [hv6.out]; rfl)
  replace c2 := Lib.hid c2
  unfold litP PodV.val at c2
  simp only at c2
  go_wp2_with fail
  rw [← hW1]
  try rw [← hb1]
  replace hW1 := Lib.hid hW1
  replace hb1 := Lib.hid hb1
  refine c2.out.mono ?_
  rintro e w3 ⟨r2, rfl, n2, p2, s2⟩
  replace B1 : Hid (w3.heap[b1]? = _) := (s2 b1 (Or.inr rfl)).trans B1.out
  replace p2 := Lib.hid p2
  clear c2
  replace s2 := Lib.hid s2
  replace n2 := Lib.hid n2
  obtain ⟨b2, hb2⟩ : ∃ b, b = w3.heap.size := ⟨_, rfl⟩
  obtain ⟨W2, hW2⟩ : ∃ W, W = w3.alloc (.cells (podB r2) 32) := ⟨_, rfl⟩
  have KW2 : Hid (Keep w3 W2) := by rw [hW2]; exact Keep.one _ _
  have P2 := Lib.hid (C.keep p2.out KW2.out)
  unfold podB at hW2
  replace B1 : Hid (W2.heap[b1]? = _) := KW2.out.block B1.out
  clear p2
  have c3 := sub_step C P2.out hg.out (litP 8 0 0 0) (lit_is _ _ _ _ _ (by unfold I64; omega) (by unfold I64; omega) (by unfold I64; omega) (by unfold I64; omega)) (Nat.zero_le _) (by decide) la3 (show _ = v7 by rw [hv7.out]; rfl)
  replace c3 := Lib.hid c3
  unfold litP PodV.val at c3
  simp only at c3
  go_wp2_with fail
  rw [← hW2]
  try rw [← hb2]
  replace hW2 := Lib.hid hW2
  replace hb2 := Lib.hid hb2
  refine c3.out.mono ?_
  rintro e w4 ⟨r3, rfl, n3, p3, s3⟩
  replace B1 : Hid (w4.heap[b1]? = _) := (s3 b1 (Or.inr rfl)).trans B1.out
  replace p3 := Lib.hid p3
  clear c3
  replace s3 := Lib.hid s3
  replace n3 := Lib.hid n3
  obtain ⟨b3, hb3⟩ : ∃ b, b = w4.heap.size := ⟨_, rfl⟩
  obtain ⟨W3, hW3⟩ : ∃ W, W = w4.alloc (.cells (podB r3) 32) := ⟨_, rfl⟩
  have KW3 : Hid (Keep w4 W3) := by rw [hW3]; exact Keep.one _ _
  have P3 := Lib.hid (C.keep p3.out KW3.out)
  unfold podB at hW3
  replace B1 : Hid (W3.heap[b1]? = _) := KW3.out.block B1.out
  clear p3
  have c4 := app_step C P3.out hg.out 7 1 3 0 (by unfold I64; omega) (by unfold I64; omega) (by unfold I64; omega) (by unfold I64; omega) aL1m (by decide) la4 (show _ = Value.nilIface from rfl)
  replace c4 := Lib.hid c4
  unfold PodV.val at c4
  go_wp2_with fail
  rw [← hW3]
  try rw [← hb3]
  replace hW3 := Lib.hid hW3
  replace hb3 := Lib.hid hb3
  refine c4.out.mono ?_
  rintro e w5 ⟨r4, rfl, n4, p4, s4⟩
  replace B1 : Hid (w5.heap[b1]? = _) := (s4 b1 (Or.inr rfl)).trans B1.out
  replace p4 := Lib.hid p4
  clear c4
  replace s4 := Lib.hid s4
  replace n4 := Lib.hid n4
  obtain ⟨b4, hb4⟩ : ∃ b, b = w5.heap.size := ⟨_, rfl⟩
  obtain ⟨W4, hW4⟩ : ∃ W, W = w5.alloc (.cells (podB r4) 32) := ⟨_, rfl⟩
  have KW4 : Hid (Keep w5 W4) := by rw [hW4]; exact Keep.one _ _
  have B4 : Hid (W4.heap[b4]? = some (.cells (podB r4) 32 (0, 0))) := by rw [hW4, hb4]; exact heap_alloc_new _ _
  have g4 : b4 < W4.heap.size := by rw [hW4, hb4, World.size_alloc]; omega
  have P4 := Lib.hid (C.more p4.out KW4.out (Z := fun i => i = b4) (fun j hj => by have := g4; omega))
  replace g4 := Lib.hid g4
  unfold podB at hW4
  replace B1 : Hid (W4.heap[b1]? = _) := KW4.out.block B1.out
  clear p4
  have c5 := app_step C P4.out hg.out 7 1 3 0 (by unfold I64; omega) (by unfold I64; omega) (by unfold I64; omega) (by unfold I64; omega) aL2m (by decide) la5 (show _ = v8 by rw [hv8.out]; rfl)
  replace c5 := Lib.hid c5
  unfold PodV.val at c5
  go_wp2_with fail
  rw [← hW4]
  try rw [← hb4]
  replace hW4 := Lib.hid hW4
  replace hb4 := Lib.hid hb4
  refine c5.out.mono ?_
  rintro e w6 ⟨r5, rfl, n5, p5, s5⟩
  replace B1 : Hid (w6.heap[b1]? = _) := (s5 b1 (Or.inl (Or.inr rfl))).trans B1.out
  replace B4 : Hid (w6.heap[b4]? = _) := (s5 b4 (Or.inr rfl)).trans B4.out
  replace p5 := Lib.hid p5
  clear c5
  replace s5 := Lib.hid s5
  replace n5 := Lib.hid n5
  obtain ⟨b5, hb5⟩ : ∃ b, b = w6.heap.size := ⟨_, rfl⟩
  obtain ⟨W5, hW5⟩ : ∃ W, W = w6.alloc (.cells (podB r5) 32) := ⟨_, rfl⟩
  have KW5 : Hid (Keep w6 W5) := by rw [hW5]; exact Keep.one _ _
  have P5 := Lib.hid (C.keep p5.out KW5.out)
  unfold podB at hW5
  replace B1 : Hid (W5.heap[b1]? = _) := KW5.out.block B1.out
  replace B4 : Hid (W5.heap[b4]? = _) := KW5.out.block B4.out
  clear p5
  have c6 := app_step C P5.out hg.out 8 1 3 0 (by unfold I64; omega) (by unfold I64; omega) (by unfold I64; omega) (by unfold I64; omega) aL2m (by decide) la6 (show _ = v5 by rw [hv5.out]; rfl)
  replace c6 := Lib.hid c6
  unfold PodV.val at c6
  go_wp2_with fail
  rw [← hW5]
  try rw [← hb5]
  replace hW5 := Lib.hid hW5
  replace hb5 := Lib.hid hb5
  refine c6.out.mono ?_
  rintro e w7 ⟨r6, rfl, n6, p6, s6⟩
  replace B1 : Hid (w7.heap[b1]? = _) := (s6 b1 (Or.inl (Or.inr rfl))).trans B1.out
  replace B4 : Hid (w7.heap[b4]? = _) := (s6 b4 (Or.inr rfl)).trans B4.out
  replace p6 := Lib.hid p6
  clear c6
  replace s6 := Lib.hid s6
  replace n6 := Lib.hid n6
  obtain ⟨b6, hb6⟩ : ∃ b, b = w7.heap.size := ⟨_, rfl⟩
  obtain ⟨W6, hW6⟩ : ∃ W, W = w7.alloc (.cells (podB r6) 32) := ⟨_, rfl⟩
  have KW6 : Hid (Keep w7 W6) := by rw [hW6]; exact Keep.one _ _
  have P6 := Lib.hid (C.keep p6.out KW6.out)
  unfold podB at hW6
  replace B1 : Hid (W6.heap[b1]? = _) := KW6.out.block B1.out
  replace B4 : Hid (W6.heap[b4]? = _) := KW6.out.block B4.out
  clear p6
  have K6 : Hid (Keep w W6) := C.kp P6.out
  have c7 := Lib.hid (cZ.out W6 K6.out)
  clear cZ
  go_wp2_with fail
  rw [← hW6]
  replace hW6 := Lib.hid hW6
  replace hb6 := Lib.hid hb6
  refine c7.out.mono ?_
  rintro e w8 ⟨r7, rfl, _, k7⟩
  clear c7
  have p7 := Lib.hid (C.keep P6.out k7)
  replace B1 : Hid (w8.heap[b1]? = _) := k7.block B1.out
  replace B4 : Hid (w8.heap[b4]? = _) := k7.block B4.out
  replace k7 := Lib.hid k7
  have N1 := n1.out (by decide)
  have N4 := n4.out (by decide)
  have e1h : r1.h = 1 := by have := congrArg PodV.h N1; exact this
  have e1d : r1.d = -1 := by have := congrArg PodV.d N1; exact this
  have e4h : r4.h = 3 := by have := congrArg PodV.h N4; rw [nm_h] at this; rw [this]; decide
  have e4d : r4.d = 3 := by have := congrArg PodV.d N4; rw [nm_d] at this; rw [this]; decide
  obtain ⟨_, _, _, _, _, _, x6, x7, _, _⟩ := blk9 B1.out
  obtain ⟨_, _, _, _, _, _, y6, y7, _, _⟩ := blk9 B4.out
  rw [e1h] at x6
  rw [e1d] at x7
  rw [e4h] at y6
  rw [e4d] at y7
  clear N1 N4 e1h e1d e4h e4d
  have z1 := lt_of_block B1.out
  have z4 := lt_of_block B4.out
  have Y6 := Lib.hid y6
  have Y7 := Lib.hid y7
  have X6 := Lib.hid x6
  have X7 := Lib.hid x7
  obtain ⟨b7, hb7⟩ : ∃ b, b = w8.heap.size := ⟨_, rfl⟩
  obtain ⟨W7, hW7⟩ : ∃ W, W = w8.alloc (.cells (podB r7) 32) := ⟨_, rfl⟩
  have KW7 : Hid (Keep w8 W7) := by rw [hW7]; exact Keep.one _ _
  have P7 := Lib.hid (C.keep p7.out KW7.out)
  unfold podB at hW7
  have K7 : Hid (Keep w W7) := C.kp P7.out
  have c8 := Lib.hid (dv6.out W7 K7.out)
  go_wp2_with fail
  rw [← hW7]
  replace hW7 := Lib.hid hW7
  replace hb7 := Lib.hid hb7
  clear z1 z4 x6 x7 y6 y7
  have x6 := KW7.out.cell X6.out
  have x7 := KW7.out.cell X7.out
  have y6 := KW7.out.cell Y6.out
  have y7 := KW7.out.cell Y7.out
  refine c8.out.mono ?_
  rintro e w9 ⟨rfl, k8⟩
  replace P7 := Lib.hid (C.keep P7.out k8)
  have K8 : Hid (Keep w w9) := C.kp P7.out
  replace x6 := k8.cell x6
  replace x7 := k8.cell x7
  replace y6 := k8.cell y6
  replace y7 := k8.cell y7
  replace k8 := Lib.hid k8
  clear c8
  have c9 := Lib.hid (dv7.out w9 K8.out)
  go_wp2_with fail
  refine c9.out.mono ?_
  rintro e w10 ⟨rfl, k9⟩
  replace P7 := Lib.hid (C.keep P7.out k9)
  have K9 : Hid (Keep w w10) := C.kp P7.out
  replace x6 := k9.cell x6
  replace x7 := k9.cell x7
  replace y6 := k9.cell y6
  replace y7 := k9.cell y7
  replace k9 := Lib.hid k9
  clear c9
  have c10 := Lib.hid (dv8.out w10 K9.out)
  go_wp2_with fail
  refine c10.out.mono ?_
  rintro e w11 ⟨rfl, k10⟩
  replace P7 := Lib.hid (C.keep P7.out k10)
  have K10 : Hid (Keep w w11) := C.kp P7.out
  replace x6 := k10.cell x6
  replace x7 := k10.cell x7
  replace y6 := k10.cell y6
  replace y7 := k10.cell y7
  replace k10 := Lib.hid k10
  clear c10
  have c11 := Lib.hid (dv5.out w11 K10.out)
  go_wp2_with fail
  refine c11.out.mono ?_
  rintro e w12 ⟨rfl, k11⟩
  replace P7 := Lib.hid (C.keep P7.out k11)
  have K11 : Hid (Keep w w12) := C.kp P7.out
  replace x6 := k11.cell x6
  replace x7 := k11.cell x7
  replace y6 := k11.cell y6
  replace y7 := k11.cell y7
  replace k11 := Lib.hid k11
  clear c11
  have c12 := Lib.hid (dv5.out w12 K11.out)
  go_wp2_with fail
  refine c12.out.mono ?_
  rintro e w13 ⟨rfl, k12⟩
  replace P7 := Lib.hid (C.keep P7.out k12)
  have K12 : Hid (Keep w w13) := C.kp P7.out
  replace x6 := k12.cell x6
  replace x7 := k12.cell x7
  replace y6 := k12.cell y6
  replace y7 := k12.cell y7
  replace k12 := Lib.hid k12
  clear c12
  have c13 := Lib.hid (C.on 3 P7.out aL2m (by decide))
  go_wp2_with fail
  refine c13.out.mono ?_
  rintro e w14 ⟨v, S, rfl, R, _, k13⟩
  rw [aOn] at R
  obtain ⟨A9, d9, rfl, _⟩ := R.rd (by omega)
  replace R := Lib.hid R
  replace P7 := Lib.hid (C.keep P7.out k13)
  replace k13 := Lib.hid k13
  clear c13
  have c14 := Lib.hid (C.count 3 P7.out aL2m (by decide))
  rw [aCo] at c14
  go_wp2_with fail
  refine c14.out.mono ?_
  rintro e w15 ⟨rfl, k14⟩
  replace P7 := Lib.hid (C.keep P7.out k14)
  replace k14 := Lib.hid k14
  clear c14
  have c15 := Lib.hid (C.len P7.out (by decide))
  go_wp2_with fail
  refine c15.out.mono ?_
  rintro e w16 ⟨rfl, k15⟩
  replace P7 := Lib.hid (C.keep P7.out k15)
  replace k15 := Lib.hid k15
  clear c15
  rw [show (aL2.length : Int) = 1 from rfl]
  go_wp2_with fail
  refine (cA.out _).mono ?_
  rintro e w17 ⟨A10, d10, rfl, k16⟩
  have K17 : Hid (Keep w w17) := (C.kp P7.out).trans k16
  replace k16 := Lib.hid k16
  go_wp2
  go_ret
  exact ⟨rfl, K17.out⟩
end Go.Proofs.YtfidlljhmebpmaaDoor.T13
