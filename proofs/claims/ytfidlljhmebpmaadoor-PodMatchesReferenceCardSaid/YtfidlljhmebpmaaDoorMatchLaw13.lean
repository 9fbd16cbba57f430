/-
  The walk of PodMatchesReference. Condition: errors.errorType holds its own.
-/
import Derived.Test.YtfidlljhmebpmaaDoorWalk13
namespace Go.Proofs.YtfidlljhmebpmaaDoor.T13
open Go.RowKit Go.Sort Go.Lib V12

set_option maxRecDepth 100000 in
set_option maxHeartbeats 8000000 in
theorem match_walk {OS : Pred} (C : Con OS) (s : Int) (hs64 : I64 s) (A : Option Addr) (n c : Nat) (P : Nat → OpV) (w : World) (hR : RdO w A n P) (hg : ErrT w) : Calls Tryd.prog 3 #[.int .i64 s, .slice A n c] w fun e w' => e = .returned (.bool true) ∧ Keep w w' := by
  have hs := hR.small
  obtain ⟨fb, hfb⟩ := few_or P n
  have cF : Hid (∀ W, Keep w W → Calls Tryd.prog 10 #[.slice A n c] W fun e w' => e = .returned (.bool fb) ∧ Keep W w') := fun W k => few_fn A n c P W (hR.keep k) fb hfb
  have aw : Hid (∀ W, Keep w W → Calls Tryd.prog 9 #[] W fun e w' => e = .returned (.bool true) ∧ Keep W w') := fun W k => awake_true C W (hg.keep k)
  have cN : Hid (Calls Tryd.prog 8 #[.int .i64 s] w fun e w' => ∃ q, e = .returned (.pointer (some ⟨q, 0, none⟩)) ∧ OS w s q [] (fun _ => False) w' ∧ Keep w w') := C.new s w w (Keep.refl w) hs64
  replace hfb := Lib.hid hfb
  replace hg := Lib.hid hg
  replace hR := Lib.hid hR
  go_enter Tryd.func3, Tryd.ntmps3
  go_wp2_with fail
  refine cN.out.mono ?_
  rintro e w1 ⟨q, rfl, o1, _⟩
  have K1 := Lib.hid (C.kp o1)
  replace o1 := Lib.hid o1
  go_wp2_with fail
  refine (aw.out _ K1.out).mono ?_
  rintro e w2 ⟨rfl, k2⟩
  replace o1 := Lib.hid (C.keep o1.out k2)
  replace K1 := Lib.hid (C.kp o1.out)
  replace k2 := Lib.hid k2
  go_wp2_with fail
  refine (cF.out w2 K1.out).mono ?_
  rintro e w3 ⟨rfl, k3⟩
  replace o1 := Lib.hid (C.keep o1.out k3)
  replace K1 := Lib.hid (C.kp o1.out)
  replace k3 := Lib.hid k3
  cases fb with
  | false =>
    go_wp2_with fail
    refine (aw.out _ K1.out).mono ?_
    rintro e w4 ⟨rfl, k4⟩
    go_wp2
    go_ret
    exact ⟨rfl, K1.out.trans k4⟩
  | true =>
  have hf := hfb.out.1 rfl
  have hn := hf.1
  replace hf := Lib.hid hf
  clear cN aw cF
  go_wp2
  go_loopg [6, 7, 8] n (fun gx s6 s7 s8 wr => ∃ (i m : Nat) (B : Option Addr) (d : Nat) (Q : Nat → PodV) (M : List PodV) (X : Nat → Prop), i ≤ n ∧ gx = n - i ∧ s8 = .int .i64 i ∧ s6 = .slice B m d ∧ s7 = .bool true ∧ m ≤ i ∧ Hid (St OS w s q M X wr B d m Q))
  case atStart => exact ⟨0, 0, none, 0, _, [], _, Nat.zero_le _, rfl, rfl, rfl, rfl, Nat.le_refl _, St.new o1.out⟩
  case round =>
    clear o1 K1 k2 k3
    obtain ⟨i, m, B, d, Q, M, X, hi, rfl, rfl, rfl, rfl, hmi, SS⟩ := hrel
    by_cases hlt : i < n
    · have KR := Lib.hid (C.kp SS.out.o)
      have RP := hR.out.keep KR.out
      obtain ⟨b, off, hA, ca⟩ := RP.adr (by omega)
      subst hA
      have q1 := atO b off n c i hlt
      have X0 := ca i hlt
      have ox := hR.out.is i hlt
      have hnx := (hf.out.2 i hlt).m
      clear ca RP
      obtain ⟨x, hx⟩ : ∃ x, x = P i := ⟨_, rfl⟩
      rw [← hx] at X0 ox hnx
      replace hx := Lib.hid hx
      have x_e := X0.e; have x_n := X0.n; have x_d := X0.d
      have y0 := X0.x.e0; have y1 := X0.x.e1; have y2 := X0.x.e2; have y3 := X0.x.e3; have y4 := X0.x.e4; have y5 := X0.x.e5; have y6 := X0.x.e6; have y7 := X0.x.e7; have y8 := X0.x.e8
      clear X0
      have cP := st_play C SS.out hg.out x ox hnx (by omega)
      unfold OpV.val at cP
      replace cP := Lib.hid cP
      replace ox := Lib.hid ox
      replace hnx := Lib.hid hnx
      go_wp2_with fail
      refine cP.out.mono ?_
      rintro e w4 ⟨B4, d4, m4, Q4, X4, rfl, hm4, S4⟩
      replace S4 := Lib.hid S4
      clear x_e x_n x_d y0 y1 y2 y3 y4 y5 y6 y7 y8 cP
      obtain ⟨M2, hM2⟩ : ∃ M2, M2 = opL M s x := ⟨_, rfl⟩
      rw [← hM2] at S4
      replace hM2 := Lib.hid hM2
      have hlen4 := S4.out.len
      have cA := C.all S4.out.o S4.out.m3 (by rw [hlen4]; omega)
      rw [hlen4] at cA
      replace cA := Lib.hid cA
      replace hlen4 := Lib.hid hlen4
      go_wp2_with fail
      refine cA.out.mono ?_
      rintro e w5 ⟨v5, T5, rfl, R5, E5, k5⟩
      obtain ⟨A5, d5, rfl, D5⟩ := R5.rd (by omega)
      have cS := Lib.hid (rsame6_fn A5 B4 m4 d5 d4 T5 Q4 w5 D5 (S4.out.r.rd.keep k5) (same_of (by rw [E5, S4.out.e])))
      replace R5 := Lib.hid R5
      replace D5 := Lib.hid D5
      replace E5 := Lib.hid E5
      replace k5 := Lib.hid k5
      clear cA
      go_wp2_with fail
      refine cS.out.mono ?_
      rintro e w6 ⟨rfl, k6⟩
      have K6 := Lib.hid (k5.out.trans k6)
      have cL := C.len (C.keep S4.out.o K6.out) (by rw [hlen4.out]; omega)
      rw [hlen4.out] at cL
      replace cL := Lib.hid cL
      replace k6 := Lib.hid k6
      clear cS
      go_wp2_with fail
      refine cL.out.mono ?_
      rintro e w7 ⟨rfl, k7⟩
      have K7 := Lib.hid (K6.out.trans k7)
      replace k7 := Lib.hid k7
      clear cL
      have cG := Lib.hid (C.get x.x.k (C.keep S4.out.o K7.out) ox.out.x.rng.1 S4.out.m3)
      unfold PodV.val at cG
      have Z7 := (hR.out.keep ((C.kp S4.out.o).trans K7.out)).at hlt
      rw [← hx.out] at Z7
      have z0 := Z7.x.e0
      clear Z7
      go_wp2_with fail
      refine cG.out.mono ?_
      rintro e w8 ⟨r, rfl, NE, IR, QR, k8⟩
      have K8 := Lib.hid (K7.out.trans k8)
      clear z0 cG
      replace NE := Lib.hid NE
      replace QR := Lib.hid QR
      replace k8 := Lib.hid k8
      obtain ⟨w9, hw9⟩ : ∃ W, W = w8.alloc (.cells (podB r) 32) := ⟨_, rfl⟩
      obtain ⟨pb, hpb⟩ : ∃ pb, pb = w8.heap.size := ⟨_, rfl⟩
      have B9 : w9.heap[pb]? = some (.cells (podB r) 32 (0, 0)) := by rw [hw9, hpb]; exact heap_alloc_new _ _
      have K9 : Hid (Keep w4 w9) := by rw [hw9]; exact K8.out.alloc _
      have IR9 : Hid (PodIs w9 r) := by rw [hw9]; exact IR.keep (Keep.one _ _)
      replace IR := Lib.hid IR
      have Z8 := (hR.out.keep ((C.kp S4.out.o).trans K8.out)).at hlt
      rw [← hx.out] at Z8
      have v1 := Z8.x.e0
      have hbl := cell_lt v1
      clear Z8
      obtain ⟨p0, p1, p2, p3, p4, p5, p6, p7, p8, _⟩ := blk9 B9
      have P0 := Lib.hid p0; have P1 := Lib.hid p1; have P2 := Lib.hid p2; have P3 := Lib.hid p3; have P4 := Lib.hid p4; have P5 := Lib.hid p5; have P6 := Lib.hid p6; have P7 := Lib.hid p7; have P8 := Lib.hid p8
      clear p0 p1 p2 p3 p4 p5 p6 p7 p8 B9
      unfold podB at hw9
      have RP9 := Lib.hid (S4.out.r.rd.keep K9.out)
      have hsame := Lib.hid (st_fil S4.out (b := onB x.nd) (onB_nm _))
      have hfl : Hid (((lst Q4 m4).filter (onB x.nd)).length = (M2.filter (onB x.nd)).length) := st_flen S4.out (onB_nm _)
      have hle : (M2.filter (onB x.nd)).length ≤ m4 := by rw [← hlen4.out]; exact List.length_filter_le _ _
      obtain ⟨FF, hFF⟩ : ∃ F, F = M2.filter (onB x.nd) := ⟨_, rfl⟩
      obtain ⟨GG, hGG⟩ : ∃ G, G = (lst Q4 m4).filter (onB x.nd) := ⟨_, rfl⟩
      rw [← hFF] at hsame hfl hle
      rw [← hGG] at hsame hfl
      obtain ⟨f, hf2⟩ : ∃ f, f = FF.length := ⟨_, rfl⟩
      rw [← hf2] at hfl hle
      replace hf2 := Lib.hid hf2
      replace hFF := Lib.hid hFF
      replace hGG := Lib.hid hGG
      rcases find_lst S4.out.e x.x.k with ⟨hk, hcase⟩ | ⟨hk, hcase⟩
      · have hget := Lib.hid (get_none hk)
        rw [show decide (x.x.k ∈ keys M2) = false from decide_eq_false hk]
        replace hk := Lib.hid hk
        have h1 := hcase
        have hsv : Hid (SameV r zpod) := same_nm (NE.out.trans (by rw [hget.out]; rfl))
        have cY : Hid (∀ W', Keep w9 W' → Calls Tryd.prog 17 #[r.val, zpod.val] W' fun e w' => e = .returned (.bool true) ∧ Keep W' w') := fun W' k => (rsamepod_fn r zpod W' hsv.out (IR9.out.keep k) (zpod_is W')).mono fun _ _ h => ⟨h.1, h.2.keep⟩
        unfold PodV.val zpod at cY
        have cN := Lib.hid (rfind_fn _ m4 d4 Q4 x.x.k w9 RP9.out)
        rw [h1] at cN
        replace h1 := Lib.hid h1
        go_wp2_with fail
        rw [← hw9]
        rw [← hpb]
        replace hw9 := Lib.hid hw9
        replace hpb := Lib.hid hpb
        refine cN.out.mono ?_
        rintro e w10' ⟨rfl, rfl⟩
        clear v1 hbl cN
        have p0 := P0.out; have p1 := P1.out; have p2 := P2.out; have p3 := P3.out; have p4 := P4.out; have p5 := P5.out; have p6 := P6.out; have p7 := P7.out; have p8 := P8.out
        go_wp2
        have HELD : ∀ Wz, Keep w9 Wz → (Wz.cell? ⟨pb, 0, none⟩ = some (.int .i64 r.k) ∧ Wz.cell? ⟨pb, 1, none⟩ = some (.int .i64 r.p) ∧ Wz.cell? ⟨pb, 2, none⟩ = some (.bool r.f) ∧ Wz.cell? ⟨pb, 3, none⟩ = some (.int .i64 r.g) ∧ Wz.cell? ⟨pb, 4, none⟩ = some (.slice r.A r.m r.c) ∧ Wz.cell? ⟨pb, 5, none⟩ = some (.int .i64 r.a) ∧ Wz.cell? ⟨pb, 6, none⟩ = some (.int .i64 r.h) ∧ Wz.cell? ⟨pb, 7, none⟩ = some (.int .i64 r.d) ∧ Wz.cell? ⟨pb, 8, none⟩ = some (.int .i64 r.t)) := fun Wz KK => ⟨KK.cell p0, KK.cell p1, KK.cell p2, KK.cell p3, KK.cell p4, KK.cell p5, KK.cell p6, KK.cell p7, KK.cell p8⟩
        refine wp_region_held_drew (S := fun w' => w'.cell? ⟨pb, 0, none⟩ = some (.int .i64 r.k) ∧ w'.cell? ⟨pb, 1, none⟩ = some (.int .i64 r.p) ∧ w'.cell? ⟨pb, 2, none⟩ = some (.bool r.f) ∧ w'.cell? ⟨pb, 3, none⟩ = some (.int .i64 r.g) ∧ w'.cell? ⟨pb, 4, none⟩ = some (.slice r.A r.m r.c) ∧ w'.cell? ⟨pb, 5, none⟩ = some (.int .i64 r.a) ∧ w'.cell? ⟨pb, 6, none⟩ = some (.int .i64 r.h) ∧ w'.cell? ⟨pb, 7, none⟩ = some (.int .i64 r.d) ∧ w'.cell? ⟨pb, 8, none⟩ = some (.int .i64 r.t)) (by kernel_rfl) ?_ (fun hHeld => ?_)
        · exact HELD _ (by repeat (with_reducible first | exact Keep.refl w9 | apply Keep.alloc | apply Keep.drew | apply Keep.drewN))
        refine wpAnyH_take (i := 0) (v := .bool false) rfl (by kernel_rfl) (by kernel_rfl) (by kernel_rfl) (fun _ _ _ h => h) (Or.inl ⟨by rfl, fun Wz hW => by obtain ⟨s0, s1, s2, s3, s4, s5, s6, s7, s8⟩ := hW; go_simp⟩) hHeld ?_
        simp only [Act.put, List.getElem_toArray, List.getElem_cons_zero, List.setIfInBounds_toArray, List.set_cons_zero, List.set_cons_succ]
        refine wpAnyH_take (i := 1) (v := .int .i64 (-1)) rfl (by kernel_rfl) (by kernel_rfl) (by kernel_rfl) (fun _ _ _ h => h) (Or.inl ⟨by rfl, fun Wz hW => by obtain ⟨s0, s1, s2, s3, s4, s5, s6, s7, s8⟩ := hW; go_simp⟩) hHeld ?_
        simp only [Act.put, List.getElem_toArray, List.getElem_cons_succ, List.getElem_cons_zero, List.setIfInBounds_toArray, List.set_cons_zero, List.set_cons_succ]
        refine wpAnyH_take (i := 2) (v := .bool false) rfl (by kernel_rfl) (by kernel_rfl) (by kernel_rfl) (fun _ _ _ h => h) (Or.inl ⟨by rfl, fun Wz hW => by obtain ⟨s0, s1, s2, s3, s4, s5, s6, s7, s8⟩ := hW; go_simp⟩) hHeld ?_
        simp only [Act.put, List.getElem_toArray, List.getElem_cons_succ, List.getElem_cons_zero, List.setIfInBounds_toArray, List.set_cons_zero, List.set_cons_succ]
        refine wpAnyH_take (i := 3) (v := .bool false) rfl (by kernel_rfl) (by kernel_rfl) (by kernel_rfl) (fun _ _ _ h => h) (Or.inl ⟨by rfl, fun Wz hW => by obtain ⟨s0, s1, s2, s3, s4, s5, s6, s7, s8⟩ := hW; go_simp⟩) hHeld ?_
        simp only [Act.put, List.getElem_toArray, List.getElem_cons_succ, List.getElem_cons_zero, List.setIfInBounds_toArray, List.set_cons_zero, List.set_cons_succ]
        refine wpAnyH_take (i := 4) (v := .bool false) rfl (by kernel_rfl) (by kernel_rfl) (by kernel_rfl) (fun _ _ _ h => h) (Or.inl ⟨by rfl, fun Wz hW => by obtain ⟨s0, s1, s2, s3, s4, s5, s6, s7, s8⟩ := hW; go_simp⟩) hHeld ?_
        simp only [Act.put, List.getElem_toArray, List.getElem_cons_succ, List.getElem_cons_zero, List.setIfInBounds_toArray, List.set_cons_zero, List.set_cons_succ]
        refine wpAnyH_take (i := 5) (v := .bool false) rfl (by kernel_rfl) (by kernel_rfl) (by kernel_rfl) (fun _ _ _ h => h) (Or.inl ⟨by rfl, fun Wz hW => by obtain ⟨s0, s1, s2, s3, s4, s5, s6, s7, s8⟩ := hW; go_simp⟩) hHeld ?_
        simp only [Act.put, List.getElem_toArray, List.getElem_cons_succ, List.getElem_cons_zero, List.setIfInBounds_toArray, List.set_cons_zero, List.set_cons_succ]
        refine wpAnyH_take (i := 6) (v := .bool false) rfl (by kernel_rfl) (by kernel_rfl) (by kernel_rfl) (fun _ _ _ h => h) (Or.inl ⟨by rfl, fun Wz hW => by obtain ⟨s0, s1, s2, s3, s4, s5, s6, s7, s8⟩ := hW; go_simp⟩) hHeld ?_
        simp only [Act.put, List.getElem_toArray, List.getElem_cons_succ, List.getElem_cons_zero, List.setIfInBounds_toArray, List.set_cons_zero, List.set_cons_succ]
        refine wpAnyH_take (i := 7) (v := undef) rfl (by kernel_rfl) (by kernel_rfl) (by kernel_rfl) (fun _ _ _ h => h) (Or.inr ⟨by rfl, rfl⟩) hHeld ?_
        simp only [Act.put, List.getElem_toArray, List.getElem_cons_succ, List.getElem_cons_zero, List.setIfInBounds_toArray, List.set_cons_zero, List.set_cons_succ]
        refine wpAnyH_take (i := 8) (v := undef) rfl (by kernel_rfl) (by kernel_rfl) (by kernel_rfl) (fun _ _ _ h => h) (Or.inr ⟨by rfl, rfl⟩) hHeld ?_
        simp only [Act.put, List.getElem_toArray, List.getElem_cons_succ, List.getElem_cons_zero, List.setIfInBounds_toArray, List.set_cons_zero, List.set_cons_succ]
        refine wpAnyH_take (i := 9) (v := undef) rfl (by kernel_rfl) (by kernel_rfl) (by kernel_rfl) (fun _ _ _ h => h) (Or.inr ⟨by rfl, rfl⟩) hHeld ?_
        simp only [Act.put, List.getElem_toArray, List.getElem_cons_succ, List.getElem_cons_zero, List.setIfInBounds_toArray, List.set_cons_zero, List.set_cons_succ]
        refine wpAnyH_take (i := 10) (v := undef) rfl (by kernel_rfl) (by kernel_rfl) (by kernel_rfl) (fun _ _ _ h => h) (Or.inr ⟨by rfl, rfl⟩) hHeld ?_
        simp only [Act.put, List.getElem_toArray, List.getElem_cons_succ, List.getElem_cons_zero, List.setIfInBounds_toArray, List.set_cons_zero, List.set_cons_succ]
        refine wpAnyH_take (i := 11) (v := undef) rfl (by kernel_rfl) (by kernel_rfl) (by kernel_rfl) (fun _ _ _ h => h) (Or.inr ⟨by rfl, rfl⟩) hHeld ?_
        simp only [Act.put, List.getElem_toArray, List.getElem_cons_succ, List.getElem_cons_zero, List.setIfInBounds_toArray, List.set_cons_zero, List.set_cons_succ]
        refine wpAnyH_take (i := 12) (v := undef) rfl (by kernel_rfl) (by kernel_rfl) (by kernel_rfl) (fun _ _ _ h => h) (Or.inr ⟨by rfl, rfl⟩) hHeld ?_
        simp only [Act.put, List.getElem_toArray, List.getElem_cons_succ, List.getElem_cons_zero, List.setIfInBounds_toArray, List.set_cons_zero, List.set_cons_succ]
        refine wpAnyH_take (i := 13) (v := undef) rfl (by kernel_rfl) (by kernel_rfl) (by kernel_rfl) (fun _ _ _ h => h) (Or.inr ⟨by rfl, rfl⟩) hHeld ?_
        simp only [Act.put, List.getElem_toArray, List.getElem_cons_succ, List.getElem_cons_zero, List.setIfInBounds_toArray, List.set_cons_zero, List.set_cons_succ]
        refine wpAnyH_take (i := 14) (v := .bool false) rfl (by kernel_rfl) (by kernel_rfl) (by kernel_rfl) (fun _ _ _ h => h) (Or.inl ⟨by rfl, fun Wz hW => by obtain ⟨s0, s1, s2, s3, s4, s5, s6, s7, s8⟩ := hW; go_simp⟩) hHeld ?_
        simp only [Act.put, List.getElem_toArray, List.getElem_cons_succ, List.getElem_cons_zero, List.setIfInBounds_toArray, List.set_cons_zero, List.set_cons_succ]
        refine wpAnyH_take (i := 15) (v := .bool false) rfl (by kernel_rfl) (by kernel_rfl) (by kernel_rfl) (fun _ _ _ h => h) (Or.inl ⟨by rfl, fun Wz hW => by obtain ⟨s0, s1, s2, s3, s4, s5, s6, s7, s8⟩ := hW; go_simp⟩) hHeld ?_
        simp only [Act.put, List.getElem_toArray, List.getElem_cons_succ, List.getElem_cons_zero, List.setIfInBounds_toArray, List.set_cons_zero, List.set_cons_succ]
        refine wpAnyH_take (i := 16) (v := .bool false) rfl (by kernel_rfl) (by kernel_rfl) (by kernel_rfl) (fun _ _ _ h => h) (Or.inl ⟨by rfl, fun Wz hW => by obtain ⟨s0, s1, s2, s3, s4, s5, s6, s7, s8⟩ := hW; go_simp⟩) hHeld ?_
        simp only [Act.put, List.getElem_toArray, List.getElem_cons_succ, List.getElem_cons_zero, List.setIfInBounds_toArray, List.set_cons_zero, List.set_cons_succ]
        refine wpAnyH_take (i := 17) (v := .bool false) rfl (by kernel_rfl) (by kernel_rfl) (by kernel_rfl) (fun _ _ _ h => h) (Or.inl ⟨by rfl, fun Wz hW => by obtain ⟨s0, s1, s2, s3, s4, s5, s6, s7, s8⟩ := hW; go_simp⟩) hHeld ?_
        simp only [Act.put, List.getElem_toArray, List.getElem_cons_succ, List.getElem_cons_zero, List.setIfInBounds_toArray, List.set_cons_zero, List.set_cons_succ]
        refine wpAnyH_take (i := 18) (v := .bool true) rfl (by kernel_rfl) (by kernel_rfl) (by kernel_rfl) (fun _ _ _ h => h) (Or.inl ⟨by rfl, fun Wz hW => by obtain ⟨s0, s1, s2, s3, s4, s5, s6, s7, s8⟩ := hW; go_simp⟩) hHeld ?_
        simp only [Act.put, List.getElem_toArray, List.getElem_cons_succ, List.getElem_cons_zero, List.setIfInBounds_toArray, List.set_cons_zero, List.set_cons_succ]
        refine wpAnyH_take (i := 19) (v := .bool true) rfl (by kernel_rfl) (by kernel_rfl) (by kernel_rfl) (fun _ _ _ h => h) (Or.inl ⟨by rfl, fun Wz hW => by obtain ⟨s0, s1, s2, s3, s4, s5, s6, s7, s8⟩ := hW; go_simp⟩) hHeld ?_
        simp only [Act.put, List.getElem_toArray, List.getElem_cons_succ, List.getElem_cons_zero, List.setIfInBounds_toArray, List.set_cons_zero, List.set_cons_succ]
        refine wpAnyH_take (i := 20) (v := .agg #[.int .i64 r.k, .int .i64 r.p, .bool r.f, .int .i64 r.g, .slice r.A r.m r.c, .int .i64 r.a, .int .i64 r.h, .int .i64 r.d, .int .i64 r.t]) rfl (by kernel_rfl) (by kernel_rfl) (by kernel_rfl) (fun _ _ _ h => h) (Or.inl ⟨by rfl, fun Wz hW => by obtain ⟨s0, s1, s2, s3, s4, s5, s6, s7, s8⟩ := hW; go_simp⟩) hHeld ?_
        simp only [Act.put, List.getElem_toArray, List.getElem_cons_succ, List.getElem_cons_zero, List.setIfInBounds_toArray, List.set_cons_zero, List.set_cons_succ]
        refine wpAnyH_take (i := 21) (v := .agg #[.int .i64 0, .int .i64 0, .bool false, .int .i64 0, .slice none 0 0, .int .i64 0, .int .i64 0, .int .i64 0, .int .i64 0]) rfl (by kernel_rfl) (by kernel_rfl) (by kernel_rfl) (fun _ _ _ h => h) (Or.inl ⟨by rfl, fun Wz hW => by obtain ⟨s0, s1, s2, s3, s4, s5, s6, s7, s8⟩ := hW; go_simp⟩) hHeld ?_
        simp only [Act.put, List.getElem_toArray, List.getElem_cons_succ, List.getElem_cons_zero, List.setIfInBounds_toArray, List.set_cons_zero, List.set_cons_succ]
        refine wpAnyH_ready (rs := [22]) (by kernel_rfl) (by simp) ?_
        refine AllReadyH.cons rfl (fun K hK => ?_) AllReadyH.nil
        simp only [List.getElem_toArray, List.getElem_cons_succ, List.getElem_cons_zero]
        rw [if_pos (by rfl)]
        go_simp
        refine (cY.out _ (by repeat (with_reducible first | exact Keep.refl w9 | apply Keep.alloc | apply Keep.drew | apply Keep.drewN))).mono ?_
        rintro e w10 ⟨rfl, k10⟩; replace k10 := Lib.hid k10
        go_wp2_with fail
        refine hK.out _ _ ?_ (fun hHeld => ?_)
        · exact HELD _ (by repeat (with_reducible first | exact Keep.refl w9 | apply Keep.alloc | apply Keep.drew | apply Keep.drewN | (refine Keep.trans ?_ k10.out)))
        clear hK K
        try simp only [Act.put, List.getElem_toArray, List.getElem_cons_succ, List.getElem_cons_zero, List.setIfInBounds_toArray, List.set_cons_zero, List.set_cons_succ]
        refine wpAnyH_take (i := 23) (v := .bool false) rfl (by kernel_rfl) (by kernel_rfl) (by kernel_rfl) (fun _ _ _ h => h) (Or.inl ⟨by rfl, fun Wz hW => by obtain ⟨s0, s1, s2, s3, s4, s5, s6, s7, s8⟩ := hW; go_simp⟩) hHeld ?_
        simp only [Act.put, List.getElem_toArray, List.getElem_cons_succ, List.getElem_cons_zero, List.setIfInBounds_toArray, List.set_cons_zero, List.set_cons_succ]
        refine wpAnyH_take (i := 24) (v := .bool false) rfl (by kernel_rfl) (by kernel_rfl) (by kernel_rfl) (fun _ _ _ h => h) (Or.inl ⟨by rfl, fun Wz hW => by obtain ⟨s0, s1, s2, s3, s4, s5, s6, s7, s8⟩ := hW; go_simp⟩) hHeld ?_
        simp only [Act.put, List.getElem_toArray, List.getElem_cons_succ, List.getElem_cons_zero, List.setIfInBounds_toArray, List.set_cons_zero, List.set_cons_succ]
        refine wpAnyH_take (i := 25) (v := .bool false) rfl (by kernel_rfl) (by kernel_rfl) (by kernel_rfl) (fun _ _ _ h => h) (Or.inl ⟨by rfl, fun Wz hW => by obtain ⟨s0, s1, s2, s3, s4, s5, s6, s7, s8⟩ := hW; go_simp⟩) hHeld ?_
        simp only [Act.put, List.getElem_toArray, List.getElem_cons_succ, List.getElem_cons_zero, List.setIfInBounds_toArray, List.set_cons_zero, List.set_cons_succ]
        refine wpAnyH_done (by kernel_rfl) ?_ _
        clear p0 p1 p2 p3 p4 p5 p6 p7 p8
        obtain ⟨w11, hw11⟩ : ∃ W, W = w10 := ⟨_, rfl⟩
        have K11 : Hid (Keep w4 w11) := by rw [hw11]; exact K9.out.trans (by repeat (with_reducible first | exact Keep.refl w9 | apply Keep.alloc | apply Keep.drew | apply Keep.drewN | (refine Keep.trans ?_ k10.out)))
        subst hw11
        have Z0 := (hR.out.keep ((C.kp S4.out.o).trans K11.out)).at hlt
        rw [← hx.out] at Z0
        have z0 := Z0.n
        clear Z0
        have cO : Hid (∀ W, Keep w11 W → Calls Tryd.prog 18 #[.pointer (some ⟨q, 0, none⟩), .int .i64 x.nd] W fun e w' => ∃ v S, e = .returned v ∧ RowP w' W.heap.size v f S ∧ (lst S f).map nm = FF ∧ Keep W w') := fun W k => by rw [hf2.out, hFF.out]; exact C.on x.nd (C.keep S4.out.o (K11.out.trans k)) S4.out.m3 (by rw [hlen4.out]; omega)
        have cR : Hid (∀ W, Keep w11 W → Calls Tryd.prog 19 #[.slice B4 m4 d4, .int .i64 x.nd] W fun e w' => ∃ B d, e = .returned (.slice B f d) ∧ Keep W w' ∧ RdPods w' B f (row GG)) := fun W k => by
          refine (ron_fn _ m4 d4 Q4 x.nd W (S4.out.r.rd.keep (K11.out.trans k)) (by omega)).mono ?_
          rintro e w' ⟨B', d', rfl, k2, r2, _⟩
          rw [← hGG.out, hfl.out] at r2 ⊢
          exact ⟨B', d', rfl, k2, r2⟩
        obtain ⟨oo, hoo⟩ : ∃ oo, oo = off + i * 12 := ⟨_, rfl⟩
        rw [← hoo] at q1 z0
        replace hoo := Lib.hid hoo
        go_wp2
        have HELD : ∀ Wz, Keep w11 Wz → (Wz.cell? ⟨b, oo + 10, none⟩ = some (.int .i64 x.nd)) := fun Wz KK => KK.cell z0
        refine wp_region_held_drew (S := fun w' => w'.cell? ⟨b, oo + 10, none⟩ = some (.int .i64 x.nd)) (by kernel_rfl) ?_ (fun hHeld => ?_)
        · exact HELD _ (by repeat (with_reducible first | exact Keep.refl w11 | apply Keep.alloc | apply Keep.drew | apply Keep.drewN))
        refine wpAnyH_take (i := 0) (v := .pointer (some ⟨q, 0, none⟩)) rfl (by kernel_rfl) (by kernel_rfl) (by kernel_rfl) (fun _ _ _ h => h) (Or.inl ⟨by rfl, fun Wz hW => by obtain s0 := hW; go_simp⟩) hHeld ?_
        simp only [Act.put, List.getElem_toArray, List.getElem_cons_zero, List.setIfInBounds_toArray, List.set_cons_zero, List.set_cons_succ]
        refine wpAnyH_take (i := 1) (v := .slice (some ⟨b, off, none⟩) n c) rfl (by kernel_rfl) (by kernel_rfl) (by kernel_rfl) (fun _ _ _ h => h) (Or.inl ⟨by rfl, fun Wz hW => by obtain s0 := hW; go_simp⟩) hHeld ?_
        simp only [Act.put, List.getElem_toArray, List.getElem_cons_succ, List.getElem_cons_zero, List.setIfInBounds_toArray, List.set_cons_zero, List.set_cons_succ]
        refine wpAnyH_take (i := 2) (v := .int .i64 i) rfl (by kernel_rfl) (by kernel_rfl) (by kernel_rfl) (fun _ _ _ h => h) (Or.inl ⟨by rfl, fun Wz hW => by obtain s0 := hW; go_simp⟩) hHeld ?_
        simp only [Act.put, List.getElem_toArray, List.getElem_cons_succ, List.getElem_cons_zero, List.setIfInBounds_toArray, List.set_cons_zero, List.set_cons_succ]
        refine wpAnyH_take (i := 3) (v := .pointer (some ⟨b, oo, none⟩)) rfl (by kernel_rfl) (by kernel_rfl) (by kernel_rfl) (fun _ _ _ h => h) (Or.inl ⟨by rfl, fun Wz hW => by obtain s0 := hW; go_simp⟩) hHeld ?_
        simp only [Act.put, List.getElem_toArray, List.getElem_cons_succ, List.getElem_cons_zero, List.setIfInBounds_toArray, List.set_cons_zero, List.set_cons_succ]
        refine wpAnyH_take (i := 4) (v := .pointer (some ⟨b, oo + 10, none⟩)) rfl (by kernel_rfl) (by kernel_rfl) (by kernel_rfl) (fun _ _ _ h => h) (Or.inl ⟨by rfl, fun Wz hW => by obtain s0 := hW; go_simp⟩) hHeld ?_
        simp only [Act.put, List.getElem_toArray, List.getElem_cons_succ, List.getElem_cons_zero, List.setIfInBounds_toArray, List.set_cons_zero, List.set_cons_succ]
        refine wpAnyH_take (i := 5) (v := .int .i64 x.nd) rfl (by kernel_rfl) (by kernel_rfl) (by kernel_rfl) (fun _ _ _ h => h) (Or.inl ⟨by rfl, fun Wz hW => by obtain s0 := hW; go_simp⟩) hHeld ?_
        simp only [Act.put, List.getElem_toArray, List.getElem_cons_succ, List.getElem_cons_zero, List.setIfInBounds_toArray, List.set_cons_zero, List.set_cons_succ]
        refine wpAnyH_take (i := 7) (v := .slice B4 m4 d4) rfl (by kernel_rfl) (by kernel_rfl) (by kernel_rfl) (fun _ _ _ h => h) (Or.inl ⟨by rfl, fun Wz hW => by obtain s0 := hW; go_simp⟩) hHeld ?_
        simp only [Act.put, List.getElem_toArray, List.getElem_cons_succ, List.getElem_cons_zero, List.setIfInBounds_toArray, List.set_cons_zero, List.set_cons_succ]
        refine wpAnyH_take (i := 8) (v := .slice (some ⟨b, off, none⟩) n c) rfl (by kernel_rfl) (by kernel_rfl) (by kernel_rfl) (fun _ _ _ h => h) (Or.inl ⟨by rfl, fun Wz hW => by obtain s0 := hW; go_simp⟩) hHeld ?_
        simp only [Act.put, List.getElem_toArray, List.getElem_cons_succ, List.getElem_cons_zero, List.setIfInBounds_toArray, List.set_cons_zero, List.set_cons_succ]
        refine wpAnyH_take (i := 9) (v := .int .i64 i) rfl (by kernel_rfl) (by kernel_rfl) (by kernel_rfl) (fun _ _ _ h => h) (Or.inl ⟨by rfl, fun Wz hW => by obtain s0 := hW; go_simp⟩) hHeld ?_
        simp only [Act.put, List.getElem_toArray, List.getElem_cons_succ, List.getElem_cons_zero, List.setIfInBounds_toArray, List.set_cons_zero, List.set_cons_succ]
        refine wpAnyH_take (i := 10) (v := .pointer (some ⟨b, oo, none⟩)) rfl (by kernel_rfl) (by kernel_rfl) (by kernel_rfl) (fun _ _ _ h => h) (Or.inl ⟨by rfl, fun Wz hW => by obtain s0 := hW; go_simp⟩) hHeld ?_
        simp only [Act.put, List.getElem_toArray, List.getElem_cons_succ, List.getElem_cons_zero, List.setIfInBounds_toArray, List.set_cons_zero, List.set_cons_succ]
        refine wpAnyH_take (i := 11) (v := .pointer (some ⟨b, oo + 10, none⟩)) rfl (by kernel_rfl) (by kernel_rfl) (by kernel_rfl) (fun _ _ _ h => h) (Or.inl ⟨by rfl, fun Wz hW => by obtain s0 := hW; go_simp⟩) hHeld ?_
        simp only [Act.put, List.getElem_toArray, List.getElem_cons_succ, List.getElem_cons_zero, List.setIfInBounds_toArray, List.set_cons_zero, List.set_cons_succ]
        refine wpAnyH_take (i := 12) (v := .int .i64 x.nd) rfl (by kernel_rfl) (by kernel_rfl) (by kernel_rfl) (fun _ _ _ h => h) (Or.inl ⟨by rfl, fun Wz hW => by obtain s0 := hW; go_simp⟩) hHeld ?_
        simp only [Act.put, List.getElem_toArray, List.getElem_cons_succ, List.getElem_cons_zero, List.setIfInBounds_toArray, List.set_cons_zero, List.set_cons_succ]
        refine wpAnyH_ready (rs := [6]) (by kernel_rfl) (by simp) ?_
        refine AllReadyH.cons rfl (fun K hK => ?_) AllReadyH.nil
        simp only [List.getElem_toArray, List.getElem_cons_succ, List.getElem_cons_zero]
        rw [if_pos (by rfl)]
        go_simp
        refine (cO.out _ (by repeat (with_reducible first | exact Keep.refl w11 | apply Keep.alloc | apply Keep.drew | apply Keep.drewN))).mono ?_
        rintro e w12 ⟨v12, T12, rfl, R12, E12, k12⟩; obtain ⟨A12, d12, rfl, D12⟩ := R12.rd (by omega); replace R12 := Lib.hid R12; replace D12 := Lib.hid D12; replace E12 := Lib.hid E12; replace k12 := Lib.hid k12
        go_wp2_with fail
        refine hK.out _ _ ?_ (fun hHeld => ?_)
        · exact HELD _ (by repeat (with_reducible first | exact Keep.refl w11 | apply Keep.alloc | apply Keep.drew | apply Keep.drewN | (refine Keep.trans ?_ k12.out)))
        clear hK K
        try simp only [Act.put, List.getElem_toArray, List.getElem_cons_succ, List.getElem_cons_zero, List.setIfInBounds_toArray, List.set_cons_zero, List.set_cons_succ]
        refine wpAnyH_ready (rs := [13]) (by kernel_rfl) (by simp) ?_
        refine AllReadyH.cons rfl (fun K hK => ?_) AllReadyH.nil
        simp only [List.getElem_toArray, List.getElem_cons_succ, List.getElem_cons_zero]
        rw [if_pos (by rfl)]
        go_simp
        refine (cR.out _ (by repeat (with_reducible first | exact Keep.refl w11 | apply Keep.alloc | apply Keep.drew | apply Keep.drewN | (refine Keep.trans ?_ k12.out)))).mono ?_
        rintro e w13 ⟨B13, d13, rfl, k13, R13⟩; have cS : Hid (∀ W, Keep w13 W → Calls Tryd.prog 12 #[.slice A12 f d12, .slice B13 f d13] W fun e w' => e = .returned (.bool true) ∧ Keep W w') := fun W k => st_same (c := d12) (d := d13) hsame.out (m := f) (by rw [hfl.out]) E12.out ((D12.out.keep (Keep.trans (by repeat (with_reducible first | exact Keep.refl w12 | apply Keep.alloc | apply Keep.drew | apply Keep.drewN)) k13)).keep k) (R13.keep k); replace R13 := Lib.hid R13; replace k13 := Lib.hid k13
        go_wp2_with fail
        refine hK.out _ _ ?_ (fun hHeld => ?_)
        · exact HELD _ (by repeat (with_reducible first | exact Keep.refl w11 | apply Keep.alloc | apply Keep.drew | apply Keep.drewN | (refine Keep.trans ?_ k12.out) | (refine Keep.trans ?_ k13.out)))
        clear hK K
        try simp only [Act.put, List.getElem_toArray, List.getElem_cons_succ, List.getElem_cons_zero, List.setIfInBounds_toArray, List.set_cons_zero, List.set_cons_succ]
        refine wpAnyH_ready (rs := [14]) (by kernel_rfl) (by simp) ?_
        refine AllReadyH.cons rfl (fun K hK => ?_) AllReadyH.nil
        simp only [List.getElem_toArray, List.getElem_cons_succ, List.getElem_cons_zero]
        rw [if_pos (by rfl)]
        go_simp
        refine (cS.out _ (by repeat (with_reducible first | exact Keep.refl w13 | apply Keep.alloc | apply Keep.drew | apply Keep.drewN | (refine Keep.trans ?_ k12.out) | (refine Keep.trans ?_ k13.out)))).mono ?_
        rintro e w14 ⟨rfl, k14⟩; replace k14 := Lib.hid k14
        go_wp2_with fail
        refine hK.out _ _ ?_ (fun hHeld => ?_)
        · exact HELD _ (by repeat (with_reducible first | exact Keep.refl w11 | apply Keep.alloc | apply Keep.drew | apply Keep.drewN | (refine Keep.trans ?_ k12.out) | (refine Keep.trans ?_ k13.out) | (refine Keep.trans ?_ k14.out)))
        clear hK K
        try simp only [Act.put, List.getElem_toArray, List.getElem_cons_succ, List.getElem_cons_zero, List.setIfInBounds_toArray, List.set_cons_zero, List.set_cons_succ]
        refine wpAnyH_take (i := 15) (v := .bool false) rfl (by kernel_rfl) (by kernel_rfl) (by kernel_rfl) (fun _ _ _ h => h) (Or.inl ⟨by rfl, fun Wz hW => by obtain s0 := hW; go_simp⟩) hHeld ?_
        simp only [Act.put, List.getElem_toArray, List.getElem_cons_succ, List.getElem_cons_zero, List.setIfInBounds_toArray, List.set_cons_zero, List.set_cons_succ]
        refine wpAnyH_done (by kernel_rfl) ?_ _
        go_wp2
        go_roundg (n - (i + 1))
        case measure => omega
        case rel => exact ⟨i + 1, m4, B4, d4, Q4, _, X4, hlt, rfl, by go_num, rfl, rfl, by omega, St.keep C S4.out (K11.out.trans (by repeat (with_reducible first | exact Keep.refl w11 | apply Keep.alloc | apply Keep.drew | apply Keep.drewN | (refine Keep.trans ?_ k12.out) | (refine Keep.trans ?_ k13.out) | (refine Keep.trans ?_ k14.out))))⟩
      · rw [show decide (x.x.k ∈ keys M2) = true from decide_eq_true hk]
        replace hk := Lib.hid hk
        have hm0 : 0 < m4 := by obtain ⟨t, ht, _⟩ := hcase; omega
        obtain ⟨gb, g0, eB, _⟩ := RP9.out.adr hm0
        subst eB
        obtain ⟨t, ht, h1, h2⟩ := hcase
        have q2 := pods_at gb g0 m4 d4 t ht
        obtain ⟨y, hy⟩ : ∃ y, y = Q4 t := ⟨_, rfl⟩
        have Y := (RP9.out.at ht)
        have IY := RP9.out.is t ht
        rw [← hy] at h2 Y IY
        have hsv := Lib.hid (same_nm (NE.out.trans h2.symm))
        have cY : Hid (∀ W', Keep w9 W' → Calls Tryd.prog 17 #[r.val, y.val] W' fun e w' => e = .returned (.bool true) ∧ Keep W' w') := fun W' k => (rsamepod_fn r y W' hsv.out (IR9.out.keep k) (IY.keep k)).mono fun _ _ h => ⟨h.1, h.2.keep⟩
        obtain ⟨go, hgo⟩ : ∃ go, go = g0 + t * 9 := ⟨_, rfl⟩
        rw [← hgo] at q2 Y
        have y0 := Y.e0; have y1 := Y.e1; have y2 := Y.e2; have y3 := Y.e3; have y4 := Y.e4; have y5 := Y.e5; have y6 := Y.e6; have y7 := Y.e7; have y8 := Y.e8
        clear Y
        replace hgo := Lib.hid hgo
        replace hy := Lib.hid hy
        replace IY := Lib.hid IY
        replace h2 := Lib.hid h2
        unfold PodV.val at cY
        have cN := Lib.hid (rfind_fn _ m4 d4 Q4 x.x.k w9 RP9.out)
        rw [h1] at cN
        replace h1 := Lib.hid h1
        go_wp2_with fail
        rw [← hw9]
        rw [← hpb]
        replace hw9 := Lib.hid hw9
        replace hpb := Lib.hid hpb
        refine cN.out.mono ?_
        rintro e w10' ⟨rfl, rfl⟩
        clear v1 hbl cN
        have p0 := P0.out; have p1 := P1.out; have p2 := P2.out; have p3 := P3.out; have p4 := P4.out; have p5 := P5.out; have p6 := P6.out; have p7 := P7.out; have p8 := P8.out
        go_wp2
        have HELD : ∀ Wz, Keep w9 Wz → (Wz.cell? ⟨pb, 0, none⟩ = some (.int .i64 r.k) ∧ Wz.cell? ⟨pb, 1, none⟩ = some (.int .i64 r.p) ∧ Wz.cell? ⟨pb, 2, none⟩ = some (.bool r.f) ∧ Wz.cell? ⟨pb, 3, none⟩ = some (.int .i64 r.g) ∧ Wz.cell? ⟨pb, 4, none⟩ = some (.slice r.A r.m r.c) ∧ Wz.cell? ⟨pb, 5, none⟩ = some (.int .i64 r.a) ∧ Wz.cell? ⟨pb, 6, none⟩ = some (.int .i64 r.h) ∧ Wz.cell? ⟨pb, 7, none⟩ = some (.int .i64 r.d) ∧ Wz.cell? ⟨pb, 8, none⟩ = some (.int .i64 r.t) ∧ Wz.cell? ⟨gb, go, none⟩ = some (.int .i64 y.k) ∧ Wz.cell? ⟨gb, go + 1, none⟩ = some (.int .i64 y.p) ∧ Wz.cell? ⟨gb, go + 2, none⟩ = some (.bool y.f) ∧ Wz.cell? ⟨gb, go + 3, none⟩ = some (.int .i64 y.g) ∧ Wz.cell? ⟨gb, go + 4, none⟩ = some (.slice y.A y.m y.c) ∧ Wz.cell? ⟨gb, go + 5, none⟩ = some (.int .i64 y.a) ∧ Wz.cell? ⟨gb, go + 6, none⟩ = some (.int .i64 y.h) ∧ Wz.cell? ⟨gb, go + 7, none⟩ = some (.int .i64 y.d) ∧ Wz.cell? ⟨gb, go + 8, none⟩ = some (.int .i64 y.t)) := fun Wz KK => ⟨KK.cell p0, KK.cell p1, KK.cell p2, KK.cell p3, KK.cell p4, KK.cell p5, KK.cell p6, KK.cell p7, KK.cell p8, KK.cell y0, KK.cell y1, KK.cell y2, KK.cell y3, KK.cell y4, KK.cell y5, KK.cell y6, KK.cell y7, KK.cell y8⟩
        refine wp_region_held_drew (S := fun w' => w'.cell? ⟨pb, 0, none⟩ = some (.int .i64 r.k) ∧ w'.cell? ⟨pb, 1, none⟩ = some (.int .i64 r.p) ∧ w'.cell? ⟨pb, 2, none⟩ = some (.bool r.f) ∧ w'.cell? ⟨pb, 3, none⟩ = some (.int .i64 r.g) ∧ w'.cell? ⟨pb, 4, none⟩ = some (.slice r.A r.m r.c) ∧ w'.cell? ⟨pb, 5, none⟩ = some (.int .i64 r.a) ∧ w'.cell? ⟨pb, 6, none⟩ = some (.int .i64 r.h) ∧ w'.cell? ⟨pb, 7, none⟩ = some (.int .i64 r.d) ∧ w'.cell? ⟨pb, 8, none⟩ = some (.int .i64 r.t) ∧ w'.cell? ⟨gb, go, none⟩ = some (.int .i64 y.k) ∧ w'.cell? ⟨gb, go + 1, none⟩ = some (.int .i64 y.p) ∧ w'.cell? ⟨gb, go + 2, none⟩ = some (.bool y.f) ∧ w'.cell? ⟨gb, go + 3, none⟩ = some (.int .i64 y.g) ∧ w'.cell? ⟨gb, go + 4, none⟩ = some (.slice y.A y.m y.c) ∧ w'.cell? ⟨gb, go + 5, none⟩ = some (.int .i64 y.a) ∧ w'.cell? ⟨gb, go + 6, none⟩ = some (.int .i64 y.h) ∧ w'.cell? ⟨gb, go + 7, none⟩ = some (.int .i64 y.d) ∧ w'.cell? ⟨gb, go + 8, none⟩ = some (.int .i64 y.t)) (by kernel_rfl) ?_ (fun hHeld => ?_)
        · exact HELD _ (by repeat (with_reducible first | exact Keep.refl w9 | apply Keep.alloc | apply Keep.drew | apply Keep.drewN))
        refine wpAnyH_take (i := 0) (v := .bool true) rfl (by kernel_rfl) (by kernel_rfl) (by kernel_rfl) (fun _ _ _ h => h) (Or.inl ⟨by rfl, fun Wz hW => by obtain ⟨s0, s1, s2, s3, s4, s5, s6, s7, s8, s9, s10, s11, s12, s13, s14, s15, s16, s17⟩ := hW; go_simp⟩) hHeld ?_
        simp only [Act.put, List.getElem_toArray, List.getElem_cons_zero, List.setIfInBounds_toArray, List.set_cons_zero, List.set_cons_succ]
        refine wpAnyH_take (i := 1) (v := .int .i64 t) rfl (by kernel_rfl) (by kernel_rfl) (by kernel_rfl) (fun _ _ _ h => h) (Or.inl ⟨by rfl, fun Wz hW => by obtain ⟨s0, s1, s2, s3, s4, s5, s6, s7, s8, s9, s10, s11, s12, s13, s14, s15, s16, s17⟩ := hW; go_simp⟩) hHeld ?_
        simp only [Act.put, List.getElem_toArray, List.getElem_cons_succ, List.getElem_cons_zero, List.setIfInBounds_toArray, List.set_cons_zero, List.set_cons_succ]
        refine wpAnyH_take (i := 2) (v := .bool true) rfl (by kernel_rfl) (by kernel_rfl) (by kernel_rfl) (fun _ _ _ h => h) (Or.inl ⟨by rfl, fun Wz hW => by obtain ⟨s0, s1, s2, s3, s4, s5, s6, s7, s8, s9, s10, s11, s12, s13, s14, s15, s16, s17⟩ := hW; go_simp⟩) hHeld ?_
        simp only [Act.put, List.getElem_toArray, List.getElem_cons_succ, List.getElem_cons_zero, List.setIfInBounds_toArray, List.set_cons_zero, List.set_cons_succ]
        refine wpAnyH_take (i := 3) (v := .bool false) rfl (by kernel_rfl) (by kernel_rfl) (by kernel_rfl) (fun _ _ _ h => h) (Or.inl ⟨by rfl, fun Wz hW => by obtain ⟨s0, s1, s2, s3, s4, s5, s6, s7, s8, s9, s10, s11, s12, s13, s14, s15, s16, s17⟩ := hW; go_simp⟩) hHeld ?_
        simp only [Act.put, List.getElem_toArray, List.getElem_cons_succ, List.getElem_cons_zero, List.setIfInBounds_toArray, List.set_cons_zero, List.set_cons_succ]
        refine wpAnyH_take (i := 4) (v := .bool false) rfl (by kernel_rfl) (by kernel_rfl) (by kernel_rfl) (fun _ _ _ h => h) (Or.inl ⟨by rfl, fun Wz hW => by obtain ⟨s0, s1, s2, s3, s4, s5, s6, s7, s8, s9, s10, s11, s12, s13, s14, s15, s16, s17⟩ := hW; go_simp⟩) hHeld ?_
        simp only [Act.put, List.getElem_toArray, List.getElem_cons_succ, List.getElem_cons_zero, List.setIfInBounds_toArray, List.set_cons_zero, List.set_cons_succ]
        refine wpAnyH_take (i := 5) (v := .bool true) rfl (by kernel_rfl) (by kernel_rfl) (by kernel_rfl) (fun _ _ _ h => h) (Or.inl ⟨by rfl, fun Wz hW => by obtain ⟨s0, s1, s2, s3, s4, s5, s6, s7, s8, s9, s10, s11, s12, s13, s14, s15, s16, s17⟩ := hW; go_simp⟩) hHeld ?_
        simp only [Act.put, List.getElem_toArray, List.getElem_cons_succ, List.getElem_cons_zero, List.setIfInBounds_toArray, List.set_cons_zero, List.set_cons_succ]
        refine wpAnyH_take (i := 6) (v := .bool true) rfl (by kernel_rfl) (by kernel_rfl) (by kernel_rfl) (fun _ _ _ h => h) (Or.inl ⟨by rfl, fun Wz hW => by obtain ⟨s0, s1, s2, s3, s4, s5, s6, s7, s8, s9, s10, s11, s12, s13, s14, s15, s16, s17⟩ := hW; go_simp⟩) hHeld ?_
        simp only [Act.put, List.getElem_toArray, List.getElem_cons_succ, List.getElem_cons_zero, List.setIfInBounds_toArray, List.set_cons_zero, List.set_cons_succ]
        refine wpAnyH_take (i := 7) (v := .agg #[.int .i64 r.k, .int .i64 r.p, .bool r.f, .int .i64 r.g, .slice r.A r.m r.c, .int .i64 r.a, .int .i64 r.h, .int .i64 r.d, .int .i64 r.t]) rfl (by kernel_rfl) (by kernel_rfl) (by kernel_rfl) (fun _ _ _ h => h) (Or.inl ⟨by rfl, fun Wz hW => by obtain ⟨s0, s1, s2, s3, s4, s5, s6, s7, s8, s9, s10, s11, s12, s13, s14, s15, s16, s17⟩ := hW; go_simp⟩) hHeld ?_
        simp only [Act.put, List.getElem_toArray, List.getElem_cons_succ, List.getElem_cons_zero, List.setIfInBounds_toArray, List.set_cons_zero, List.set_cons_succ]
        refine wpAnyH_take (i := 8) (v := .slice (some ⟨gb, g0, none⟩) m4 d4) rfl (by kernel_rfl) (by kernel_rfl) (by kernel_rfl) (fun _ _ _ h => h) (Or.inl ⟨by rfl, fun Wz hW => by obtain ⟨s0, s1, s2, s3, s4, s5, s6, s7, s8, s9, s10, s11, s12, s13, s14, s15, s16, s17⟩ := hW; go_simp⟩) hHeld ?_
        simp only [Act.put, List.getElem_toArray, List.getElem_cons_succ, List.getElem_cons_zero, List.setIfInBounds_toArray, List.set_cons_zero, List.set_cons_succ]
        refine wpAnyH_take (i := 9) (v := .int .i64 t) rfl (by kernel_rfl) (by kernel_rfl) (by kernel_rfl) (fun _ _ _ h => h) (Or.inl ⟨by rfl, fun Wz hW => by obtain ⟨s0, s1, s2, s3, s4, s5, s6, s7, s8, s9, s10, s11, s12, s13, s14, s15, s16, s17⟩ := hW; go_simp⟩) hHeld ?_
        simp only [Act.put, List.getElem_toArray, List.getElem_cons_succ, List.getElem_cons_zero, List.setIfInBounds_toArray, List.set_cons_zero, List.set_cons_succ]
        refine wpAnyH_take (i := 10) (v := .pointer (some ⟨gb, go, none⟩)) rfl (by kernel_rfl) (by kernel_rfl) (by kernel_rfl) (fun _ _ _ h => h) (Or.inl ⟨by rfl, fun Wz hW => by obtain ⟨s0, s1, s2, s3, s4, s5, s6, s7, s8, s9, s10, s11, s12, s13, s14, s15, s16, s17⟩ := hW; go_simp⟩) hHeld ?_
        simp only [Act.put, List.getElem_toArray, List.getElem_cons_succ, List.getElem_cons_zero, List.setIfInBounds_toArray, List.set_cons_zero, List.set_cons_succ]
        refine wpAnyH_take (i := 11) (v := .agg #[.int .i64 y.k, .int .i64 y.p, .bool y.f, .int .i64 y.g, .slice y.A y.m y.c, .int .i64 y.a, .int .i64 y.h, .int .i64 y.d, .int .i64 y.t]) rfl (by kernel_rfl) (by kernel_rfl) (by kernel_rfl) (fun _ _ _ h => h) (Or.inl ⟨by rfl, fun Wz hW => by obtain ⟨s0, s1, s2, s3, s4, s5, s6, s7, s8, s9, s10, s11, s12, s13, s14, s15, s16, s17⟩ := hW; go_simp⟩) hHeld ?_
        simp only [Act.put, List.getElem_toArray, List.getElem_cons_succ, List.getElem_cons_zero, List.setIfInBounds_toArray, List.set_cons_zero, List.set_cons_succ]
        refine wpAnyH_ready (rs := [12]) (by kernel_rfl) (by simp) ?_
        refine AllReadyH.cons rfl (fun K hK => ?_) AllReadyH.nil
        simp only [List.getElem_toArray, List.getElem_cons_succ, List.getElem_cons_zero]
        rw [if_pos (by rfl)]
        go_simp
        refine (cY.out _ (by repeat (with_reducible first | exact Keep.refl w9 | apply Keep.alloc | apply Keep.drew | apply Keep.drewN))).mono ?_
        rintro e w10 ⟨rfl, k10⟩; replace k10 := Lib.hid k10
        go_wp2_with fail
        refine hK.out _ _ ?_ (fun hHeld => ?_)
        · exact HELD _ (by repeat (with_reducible first | exact Keep.refl w9 | apply Keep.alloc | apply Keep.drew | apply Keep.drewN | (refine Keep.trans ?_ k10.out)))
        clear hK K
        try simp only [Act.put, List.getElem_toArray, List.getElem_cons_succ, List.getElem_cons_zero, List.setIfInBounds_toArray, List.set_cons_zero, List.set_cons_succ]
        refine wpAnyH_take (i := 13) (v := .bool false) rfl (by kernel_rfl) (by kernel_rfl) (by kernel_rfl) (fun _ _ _ h => h) (Or.inl ⟨by rfl, fun Wz hW => by obtain ⟨s0, s1, s2, s3, s4, s5, s6, s7, s8, s9, s10, s11, s12, s13, s14, s15, s16, s17⟩ := hW; go_simp⟩) hHeld ?_
        simp only [Act.put, List.getElem_toArray, List.getElem_cons_succ, List.getElem_cons_zero, List.setIfInBounds_toArray, List.set_cons_zero, List.set_cons_succ]
        refine wpAnyH_take (i := 14) (v := .bool false) rfl (by kernel_rfl) (by kernel_rfl) (by kernel_rfl) (fun _ _ _ h => h) (Or.inl ⟨by rfl, fun Wz hW => by obtain ⟨s0, s1, s2, s3, s4, s5, s6, s7, s8, s9, s10, s11, s12, s13, s14, s15, s16, s17⟩ := hW; go_simp⟩) hHeld ?_
        simp only [Act.put, List.getElem_toArray, List.getElem_cons_succ, List.getElem_cons_zero, List.setIfInBounds_toArray, List.set_cons_zero, List.set_cons_succ]
        refine wpAnyH_take (i := 15) (v := .bool false) rfl (by kernel_rfl) (by kernel_rfl) (by kernel_rfl) (fun _ _ _ h => h) (Or.inl ⟨by rfl, fun Wz hW => by obtain ⟨s0, s1, s2, s3, s4, s5, s6, s7, s8, s9, s10, s11, s12, s13, s14, s15, s16, s17⟩ := hW; go_simp⟩) hHeld ?_
        simp only [Act.put, List.getElem_toArray, List.getElem_cons_succ, List.getElem_cons_zero, List.setIfInBounds_toArray, List.set_cons_zero, List.set_cons_succ]
        refine wpAnyH_take (i := 16) (v := .bool false) rfl (by kernel_rfl) (by kernel_rfl) (by kernel_rfl) (fun _ _ _ h => h) (Or.inl ⟨by rfl, fun Wz hW => by obtain ⟨s0, s1, s2, s3, s4, s5, s6, s7, s8, s9, s10, s11, s12, s13, s14, s15, s16, s17⟩ := hW; go_simp⟩) hHeld ?_
        simp only [Act.put, List.getElem_toArray, List.getElem_cons_succ, List.getElem_cons_zero, List.setIfInBounds_toArray, List.set_cons_zero, List.set_cons_succ]
        refine wpAnyH_take (i := 17) (v := .bool true) rfl (by kernel_rfl) (by kernel_rfl) (by kernel_rfl) (fun _ _ _ h => h) (Or.inl ⟨by rfl, fun Wz hW => by obtain ⟨s0, s1, s2, s3, s4, s5, s6, s7, s8, s9, s10, s11, s12, s13, s14, s15, s16, s17⟩ := hW; go_simp⟩) hHeld ?_
        simp only [Act.put, List.getElem_toArray, List.getElem_cons_succ, List.getElem_cons_zero, List.setIfInBounds_toArray, List.set_cons_zero, List.set_cons_succ]
        refine wpAnyH_take (i := 18) (v := .bool false) rfl (by kernel_rfl) (by kernel_rfl) (by kernel_rfl) (fun _ _ _ h => h) (Or.inl ⟨by rfl, fun Wz hW => by obtain ⟨s0, s1, s2, s3, s4, s5, s6, s7, s8, s9, s10, s11, s12, s13, s14, s15, s16, s17⟩ := hW; go_simp⟩) hHeld ?_
        simp only [Act.put, List.getElem_toArray, List.getElem_cons_succ, List.getElem_cons_zero, List.setIfInBounds_toArray, List.set_cons_zero, List.set_cons_succ]
        refine wpAnyH_take (i := 19) (v := .bool false) rfl (by kernel_rfl) (by kernel_rfl) (by kernel_rfl) (fun _ _ _ h => h) (Or.inl ⟨by rfl, fun Wz hW => by obtain ⟨s0, s1, s2, s3, s4, s5, s6, s7, s8, s9, s10, s11, s12, s13, s14, s15, s16, s17⟩ := hW; go_simp⟩) hHeld ?_
        simp only [Act.put, List.getElem_toArray, List.getElem_cons_succ, List.getElem_cons_zero, List.setIfInBounds_toArray, List.set_cons_zero, List.set_cons_succ]
        refine wpAnyH_take (i := 20) (v := undef) rfl (by kernel_rfl) (by kernel_rfl) (by kernel_rfl) (fun _ _ _ h => h) (Or.inr ⟨by rfl, rfl⟩) hHeld ?_
        simp only [Act.put, List.getElem_toArray, List.getElem_cons_succ, List.getElem_cons_zero, List.setIfInBounds_toArray, List.set_cons_zero, List.set_cons_succ]
        refine wpAnyH_take (i := 21) (v := undef) rfl (by kernel_rfl) (by kernel_rfl) (by kernel_rfl) (fun _ _ _ h => h) (Or.inr ⟨by rfl, rfl⟩) hHeld ?_
        simp only [Act.put, List.getElem_toArray, List.getElem_cons_succ, List.getElem_cons_zero, List.setIfInBounds_toArray, List.set_cons_zero, List.set_cons_succ]
        refine wpAnyH_take (i := 22) (v := undef) rfl (by kernel_rfl) (by kernel_rfl) (by kernel_rfl) (fun _ _ _ h => h) (Or.inr ⟨by rfl, rfl⟩) hHeld ?_
        simp only [Act.put, List.getElem_toArray, List.getElem_cons_succ, List.getElem_cons_zero, List.setIfInBounds_toArray, List.set_cons_zero, List.set_cons_succ]
        refine wpAnyH_take (i := 23) (v := undef) rfl (by kernel_rfl) (by kernel_rfl) (by kernel_rfl) (fun _ _ _ h => h) (Or.inr ⟨by rfl, rfl⟩) hHeld ?_
        simp only [Act.put, List.getElem_toArray, List.getElem_cons_succ, List.getElem_cons_zero, List.setIfInBounds_toArray, List.set_cons_zero, List.set_cons_succ]
        refine wpAnyH_take (i := 24) (v := .bool false) rfl (by kernel_rfl) (by kernel_rfl) (by kernel_rfl) (fun _ _ _ h => h) (Or.inl ⟨by rfl, fun Wz hW => by obtain ⟨s0, s1, s2, s3, s4, s5, s6, s7, s8, s9, s10, s11, s12, s13, s14, s15, s16, s17⟩ := hW; go_simp⟩) hHeld ?_
        simp only [Act.put, List.getElem_toArray, List.getElem_cons_succ, List.getElem_cons_zero, List.setIfInBounds_toArray, List.set_cons_zero, List.set_cons_succ]
        refine wpAnyH_take (i := 25) (v := .bool false) rfl (by kernel_rfl) (by kernel_rfl) (by kernel_rfl) (fun _ _ _ h => h) (Or.inl ⟨by rfl, fun Wz hW => by obtain ⟨s0, s1, s2, s3, s4, s5, s6, s7, s8, s9, s10, s11, s12, s13, s14, s15, s16, s17⟩ := hW; go_simp⟩) hHeld ?_
        simp only [Act.put, List.getElem_toArray, List.getElem_cons_succ, List.getElem_cons_zero, List.setIfInBounds_toArray, List.set_cons_zero, List.set_cons_succ]
        refine wpAnyH_done (by kernel_rfl) ?_ _
        clear p0 p1 p2 p3 p4 p5 p6 p7 p8
        clear y0 y1 y2 y3 y4 y5 y6 y7 y8 q2
        obtain ⟨w11, hw11⟩ : ∃ W, W = w10 := ⟨_, rfl⟩
        have K11 : Hid (Keep w4 w11) := by rw [hw11]; exact K9.out.trans (by repeat (with_reducible first | exact Keep.refl w9 | apply Keep.alloc | apply Keep.drew | apply Keep.drewN | (refine Keep.trans ?_ k10.out)))
        subst hw11
        have Z0 := (hR.out.keep ((C.kp S4.out.o).trans K11.out)).at hlt
        rw [← hx.out] at Z0
        have z0 := Z0.n
        clear Z0
        have cO : Hid (∀ W, Keep w11 W → Calls Tryd.prog 18 #[.pointer (some ⟨q, 0, none⟩), .int .i64 x.nd] W fun e w' => ∃ v S, e = .returned v ∧ RowP w' W.heap.size v f S ∧ (lst S f).map nm = FF ∧ Keep W w') := fun W k => by rw [hf2.out, hFF.out]; exact C.on x.nd (C.keep S4.out.o (K11.out.trans k)) S4.out.m3 (by rw [hlen4.out]; omega)
        have cR : Hid (∀ W, Keep w11 W → Calls Tryd.prog 19 #[.slice (some ⟨gb, g0, none⟩) m4 d4, .int .i64 x.nd] W fun e w' => ∃ B d, e = .returned (.slice B f d) ∧ Keep W w' ∧ RdPods w' B f (row GG)) := fun W k => by
          refine (ron_fn _ m4 d4 Q4 x.nd W (S4.out.r.rd.keep (K11.out.trans k)) (by omega)).mono ?_
          rintro e w' ⟨B', d', rfl, k2, r2, _⟩
          rw [← hGG.out, hfl.out] at r2 ⊢
          exact ⟨B', d', rfl, k2, r2⟩
        obtain ⟨oo, hoo⟩ : ∃ oo, oo = off + i * 12 := ⟨_, rfl⟩
        rw [← hoo] at q1 z0
        replace hoo := Lib.hid hoo
        go_wp2
        have HELD : ∀ Wz, Keep w11 Wz → (Wz.cell? ⟨b, oo + 10, none⟩ = some (.int .i64 x.nd)) := fun Wz KK => KK.cell z0
        refine wp_region_held_drew (S := fun w' => w'.cell? ⟨b, oo + 10, none⟩ = some (.int .i64 x.nd)) (by kernel_rfl) ?_ (fun hHeld => ?_)
        · exact HELD _ (by repeat (with_reducible first | exact Keep.refl w11 | apply Keep.alloc | apply Keep.drew | apply Keep.drewN))
        refine wpAnyH_take (i := 0) (v := .pointer (some ⟨q, 0, none⟩)) rfl (by kernel_rfl) (by kernel_rfl) (by kernel_rfl) (fun _ _ _ h => h) (Or.inl ⟨by rfl, fun Wz hW => by obtain s0 := hW; go_simp⟩) hHeld ?_
        simp only [Act.put, List.getElem_toArray, List.getElem_cons_zero, List.setIfInBounds_toArray, List.set_cons_zero, List.set_cons_succ]
        refine wpAnyH_take (i := 1) (v := .slice (some ⟨b, off, none⟩) n c) rfl (by kernel_rfl) (by kernel_rfl) (by kernel_rfl) (fun _ _ _ h => h) (Or.inl ⟨by rfl, fun Wz hW => by obtain s0 := hW; go_simp⟩) hHeld ?_
        simp only [Act.put, List.getElem_toArray, List.getElem_cons_succ, List.getElem_cons_zero, List.setIfInBounds_toArray, List.set_cons_zero, List.set_cons_succ]
        refine wpAnyH_take (i := 2) (v := .int .i64 i) rfl (by kernel_rfl) (by kernel_rfl) (by kernel_rfl) (fun _ _ _ h => h) (Or.inl ⟨by rfl, fun Wz hW => by obtain s0 := hW; go_simp⟩) hHeld ?_
        simp only [Act.put, List.getElem_toArray, List.getElem_cons_succ, List.getElem_cons_zero, List.setIfInBounds_toArray, List.set_cons_zero, List.set_cons_succ]
        refine wpAnyH_take (i := 3) (v := .pointer (some ⟨b, oo, none⟩)) rfl (by kernel_rfl) (by kernel_rfl) (by kernel_rfl) (fun _ _ _ h => h) (Or.inl ⟨by rfl, fun Wz hW => by obtain s0 := hW; go_simp⟩) hHeld ?_
        simp only [Act.put, List.getElem_toArray, List.getElem_cons_succ, List.getElem_cons_zero, List.setIfInBounds_toArray, List.set_cons_zero, List.set_cons_succ]
        refine wpAnyH_take (i := 4) (v := .pointer (some ⟨b, oo + 10, none⟩)) rfl (by kernel_rfl) (by kernel_rfl) (by kernel_rfl) (fun _ _ _ h => h) (Or.inl ⟨by rfl, fun Wz hW => by obtain s0 := hW; go_simp⟩) hHeld ?_
        simp only [Act.put, List.getElem_toArray, List.getElem_cons_succ, List.getElem_cons_zero, List.setIfInBounds_toArray, List.set_cons_zero, List.set_cons_succ]
        refine wpAnyH_take (i := 5) (v := .int .i64 x.nd) rfl (by kernel_rfl) (by kernel_rfl) (by kernel_rfl) (fun _ _ _ h => h) (Or.inl ⟨by rfl, fun Wz hW => by obtain s0 := hW; go_simp⟩) hHeld ?_
        simp only [Act.put, List.getElem_toArray, List.getElem_cons_succ, List.getElem_cons_zero, List.setIfInBounds_toArray, List.set_cons_zero, List.set_cons_succ]
        refine wpAnyH_take (i := 7) (v := .slice (some ⟨gb, g0, none⟩) m4 d4) rfl (by kernel_rfl) (by kernel_rfl) (by kernel_rfl) (fun _ _ _ h => h) (Or.inl ⟨by rfl, fun Wz hW => by obtain s0 := hW; go_simp⟩) hHeld ?_
        simp only [Act.put, List.getElem_toArray, List.getElem_cons_succ, List.getElem_cons_zero, List.setIfInBounds_toArray, List.set_cons_zero, List.set_cons_succ]
        refine wpAnyH_take (i := 8) (v := .slice (some ⟨b, off, none⟩) n c) rfl (by kernel_rfl) (by kernel_rfl) (by kernel_rfl) (fun _ _ _ h => h) (Or.inl ⟨by rfl, fun Wz hW => by obtain s0 := hW; go_simp⟩) hHeld ?_
        simp only [Act.put, List.getElem_toArray, List.getElem_cons_succ, List.getElem_cons_zero, List.setIfInBounds_toArray, List.set_cons_zero, List.set_cons_succ]
        refine wpAnyH_take (i := 9) (v := .int .i64 i) rfl (by kernel_rfl) (by kernel_rfl) (by kernel_rfl) (fun _ _ _ h => h) (Or.inl ⟨by rfl, fun Wz hW => by obtain s0 := hW; go_simp⟩) hHeld ?_
        simp only [Act.put, List.getElem_toArray, List.getElem_cons_succ, List.getElem_cons_zero, List.setIfInBounds_toArray, List.set_cons_zero, List.set_cons_succ]
        refine wpAnyH_take (i := 10) (v := .pointer (some ⟨b, oo, none⟩)) rfl (by kernel_rfl) (by kernel_rfl) (by kernel_rfl) (fun _ _ _ h => h) (Or.inl ⟨by rfl, fun Wz hW => by obtain s0 := hW; go_simp⟩) hHeld ?_
        simp only [Act.put, List.getElem_toArray, List.getElem_cons_succ, List.getElem_cons_zero, List.setIfInBounds_toArray, List.set_cons_zero, List.set_cons_succ]
        refine wpAnyH_take (i := 11) (v := .pointer (some ⟨b, oo + 10, none⟩)) rfl (by kernel_rfl) (by kernel_rfl) (by kernel_rfl) (fun _ _ _ h => h) (Or.inl ⟨by rfl, fun Wz hW => by obtain s0 := hW; go_simp⟩) hHeld ?_
        simp only [Act.put, List.getElem_toArray, List.getElem_cons_succ, List.getElem_cons_zero, List.setIfInBounds_toArray, List.set_cons_zero, List.set_cons_succ]
        refine wpAnyH_take (i := 12) (v := .int .i64 x.nd) rfl (by kernel_rfl) (by kernel_rfl) (by kernel_rfl) (fun _ _ _ h => h) (Or.inl ⟨by rfl, fun Wz hW => by obtain s0 := hW; go_simp⟩) hHeld ?_
        simp only [Act.put, List.getElem_toArray, List.getElem_cons_succ, List.getElem_cons_zero, List.setIfInBounds_toArray, List.set_cons_zero, List.set_cons_succ]
        refine wpAnyH_ready (rs := [6]) (by kernel_rfl) (by simp) ?_
        refine AllReadyH.cons rfl (fun K hK => ?_) AllReadyH.nil
        simp only [List.getElem_toArray, List.getElem_cons_succ, List.getElem_cons_zero]
        rw [if_pos (by rfl)]
        go_simp
        refine (cO.out _ (by repeat (with_reducible first | exact Keep.refl w11 | apply Keep.alloc | apply Keep.drew | apply Keep.drewN))).mono ?_
        rintro e w12 ⟨v12, T12, rfl, R12, E12, k12⟩; obtain ⟨A12, d12, rfl, D12⟩ := R12.rd (by omega); replace R12 := Lib.hid R12; replace D12 := Lib.hid D12; replace E12 := Lib.hid E12; replace k12 := Lib.hid k12
        go_wp2_with fail
        refine hK.out _ _ ?_ (fun hHeld => ?_)
        · exact HELD _ (by repeat (with_reducible first | exact Keep.refl w11 | apply Keep.alloc | apply Keep.drew | apply Keep.drewN | (refine Keep.trans ?_ k12.out)))
        clear hK K
        try simp only [Act.put, List.getElem_toArray, List.getElem_cons_succ, List.getElem_cons_zero, List.setIfInBounds_toArray, List.set_cons_zero, List.set_cons_succ]
        refine wpAnyH_ready (rs := [13]) (by kernel_rfl) (by simp) ?_
        refine AllReadyH.cons rfl (fun K hK => ?_) AllReadyH.nil
        simp only [List.getElem_toArray, List.getElem_cons_succ, List.getElem_cons_zero]
        rw [if_pos (by rfl)]
        go_simp
        refine (cR.out _ (by repeat (with_reducible first | exact Keep.refl w11 | apply Keep.alloc | apply Keep.drew | apply Keep.drewN | (refine Keep.trans ?_ k12.out)))).mono ?_
        rintro e w13 ⟨B13, d13, rfl, k13, R13⟩; have cS : Hid (∀ W, Keep w13 W → Calls Tryd.prog 12 #[.slice A12 f d12, .slice B13 f d13] W fun e w' => e = .returned (.bool true) ∧ Keep W w') := fun W k => st_same (c := d12) (d := d13) hsame.out (m := f) (by rw [hfl.out]) E12.out ((D12.out.keep (Keep.trans (by repeat (with_reducible first | exact Keep.refl w12 | apply Keep.alloc | apply Keep.drew | apply Keep.drewN)) k13)).keep k) (R13.keep k); replace R13 := Lib.hid R13; replace k13 := Lib.hid k13
        go_wp2_with fail
        refine hK.out _ _ ?_ (fun hHeld => ?_)
        · exact HELD _ (by repeat (with_reducible first | exact Keep.refl w11 | apply Keep.alloc | apply Keep.drew | apply Keep.drewN | (refine Keep.trans ?_ k12.out) | (refine Keep.trans ?_ k13.out)))
        clear hK K
        try simp only [Act.put, List.getElem_toArray, List.getElem_cons_succ, List.getElem_cons_zero, List.setIfInBounds_toArray, List.set_cons_zero, List.set_cons_succ]
        refine wpAnyH_ready (rs := [14]) (by kernel_rfl) (by simp) ?_
        refine AllReadyH.cons rfl (fun K hK => ?_) AllReadyH.nil
        simp only [List.getElem_toArray, List.getElem_cons_succ, List.getElem_cons_zero]
        rw [if_pos (by rfl)]
        go_simp
        refine (cS.out _ (by repeat (with_reducible first | exact Keep.refl w13 | apply Keep.alloc | apply Keep.drew | apply Keep.drewN | (refine Keep.trans ?_ k12.out) | (refine Keep.trans ?_ k13.out)))).mono ?_
        rintro e w14 ⟨rfl, k14⟩; replace k14 := Lib.hid k14
        go_wp2_with fail
        refine hK.out _ _ ?_ (fun hHeld => ?_)
        · exact HELD _ (by repeat (with_reducible first | exact Keep.refl w11 | apply Keep.alloc | apply Keep.drew | apply Keep.drewN | (refine Keep.trans ?_ k12.out) | (refine Keep.trans ?_ k13.out) | (refine Keep.trans ?_ k14.out)))
        clear hK K
        try simp only [Act.put, List.getElem_toArray, List.getElem_cons_succ, List.getElem_cons_zero, List.setIfInBounds_toArray, List.set_cons_zero, List.set_cons_succ]
        refine wpAnyH_take (i := 15) (v := .bool false) rfl (by kernel_rfl) (by kernel_rfl) (by kernel_rfl) (fun _ _ _ h => h) (Or.inl ⟨by rfl, fun Wz hW => by obtain s0 := hW; go_simp⟩) hHeld ?_
        simp only [Act.put, List.getElem_toArray, List.getElem_cons_succ, List.getElem_cons_zero, List.setIfInBounds_toArray, List.set_cons_zero, List.set_cons_succ]
        refine wpAnyH_done (by kernel_rfl) ?_ _
        go_wp2
        go_roundg (n - (i + 1))
        case measure => omega
        case rel => exact ⟨i + 1, m4, some ⟨gb, g0, none⟩, d4, Q4, _, X4, hlt, rfl, by go_num, rfl, rfl, by omega, St.keep C S4.out (K11.out.trans (by repeat (with_reducible first | exact Keep.refl w11 | apply Keep.alloc | apply Keep.drew | apply Keep.drewN | (refine Keep.trans ?_ k12.out) | (refine Keep.trans ?_ k13.out) | (refine Keep.trans ?_ k14.out))))⟩
    · obtain rfl : i = n := by omega
      have KR := Lib.hid (C.kp SS.out.o)
      go_wp2
      go_ret
      exact ⟨rfl, KR.out⟩
end Go.Proofs.YtfidlljhmebpmaaDoor.T13
