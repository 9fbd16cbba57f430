/-
  The walk of QueueSorts. No condition but that a slice without an array has no room.
-/
import Derived.Test.YtmmpmpdjcmilkaaLMath7
namespace Go.Proofs.Ytmmpmpdjcmilkaa
open Go.RowKit Go.Sort Go.Lib Go.Shelf

theorem drop_sorted {S : Nat → PodV} {m i : Nat} (h : i < m) : ((lst S m).map nm).drop i = nm (S i) :: ((lst S m).map nm).drop (i + 1) := by
  have hi : i < ((lst S m).map nm).length := by rw [List.length_map, lst_len]; exact h
  rw [List.drop_eq_getElem_cons hi]
  simp [lst]
set_option maxRecDepth 100000 in
set_option maxHeartbeats 16000000 in
theorem sorts_walk (A : Option Addr) (n c : Nat) (P : Nat → PodV) (w : World) (hR : RdPods w A n P) : Calls Try.prog 4 #[.slice A n c] w fun e w' => e = .returned (.bool true) ∧ Keep w w' := by
  have mixed : Try.prog.follows .mixedOrders = true := by kernel_rfl
  have aw := Lib.hid awake_true
  replace hR := Lib.hid hR
  go_enter Try.func4, Try.ntmps4
  go_wp2_with fail
  refine (qnew_fn _).mono ?_
  rintro e w1 ⟨bq, rfl, k1, hQ⟩
  have hQ := Lib.hid hQ
  replace k1 := Lib.hid k1
  go_wp2_with fail
  refine (aw.out _).mono ?_
  rintro e w2 ⟨rfl, k2⟩
  have K2 := Lib.hid (k1.out.trans k2)
  have R2 := Lib.hid (hR.out.keep K2.out)
  replace k2 := Lib.hid k2
  have hfew : ∀ b : Bool, (b = true ↔ FewP P n) → Calls Try.prog 17 #[.slice A n c] w2 fun e w' => e = .returned (.bool b) ∧ w2 = w' := fun b hb => rfew_fn A n c P w2 R2.out b hb
  replace hfew := Lib.hid hfew
  by_cases hf : FewP P n
  rotate_left
  · have hfew2 := Lib.hid (hfew.out false (by simp only [Bool.false_eq_true, false_iff]; exact hf))
    clear hfew
    replace hf := Lib.hid hf
    go_wp2_with fail
    refine hfew2.out.mono ?_
    rintro e w3 ⟨rfl, rfl⟩
    clear hfew2
    go_wp2_with fail
    refine (aw.out _).mono ?_
    rintro e w4 ⟨rfl, k4⟩
    go_wp2
    go_ret
    exact ⟨rfl, K2.out.trans k4⟩
  have hfew2 := Lib.hid (hfew.out true ⟨fun _ => hf, fun _ => rfl⟩)
  clear hfew
  have hn := hf.1
  have hf := Lib.hid hf
  have cR := rpush_fn none 0 0 (fun _ => zpod) A n c P w2 (RdPods.nil _ _ _) (fun _ => ⟨rfl, rfl⟩) R2.out (by omega) (fun j h => absurd h (Nat.not_lt_zero _)) (fun j hj => ⟨(hf.out.2 j hj).1, (hf.out.2 j hj).2.1⟩)
  have eL : (lst (fun _ => zpod) 0).map nm = [] := rfl
  rw [eL] at cR
  clear eL
  have hLn := addN_len [] P n
  obtain ⟨L, hL⟩ : ∃ L, L = addN [] P n := ⟨_, rfl⟩
  rw [← hL] at cR hLn
  obtain ⟨m, hm⟩ : ∃ m, m = L.length := ⟨_, rfl⟩
  rw [← hm] at cR hLn
  replace hm := Lib.hid hm
  replace cR := Lib.hid cR
  replace hL := Lib.hid hL
  replace hLn := Lib.hid hLn
  go_wp2_with fail
  refine hfew2.out.mono ?_
  rintro e w3 ⟨rfl, rfl⟩
  clear hfew2
  go_wp2_with fail
  refine cR.out.mono ?_
  rintro e w3 ⟨B, d, S, rfl, RL, hBd⟩
  replace hBd := Lib.hid hBd
  have k3 : Keep w2 w3 := RL.keep
  have K3 : Hid (Keep w w3) := K2.out.trans k3
  obtain ⟨D, Q3, hD⟩ := hQ.out w.heap.size w3 (Nat.le_refl _) (k2.out.trans k3) K3.out.size
  have loD : Hid (∀ i, D i → w.heap.size ≤ i) := fun i hi => (Q3.lo i hi).1
  have ltD : Hid (∀ i, D i → i < w2.heap.size) := fun i hi => by have := hD i hi; have := k2.out.size; omega
  have SP : Src w3 D A n P := src_old hR.out K3.out loD.out
  have SR : Src w3 D B m S := src_ref RL ltD.out (fun t ht => absurd ht (Nat.not_lt_zero _)) (old_req hR.out loD.out) K2.out
  have cP := qpush_fn Q3 A n c P SP (by simp; omega) (fun j hj => by have := (hf.out.2 j hj).2.2; omega)
  rw [← hL.out, ← hm.out] at cP
  have pR : Hid (((lst S m).map nm).Perm L) := RL.perm
  have sR : Hid (((lst S m).map nm).Pairwise leP) := RL.sort
  rw [show ((m : Int) - (([] : List PodV).length : Int)) = (m : Int) from by simp] at cP
  have hm100 : m ≤ 100 := by have h := hLn.out.2; simp at h; omega
  replace cP := Lib.hid cP
  replace Q3 := Lib.hid Q3
  replace hD := Lib.hid hD
  replace SP := Lib.hid SP
  replace SR := Lib.hid SR
  replace RL := Lib.hid RL
  replace k3 := Lib.hid k3
  clear cR R2
  go_wp2_with fail
  refine cP.out.mono ?_
  rintro e w4 ⟨rfl, D4, Q4, F4, N4⟩
  have K4 : Hid (Keep w w4) := F4.low K3.out loD.out
  have S4 := Lib.hid (SR.out.fr F4 N4)
  have lo4 : Hid (∀ i, D4 i → w.heap.size ≤ i) := fun i hi => by
    rcases N4 i hi with h | h
    · exact loD.out i h
    · exact Nat.le_trans K3.out.size h
  have hkeys := Lib.hid Q4.keys
  replace Q4 := Lib.hid Q4
  replace F4 := Lib.hid F4
  replace N4 := Lib.hid N4
  clear cP SR SP
  go_wp2
  go_loopg [5, 6, 7] m (fun gx s5 _ _ wr => ∃ (i : Nat) (E : Nat → Prop) (M : List PodV), i ≤ m ∧ gx = m - i ∧ s5 = .int .i64 i ∧ Hid (Keep w wr) ∧ Hid (Src wr E B m S) ∧ Hid (QInv wr w.heap.size w.heap.size bq E M) ∧ Hid (∀ k, E k → w.heap.size ≤ k) ∧ Hid ((((lst S m).map nm).drop i).Perm M))
  case atStart => exact ⟨0, D4, L, Nat.zero_le _, rfl, rfl, K4, S4, Q4, lo4, pR⟩
  case round =>
    clear K4 S4 Q4 lo4 F4 N4
    obtain ⟨i, E, M, hi, rfl, rfl, KR, SR, QR, LR, PR⟩ := hrel
    by_cases hlt : i < m
    · have dS := drop_sorted (S := S) hlt
      have hM0 : M ≠ [] := by
        rintro rfl
        have h := PR.out.length_eq
        rw [dS] at h
        simp at h
      have cO := qpop_fn QR.out hM0
      unfold PodV.val at cO
      replace cO := Lib.hid cO
      have dso : Hid ((((lst S m).map nm).drop i).Pairwise leP) := sR.out.sublist (List.drop_sublist _ _)
      have kM := Lib.hid QR.out.keys
      replace dS := Lib.hid dS
      replace hM0 := Lib.hid hM0
      go_wp2_with fail
      refine cO.out.mono ?_
      rintro e w5 ⟨x, rfl, xi, xm, ⟨F5, ⟨D5, L5, Q5, P5, N5⟩, rq5, ok5⟩⟩
      have hd : Hid (nm (S i) = nm x) := min_head (S := ((lst S m).map nm).drop (i + 1)) (by rw [← dS.out]; exact PR.out) (by rw [← dS.out]; exact dso.out) kM.out xi xm
      have K5 : Hid (Keep w (w5.alloc (.cells #[.int .i64 x.k, .int .i64 x.p, .bool x.f, .int .i64 x.g, .slice x.A x.m x.c, .int .i64 x.a, .int .i64 x.h, .int .i64 x.d, .int .i64 x.t] 32))) := (F5.low KR.out LR.out).trans (Keep.one _ _)
      have S5 := (SR.out.fr F5 N5).keep (Keep.one w5 (.cells #[.int .i64 x.k, .int .i64 x.p, .bool x.f, .int .i64 x.g, .slice x.A x.m x.c, .int .i64 x.a, .int .i64 x.h, .int .i64 x.d, .int .i64 x.t] 32))
      have Q6 := Lib.hid (Q5.keep (Keep.one w5 (.cells #[.int .i64 x.k, .int .i64 x.p, .bool x.f, .int .i64 x.g, .slice x.A x.m x.c, .int .i64 x.a, .int .i64 x.h, .int .i64 x.d, .int .i64 x.t] 32)))
      have I5 : PodIs (w5.alloc (.cells #[.int .i64 x.k, .int .i64 x.p, .bool x.f, .int .i64 x.g, .slice x.A x.m x.c, .int .i64 x.a, .int .i64 x.h, .int .i64 x.d, .int .i64 x.t] 32)) x := (own_is rq5 ok5).keep (Keep.one _ _)
      have L6 : Hid (∀ k, D5 k → w.heap.size ≤ k) := fun k hk => by
        rcases N5 k hk with h | h
        · exact LR.out k h
        · exact Nat.le_trans KR.out.size h
      have P6 : Hid ((((lst S m).map nm).drop (i + 1)).Perm L5) := by
        have h := PR.out.trans P5
        rw [dS.out, hd.out] at h
        exact (List.perm_cons _).1 h
      have X := Cel9.new w5 x 32 _ rfl
      obtain ⟨b, off, hB, cb⟩ := S5.rd.adr (by omega)
      subst hB
      have q1 := pods_at b off m d i hlt
      have Y := cb i hlt
      have IS := S5.rd.is i hlt
      clear cb
      obtain ⟨y, hy⟩ : ∃ y, y = S i := ⟨_, rfl⟩
      rw [← hy] at Y IS
      have sm : SameV x y := by rw [hy]; exact same_nm hd.out.symm
      replace hy := Lib.hid hy
      have hk : ∀ (n : Nat) (os : Array Obj), Calls Try.prog 21 #[x.val, y.val] (grow ((w5.alloc (.cells #[.int .i64 x.k, .int .i64 x.p, .bool x.f, .int .i64 x.g, .slice x.A x.m x.c, .int .i64 x.a, .int .i64 x.h, .int .i64 x.d, .int .i64 x.t] 32)).drewN n) os) fun e w' => e = .returned (.bool true) ∧ ∃ q os', w' = grow ((grow ((w5.alloc (.cells #[.int .i64 x.k, .int .i64 x.p, .bool x.f, .int .i64 x.g, .slice x.A x.m x.c, .int .i64 x.a, .int .i64 x.h, .int .i64 x.d, .int .i64 x.t] 32)).drewN n) os).drewN q) os' :=
        fun n os => rsamepod_fn x y _ sm (I5.keep (Gr.keep ⟨n, os, rfl⟩)) (IS.keep (Gr.keep ⟨n, os, rfl⟩))
      unfold PodV.val at hk
      replace S5 := Lib.hid S5
      replace xi := Lib.hid xi
      replace xm := Lib.hid xm
      replace F5 := Lib.hid F5
      replace Q5 := Lib.hid Q5
      replace P5 := Lib.hid P5
      replace N5 := Lib.hid N5
      replace rq5 := Lib.hid rq5
      replace ok5 := Lib.hid ok5
      replace I5 := Lib.hid I5
      replace IS := Lib.hid IS
      replace sm := Lib.hid sm
      clear cO
      obtain ⟨W5, hW5⟩ : ∃ W5, W5 = w5.alloc (.cells #[.int .i64 x.k, .int .i64 x.p, .bool x.f, .int .i64 x.g, .slice x.A x.m x.c, .int .i64 x.a, .int .i64 x.h, .int .i64 x.d, .int .i64 x.t] 32) := ⟨_, rfl⟩
      rw [← hW5] at hk X Y K5 S5 Q6
      go_wp2_with fail
      rw [← hW5]
      replace hW5 := Lib.hid hW5
      have x0 := grows X.e0; have x1 := grows X.e1; have x2 := grows X.e2; have x3 := grows X.e3; have x4 := grows X.e4; have x5 := grows X.e5; have x6 := grows X.e6; have x7 := grows X.e7; have x8 := grows X.e8
      have y0 := grows Y.e0; have y1 := grows Y.e1; have y2 := grows Y.e2; have y3 := grows Y.e3; have y4 := grows Y.e4; have y5 := grows Y.e5; have y6 := grows Y.e6; have y7 := grows Y.e7; have y8 := grows Y.e8
      clear X Y
      simp only [Nat.zero_add] at x1 x2 x3 x4 x5 x6 x7 x8
      refine wp_region_quiet_grown (by assumption) (by kernel_rfl) ?_
      repeat (go_big_quiet_step (first | (go_at_call 21; with_reducible refine Calls.grown_of (hk _ _))))
      refine wpQuiet_nil ?_
      intro _ hw'
      obtain ⟨⟨nq, osq⟩, hw''⟩ := hw'
      subst hw''
      clear x0 x1 x2 x3 x4 x5 x6 x7 x8 y0 y1 y2 y3 y4 y5 y6 y7 y8 hk
      have G6 : Keep W5 (grow (W5.drewN nq) osq) := Gr.keep ⟨nq, osq, rfl⟩
      have K7 := Lib.hid (K5.out.trans G6)
      have S7 := Lib.hid (S5.out.keep G6)
      have Q7 := Lib.hid (Q6.out.keep G6)
      replace G6 := Lib.hid G6
      generalize grow (W5.drewN nq) osq = w7 at *
      go_wp2
      go_roundg (m - (i + 1))
      case measure => omega
      case rel => exact ⟨i + 1, D5, L5, hlt, rfl, by go_num, K7, S7, Q7, L6, P6⟩
    · obtain rfl : i = m := by omega
      have hM : M = [] := by
        have h := PR.out
        rw [List.drop_eq_nil_of_le (by rw [List.length_map, lst_len]; exact Nat.le_refl _)] at h
        exact h.nil_eq.symm
      subst hM
      have cO := qpop_none QR.out
      unfold zpod PodV.val at cO
      replace cO := Lib.hid cO
      go_wp2_with fail
      refine cO.out.mono ?_
      rintro e w5 ⟨rfl, k5⟩
      have K5 : Hid (Keep w (w5.alloc (.cells #[.int .i64 0, .int .i64 0, .bool false, .int .i64 0, .slice none 0 0, .int .i64 0, .int .i64 0, .int .i64 0, .int .i64 0] 32))) := (KR.out.trans k5).trans (Keep.one _ _)
      have cL := Lib.hid (qlen_fn (QR.out.keep (k5.trans (Keep.one w5 (.cells #[.int .i64 0, .int .i64 0, .bool false, .int .i64 0, .slice none 0 0, .int .i64 0, .int .i64 0, .int .i64 0, .int .i64 0] 32)))))
      replace k5 := Lib.hid k5
      go_wp2_with fail
      refine cL.out.mono ?_
      rintro e w6 ⟨rfl, rfl⟩
      go_wp2
      go_ret
      exact ⟨rfl, K5.out⟩
end Go.Proofs.Ytmmpmpdjcmilkaa
