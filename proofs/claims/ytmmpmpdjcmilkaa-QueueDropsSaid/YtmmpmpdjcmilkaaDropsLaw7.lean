/-
  The walk of QueueDrops. No condition but that a slice without an array has no room.
-/
import Derived.Test.YtmmpmpdjcmilkaaLMath7
namespace Go.Proofs.Ytmmpmpdjcmilkaa
open Go.RowKit Go.Sort Go.Lib Go.Shelf

set_option maxRecDepth 100000 in
set_option maxHeartbeats 16000000 in
theorem drops_walk (A : Option Addr) (n c : Nat) (P : Nat → PodV) (id : Int) (w : World) (hR : RdPods w A n P) : Calls Try.prog 7 #[.slice A n c, .int .i64 id] w fun e w' => e = .returned (.bool true) ∧ Keep w w' := by
  have aw := Lib.hid awake_true
  replace hR := Lib.hid hR
  go_enter Try.func7, Try.ntmps7
  go_wp2_with fail
  refine (qnew_fn _).mono ?_
  rintro e w1 ⟨bq, rfl, k1, hQ⟩
  have hQ := Lib.hid hQ
  replace k1 := Lib.hid k1
  go_wp2_with fail
  refine (aw.out _).mono ?_
  rintro e w2 ⟨rfl, k2⟩
  have K2 := Lib.hid (k1.out.trans k2)
  have R2 := Lib.hid (hR.out.keep K2.out)
  replace k2 := Lib.hid k2
  have hfew : ∀ b : Bool, (b = true ↔ FewP P n) → Calls Try.prog 17 #[.slice A n c] w2 fun e w' => e = .returned (.bool b) ∧ w2 = w' := fun b hb => rfew_fn A n c P w2 R2.out b hb
  replace hfew := Lib.hid hfew
  by_cases hf : FewP P n
  rotate_left
  · have hfew2 := Lib.hid (hfew.out false (by simp only [Bool.false_eq_true, false_iff]; exact hf))
    clear hfew
    replace hf := Lib.hid hf
    go_wp2_with fail
    refine hfew2.out.mono ?_
    rintro e w3 ⟨rfl, rfl⟩
    clear hfew2
    go_wp2_with fail
    refine (aw.out _).mono ?_
    rintro e w4 ⟨rfl, k4⟩
    go_wp2
    go_ret
    exact ⟨rfl, K2.out.trans k4⟩
  have hfew2 := Lib.hid (hfew.out true ⟨fun _ => hf, fun _ => rfl⟩)
  clear hfew
  have hn := hf.1
  have hf := Lib.hid hf
  have cR := rpush_fn none 0 0 (fun _ => zpod) A n c P w2 (RdPods.nil _ _ _) (fun _ => ⟨rfl, rfl⟩) R2.out (by omega) (fun j h => absurd h (Nat.not_lt_zero _)) (fun j hj => ⟨(hf.out.2 j hj).1, (hf.out.2 j hj).2.1⟩)
  have eL : (lst (fun _ => zpod) 0).map nm = [] := rfl
  rw [eL] at cR
  clear eL
  have hLn := addN_len [] P n
  obtain ⟨L, hL⟩ : ∃ L, L = addN [] P n := ⟨_, rfl⟩
  rw [← hL] at cR hLn
  obtain ⟨m, hm⟩ : ∃ m, m = L.length := ⟨_, rfl⟩
  rw [← hm] at cR hLn
  replace hm := Lib.hid hm
  replace cR := Lib.hid cR
  replace hL := Lib.hid hL
  replace hLn := Lib.hid hLn
  go_wp2_with fail
  refine hfew2.out.mono ?_
  rintro e w3 ⟨rfl, rfl⟩
  clear hfew2
  go_wp2_with fail
  refine cR.out.mono ?_
  rintro e w3 ⟨B, d, S, rfl, RL, hBd⟩
  replace hBd := Lib.hid hBd
  have k3 : Keep w2 w3 := RL.keep
  have K3 : Hid (Keep w w3) := K2.out.trans k3
  obtain ⟨D, Q3, hD⟩ := hQ.out w.heap.size w3 (Nat.le_refl _) (k2.out.trans k3) K3.out.size
  have loD : Hid (∀ i, D i → w.heap.size ≤ i) := fun i hi => (Q3.lo i hi).1
  have ltD : Hid (∀ i, D i → i < w2.heap.size) := fun i hi => by have := hD i hi; have := k2.out.size; omega
  have SP : Src w3 D A n P := src_old hR.out K3.out loD.out
  have SR : Src w3 D B m S := src_ref RL ltD.out (fun t ht => absurd ht (Nat.not_lt_zero _)) (old_req hR.out loD.out) K2.out
  have cP := qpush_fn Q3 A n c P SP (by simp; omega) (fun j hj => by have := (hf.out.2 j hj).2.2; omega)
  rw [← hL.out, ← hm.out] at cP
  have pR : Hid (((lst S m).map nm).Perm L) := RL.perm
  have sR : Hid (((lst S m).map nm).Pairwise leP) := RL.sort
  replace cP := Lib.hid cP
  replace Q3 := Lib.hid Q3
  replace hD := Lib.hid hD
  replace SP := Lib.hid SP
  replace SR := Lib.hid SR
  replace RL := Lib.hid RL
  replace k3 := Lib.hid k3
  clear cR R2
  go_wp2_with fail
  refine cP.out.mono ?_
  rintro e w4 ⟨rfl, D4, Q4, F4, N4⟩
  have K4 : Hid (Keep w w4) := F4.low K3.out loD.out
  have S4 := Lib.hid (SR.out.fr F4 N4)
  have lo4 : Hid (∀ i, D4 i → w.heap.size ≤ i) := fun i hi => by
    rcases N4 i hi with h | h
    · exact loD.out i h
    · exact Nat.le_trans K3.out.size h
  have hkeys := Lib.hid Q4.keys
  replace Q4 := Lib.hid Q4
  replace F4 := Lib.hid F4
  replace N4 := Lib.hid N4
  clear cP SR SP
  have fin : Hid (∀ (w5 : World) (D5 : Nat → Prop) (L5 : List PodV), Keep w w5 → Src w5 D5 B m S → QInv w5 w.heap.size w.heap.size bq D5 L5 → id ∉ L5.map (·.k) → (L.filter (fun y => decide (y.k ≠ id))).Perm L5 →
      Calls Try.prog 24 #[.pointer (some ⟨bq, 0, none⟩), .int .i64 id] w5 (fun e w' => e = .returned (.tuple #[.agg #[.int .i64 0, .int .i64 0, .bool false, .int .i64 0, .slice none 0 0, .int .i64 0, .int .i64 0, .int .i64 0, .int .i64 0], .bool false]) ∧ Keep w5 w' ∧
        ∀ W, Keep w' W → Calls Try.prog 15 #[.pointer (some ⟨bq, 0, none⟩), .int .i64 id] W (fun e w'' => e = .returned (.bool false) ∧ W = w'') ∧
          Calls Try.prog 14 #[.pointer (some ⟨bq, 0, none⟩)] W (fun e w6 => ∃ g k, e = .returned (.slice (some ⟨g, 0, none⟩) k k) ∧ Keep W w6 ∧ k = L5.length ∧
            Calls Try.prog 25 #[.slice B m d, .int .i64 id] w6 (fun e w7 => ∃ B7 d7, e = .returned (.slice B7 k d7) ∧ Keep w6 w7 ∧
              Calls Try.prog 13 #[.slice (some ⟨g, 0, none⟩) k k, .slice B7 k d7] w7 (fun e w8 => e = .returned (.bool true) ∧ Keep w7 w8 ∧
                Calls Try.prog 12 #[.pointer (some ⟨bq, 0, none⟩)] w8 (fun e w9 => e = .returned (.int .i64 k) ∧ w8 = w9) ∧
                Calls Try.prog 25 #[.slice B m d, .int .i64 id] w8 (fun e w9 => ∃ B9 d9, e = .returned (.slice B9 k d9) ∧ Keep w8 w9)))))) := fun w5 D5 L5 k5 S5 Q5 hi5 hp5 => by
    refine (qremove_none Q5 id hi5).mono ?_
    rintro e w6 ⟨rfl, k6⟩
    refine ⟨rfl, k6, fun W kW => ?_⟩
    have QW := Q5.keep (k6.trans kW)
    have SW := S5.keep (k6.trans kW)
    refine ⟨qhas_fn QW id false (by simp only [Bool.false_eq_true, false_iff]; exact hi5), (qall_fn QW).mono ?_⟩
    rintro e w7 ⟨v, T, rfl, AL⟩
    obtain ⟨k7, ⟨g, rfl, _, _, _, RT, _⟩, pT, sT⟩ := AL
    have S7 := SW.keep k7
    have wo : ∀ W', Keep w7 W' → Calls Try.prog 25 #[.slice B m d, .int .i64 id] W' (fun e w9 => ∃ B9 d9, e = .returned (.slice B9 L5.length d9) ∧ Keep W' w9 ∧ ∃ T2, RdPods w9 B9 L5.length T2 ∧ ((lst T2 L5.length).map nm).Perm L5 ∧ ((lst T2 L5.length).map nm).Pairwise leP) := fun W' kW' => by
      refine (rwithout_fn B m d S id W' (S7.keep kW').rd (by have h := hLn.out.2; simp at h; omega)).mono ?_
      rintro e w9 ⟨B9, m9, d9, T2, rfl, k9, R9, e9, _, _⟩
      have h9 := wo_list e9 pR.out sR.out
      have p9 := h9.1.trans hp5
      have hl : m9 = L5.length := by rw [← p9.length_eq, List.length_map, lst_len]
      subst hl
      exact ⟨B9, d9, rfl, k9, T2, R9, p9, h9.2⟩
    refine ⟨g, L5.length, rfl, k7, rfl, (wo w7 (Keep.refl _)).mono ?_⟩
    rintro e w9 ⟨B9, d9, rfl, k9, T2, R9, p9, s9⟩
    refine ⟨B9, d9, rfl, k9, ?_⟩
    have same := both_same pT sT p9 s9 Q5.keys
    refine (rsame6_fn (some ⟨g, 0, none⟩) B9 L5.length _ d9 T T2 w9 (RT.keep k9) R9 same.2).mono ?_
    rintro e wa ⟨rfl, ka⟩
    refine ⟨rfl, ka, qlen_fn (QW.keep (k7.trans (k9.trans ka))), (wo wa (k9.trans ka)).mono ?_⟩
    rintro e wb ⟨Bb, db, rfl, kb, _⟩
    exact ⟨Bb, db, rfl, kb⟩
  by_cases hin : id ∈ L.map (·.k)
  · have cO := qremove_fn Q4.out id hin
    unfold PodV.val at cO
    replace cO := Lib.hid cO
    replace hin := Lib.hid hin
    go_wp2_with fail
    refine cO.out.mono ?_
    rintro e w5 ⟨x, rfl, xi, xk, ⟨F5, ⟨D5, L5, Q5, P5, N5⟩, _, _⟩⟩
    have dl := drop_list P5 hkeys.out xk
    have K5 : Hid (Keep w w5) := F5.low K4.out lo4.out
    have S5 := S4.out.fr F5 N5
    have ff := Lib.hid (fin.out w5 D5 L5 K5.out S5 Q5 dl.1 dl.2)
    replace xi := Lib.hid xi
    replace xk := Lib.hid xk
    replace F5 := Lib.hid F5
    replace Q5 := Lib.hid Q5
    replace P5 := Lib.hid P5
    replace N5 := Lib.hid N5
    replace S5 := Lib.hid S5
    replace dl := Lib.hid dl
    clear cO fin
    go_wp2_with fail
    refine ff.out.mono ?_
    rintro e w6 ⟨rfl, k6, hW⟩
    have K6 : Hid (Keep w (w6.alloc (.cells #[.int .i64 0, .int .i64 0, .bool false, .int .i64 0, .slice none 0 0, .int .i64 0, .int .i64 0, .int .i64 0, .int .i64 0] 32))) := (K5.out.trans k6).trans (Keep.one _ _)
    have hh := Lib.hid (hW _ (Keep.one w6 (.cells #[.int .i64 0, .int .i64 0, .bool false, .int .i64 0, .slice none 0 0, .int .i64 0, .int .i64 0, .int .i64 0, .int .i64 0] 32)))
    replace hW := Lib.hid hW
    replace k6 := Lib.hid k6
    clear ff
    go_wp2_with fail
    refine hh.out.1.mono ?_
    rintro e w7 ⟨rfl, rfl⟩
    go_wp2_with fail
    refine hh.out.2.mono ?_
    rintro e w7 ⟨g, k, rfl, k7, hk, c7⟩
    have K7 : Hid (Keep w w7) := K6.out.trans k7
    replace c7 := Lib.hid c7
    replace k7 := Lib.hid k7
    replace hk := Lib.hid hk
    clear hh
    go_wp2_with fail
    refine c7.out.mono ?_
    rintro e w8 ⟨B8, d8, rfl, k8, c8⟩
    have K8 : Hid (Keep w w8) := K7.out.trans k8
    replace c8 := Lib.hid c8
    replace k8 := Lib.hid k8
    clear c7
    go_wp2_with fail
    refine c8.out.mono ?_
    rintro e w9 ⟨rfl, k9, c9, c10⟩
    have K9 : Hid (Keep w w9) := K8.out.trans k9
    replace c9 := Lib.hid c9
    replace c10 := Lib.hid c10
    replace k9 := Lib.hid k9
    clear c8
    go_wp2_with fail
    refine c9.out.mono ?_
    rintro e wa ⟨rfl, rfl⟩
    clear c9
    go_wp2_with fail
    refine c10.out.mono ?_
    rintro e wb ⟨Bb, db, rfl, kb⟩
    have Kb : Hid (Keep w wb) := K9.out.trans kb
    replace kb := Lib.hid kb
    clear c10
    go_wp2
    go_ret
    exact ⟨rfl, Kb.out⟩
  · have cO := qremove_none Q4.out id hin
    unfold zpod PodV.val at cO
    replace cO := Lib.hid cO
    have hin := Lib.hid hin
    go_wp2_with fail
    refine cO.out.mono ?_
    rintro e w5 ⟨rfl, k5⟩
    have K5 : Hid (Keep w w5) := K4.out.trans k5
    have ff := Lib.hid (fin.out w5 D4 L K5.out (S4.out.keep k5) (Q4.out.keep k5) hin.out (by rw [drop_none hin.out]))
    replace k5 := Lib.hid k5
    clear cO fin
    go_wp2_with fail
    refine ff.out.mono ?_
    rintro e w6 ⟨rfl, k6, hW⟩
    have K6 : Hid (Keep w (w6.alloc (.cells #[.int .i64 0, .int .i64 0, .bool false, .int .i64 0, .slice none 0 0, .int .i64 0, .int .i64 0, .int .i64 0, .int .i64 0] 32))) := (K5.out.trans k6).trans (Keep.one _ _)
    have hh := Lib.hid (hW _ (Keep.one w6 (.cells #[.int .i64 0, .int .i64 0, .bool false, .int .i64 0, .slice none 0 0, .int .i64 0, .int .i64 0, .int .i64 0, .int .i64 0] 32)))
    replace hW := Lib.hid hW
    replace k6 := Lib.hid k6
    clear ff
    go_wp2_with fail
    refine hh.out.1.mono ?_
    rintro e w7 ⟨rfl, rfl⟩
    go_wp2_with fail
    refine hh.out.2.mono ?_
    rintro e w7 ⟨g, k, rfl, k7, hk, c7⟩
    have K7 : Hid (Keep w w7) := K6.out.trans k7
    replace c7 := Lib.hid c7
    replace k7 := Lib.hid k7
    replace hk := Lib.hid hk
    clear hh
    go_wp2_with fail
    refine c7.out.mono ?_
    rintro e w8 ⟨B8, d8, rfl, k8, c8⟩
    have K8 : Hid (Keep w w8) := K7.out.trans k8
    replace c8 := Lib.hid c8
    replace k8 := Lib.hid k8
    clear c7
    go_wp2_with fail
    refine c8.out.mono ?_
    rintro e w9 ⟨rfl, k9, c9, c10⟩
    have K9 : Hid (Keep w w9) := K8.out.trans k9
    replace c9 := Lib.hid c9
    replace c10 := Lib.hid c10
    replace k9 := Lib.hid k9
    clear c8
    go_wp2_with fail
    refine c9.out.mono ?_
    rintro e wa ⟨rfl, rfl⟩
    clear c9
    go_wp2_with fail
    refine c10.out.mono ?_
    rintro e wb ⟨Bb, db, rfl, kb⟩
    have Kb : Hid (Keep w wb) := K9.out.trans kb
    replace kb := Lib.hid kb
    clear c10
    go_wp2
    go_ret
    exact ⟨rfl, Kb.out⟩
end Go.Proofs.Ytmmpmpdjcmilkaa
