/-
  The walk of QueueAgain. No condition but that a slice without an array has no room.
-/
import Derived.Test.YtmmpmpdjcmilkaaLMath7
namespace Go.Proofs.Ytmmpmpdjcmilkaa
open Go.RowKit Go.Sort Go.Lib Go.Shelf

set_option maxRecDepth 100000 in
set_option maxHeartbeats 16000000 in
theorem again_walk (A : Option Addr) (n c : Nat) (P : Nat → PodV) (id : Int) (w : World) (hR : RdPods w A n P) : Calls Try.prog 6 #[.slice A n c, .int .i64 id] w fun e w' => e = .returned (.bool true) ∧ Keep w w' := by
  have aw := Lib.hid awake_true
  replace hR := Lib.hid hR
  go_enter Try.func6, Try.ntmps6
  go_wp2_with fail
  refine (qnew_fn _).mono ?_
  rintro e w1 ⟨bq, rfl, k1, hQ⟩
  have hQ := Lib.hid hQ
  replace k1 := Lib.hid k1
  go_wp2_with fail
  refine (aw.out _).mono ?_
  rintro e w2 ⟨rfl, k2⟩
  have K2 := Lib.hid (k1.out.trans k2)
  have R2 := Lib.hid (hR.out.keep K2.out)
  replace k2 := Lib.hid k2
  have hfew : ∀ b : Bool, (b = true ↔ FewP P n) → Calls Try.prog 17 #[.slice A n c] w2 fun e w' => e = .returned (.bool b) ∧ w2 = w' := fun b hb => rfew_fn A n c P w2 R2.out b hb
  replace hfew := Lib.hid hfew
  by_cases hf : FewP P n
  rotate_left
  · have hfew2 := Lib.hid (hfew.out false (by simp only [Bool.false_eq_true, false_iff]; exact hf))
    clear hfew
    replace hf := Lib.hid hf
    go_wp2_with fail
    refine hfew2.out.mono ?_
    rintro e w3 ⟨rfl, rfl⟩
    clear hfew2
    go_wp2_with fail
    refine (aw.out _).mono ?_
    rintro e w4 ⟨rfl, k4⟩
    go_wp2
    go_ret
    exact ⟨rfl, K2.out.trans k4⟩
  have hfew2 := Lib.hid (hfew.out true ⟨fun _ => hf, fun _ => rfl⟩)
  clear hfew
  have hn := hf.1
  have hf := Lib.hid hf
  have cR := rpush_fn none 0 0 (fun _ => zpod) A n c P w2 (RdPods.nil _ _ _) (fun _ => ⟨rfl, rfl⟩) R2.out (by omega) (fun j h => absurd h (Nat.not_lt_zero _)) (fun j hj => ⟨(hf.out.2 j hj).1, (hf.out.2 j hj).2.1⟩)
  have eL : (lst (fun _ => zpod) 0).map nm = [] := rfl
  rw [eL] at cR
  clear eL
  have hLn := addN_len [] P n
  obtain ⟨L, hL⟩ : ∃ L, L = addN [] P n := ⟨_, rfl⟩
  rw [← hL] at cR hLn
  obtain ⟨m, hm⟩ : ∃ m, m = L.length := ⟨_, rfl⟩
  rw [← hm] at cR hLn
  replace hm := Lib.hid hm
  replace cR := Lib.hid cR
  replace hL := Lib.hid hL
  replace hLn := Lib.hid hLn
  go_wp2_with fail
  refine hfew2.out.mono ?_
  rintro e w3 ⟨rfl, rfl⟩
  clear hfew2
  go_wp2_with fail
  refine cR.out.mono ?_
  rintro e w3 ⟨B, d, S, rfl, RL, hBd⟩
  replace hBd := Lib.hid hBd
  have k3 : Keep w2 w3 := RL.keep
  have K3 : Hid (Keep w w3) := K2.out.trans k3
  obtain ⟨D, Q3, hD⟩ := hQ.out w.heap.size w3 (Nat.le_refl _) (k2.out.trans k3) K3.out.size
  have loD : Hid (∀ i, D i → w.heap.size ≤ i) := fun i hi => (Q3.lo i hi).1
  have ltD : Hid (∀ i, D i → i < w2.heap.size) := fun i hi => by have := hD i hi; have := k2.out.size; omega
  have SP : Src w3 D A n P := src_old hR.out K3.out loD.out
  have SR : Src w3 D B m S := src_ref RL ltD.out (fun t ht => absurd ht (Nat.not_lt_zero _)) (old_req hR.out loD.out) K2.out
  have cP := qpush_fn Q3 A n c P SP (by simp; omega) (fun j hj => by have := (hf.out.2 j hj).2.2; omega)
  rw [← hL.out, ← hm.out] at cP
  have pR : Hid (((lst S m).map nm).Perm L) := RL.perm
  have sR : Hid (((lst S m).map nm).Pairwise leP) := RL.sort
  replace cP := Lib.hid cP
  replace Q3 := Lib.hid Q3
  replace hD := Lib.hid hD
  replace SP := Lib.hid SP
  replace SR := Lib.hid SR
  replace RL := Lib.hid RL
  replace k3 := Lib.hid k3
  clear cR R2
  go_wp2_with fail
  refine cP.out.mono ?_
  rintro e w4 ⟨rfl, D4, Q4, F4, N4⟩
  have K4 : Hid (Keep w w4) := F4.low K3.out loD.out
  have S4 := Lib.hid (SR.out.fr F4 N4)
  have lo4 : Hid (∀ i, D4 i → w.heap.size ≤ i) := fun i hi => by
    rcases N4 i hi with h | h
    · exact loD.out i h
    · exact Nat.le_trans K3.out.size h
  have hkeys := Lib.hid Q4.keys
  replace Q4 := Lib.hid Q4
  replace F4 := Lib.hid F4
  replace N4 := Lib.hid N4
  clear cP SR SP
  have fin : Hid (∀ (w5 : World) (D5 : Nat → Prop), Keep w w5 → Src w5 D5 B m S → QInv w5 w.heap.size w.heap.size bq D5 L →
      Calls Try.prog 14 #[.pointer (some ⟨bq, 0, none⟩)] w5 (fun e w6 => ∃ g, e = .returned (.slice (some ⟨g, 0, none⟩) m m) ∧ Keep w5 w6 ∧
            Calls Try.prog 13 #[.slice (some ⟨g, 0, none⟩) m m, .slice B m d] w6 (fun e w8 => e = .returned (.bool true) ∧ Keep w6 w8))) := fun w5 D5 k5 S5 Q5 => by
    refine (qall_fn Q5).mono ?_
    rintro e w7 ⟨v, T, rfl, AL⟩
    obtain ⟨k7, ⟨g, rfl, _, _, _, RT, _⟩, pT, sT⟩ := AL
    rw [← hm.out] at RT pT sT ⊢
    have S7 := S5.keep k7
    have same := both_same pT sT pR.out sR.out Q5.keys
    exact ⟨g, rfl, k7, rsame6_fn (some ⟨g, 0, none⟩) B m m d T S w7 RT S7.rd same.2⟩
  by_cases hin : id ∈ L.map (·.k)
  · have cO := qremove_fn Q4.out id hin
    unfold PodV.val at cO
    replace cO := Lib.hid cO
    have hfk := (find_keys (id := id) pR.out).2 hin
    replace hin := Lib.hid hin
    go_wp2_with fail
    refine cO.out.mono ?_
    rintro e w5 ⟨x, rfl, xi, xk, ⟨F5, ⟨D5, L5, Q5, P5, N5⟩, rq5, ok5⟩⟩
    have dl := drop_list P5 hkeys.out xk
    have K5 : Hid (Keep w w5) := F5.low K4.out lo4.out
    have S5 := S4.out.fr F5 N5
    have K6 : Hid (Keep w (w5.alloc (.cells #[.int .i64 x.k, .int .i64 x.p, .bool x.f, .int .i64 x.g, .slice x.A x.m x.c, .int .i64 x.a, .int .i64 x.h, .int .i64 x.d, .int .i64 x.t] 32))) := K5.out.trans (Keep.one _ _)
    have S6 := Lib.hid (S5.keep (Keep.one w5 (.cells #[.int .i64 x.k, .int .i64 x.p, .bool x.f, .int .i64 x.g, .slice x.A x.m x.c, .int .i64 x.a, .int .i64 x.h, .int .i64 x.d, .int .i64 x.t] 32)))
    have Q6 := Lib.hid (Q5.keep (Keep.one w5 (.cells #[.int .i64 x.k, .int .i64 x.p, .bool x.f, .int .i64 x.g, .slice x.A x.m x.c, .int .i64 x.a, .int .i64 x.h, .int .i64 x.d, .int .i64 x.t] 32)))
    have R6 : Hid (Req (w5.alloc (.cells #[.int .i64 x.k, .int .i64 x.p, .bool x.f, .int .i64 x.g, .slice x.A x.m x.c, .int .i64 x.a, .int .i64 x.h, .int .i64 x.d, .int .i64 x.t] 32)) w.heap.size x) := own_keep rq5 (Keep.one _ _)
    have C6 := Cel9.new w5 x 32 _ rfl
    have cF := Lib.hid (rfind_fn B m d S id _ S6.out.rd)
    have cH := Lib.hid (qhas_fn Q6.out id false (by simp only [Bool.false_eq_true, false_iff]; exact dl.1))
    have hxm : Hid (x.m ≤ 1000) := Q4.out.small xi
    have loN : Hid (∀ i, D5 i → w.heap.size ≤ i) := fun i hi => by
      rcases N5 i hi with h | h
      · exact lo4.out i h
      · exact Nat.le_trans K4.out.size h
    have nq : Hid (addN L5 (fun t => [x].getD t x) 1 = L5 ++ [nm x]) := by
      show addP L5 x = _
      exact if_neg (by rw [xk]; exact dl.1)
    have pq : Hid ((L5 ++ [nm x]).Perm L) := (List.perm_append_singleton _ _).trans P5.symm
    replace xi := Lib.hid xi
    replace xk := Lib.hid xk
    replace F5 := Lib.hid F5
    replace Q5 := Lib.hid Q5
    replace P5 := Lib.hid P5
    replace N5 := Lib.hid N5
    replace S5 := Lib.hid S5
    replace dl := Lib.hid dl
    replace rq5 := Lib.hid rq5
    replace ok5 := Lib.hid ok5
    obtain ⟨r, hr⟩ : ∃ r, r = findN S id m := ⟨_, rfl⟩
    rw [← hr] at cF hfk
    replace hr := Lib.hid hr
    clear cO
    obtain ⟨W6, hW6⟩ : ∃ W6, W6 = w5.alloc (.cells #[.int .i64 x.k, .int .i64 x.p, .bool x.f, .int .i64 x.g, .slice x.A x.m x.c, .int .i64 x.a, .int .i64 x.h, .int .i64 x.d, .int .i64 x.t] 32) := ⟨_, rfl⟩
    rw [← hW6] at K6 S6 Q6 R6 C6 cF cH
    go_wp2_with fail
    rw [← hW6]
    replace hW6 := Lib.hid hW6
    refine cF.out.mono ?_
    rintro e w6 ⟨rfl, rfl⟩
    clear cF
    go_wp2_with fail
    refine cH.out.mono ?_
    rintro e w6 ⟨rfl, rfl⟩
    clear cH
    have x0 := C6.e0; have x1 := C6.e1; have x2 := C6.e2; have x3 := C6.e3; have x4 := C6.e4; have x5 := C6.e5; have x6 := C6.e6; have x7 := C6.e7; have x8 := C6.e8
    simp only [Nat.zero_add] at x1 x2 x3 x4 x5 x6 x7 x8
    clear C6
    have Q7 := Q6.out.keep (Keep.one W6 (.cells #[.int .i64 x.k, .int .i64 x.p, .bool x.f, .int .i64 x.g, .slice x.A x.m x.c, .int .i64 x.a, .int .i64 x.h, .int .i64 x.d, .int .i64 x.t] 32))
    have S7 := S6.out.keep (Keep.one W6 (.cells #[.int .i64 x.k, .int .i64 x.p, .bool x.f, .int .i64 x.g, .slice x.A x.m x.c, .int .i64 x.a, .int .i64 x.h, .int .i64 x.d, .int .i64 x.t] 32))
    have K7 : Hid (Keep w (W6.alloc (.cells #[.int .i64 x.k, .int .i64 x.p, .bool x.f, .int .i64 x.g, .slice x.A x.m x.c, .int .i64 x.a, .int .i64 x.h, .int .i64 x.d, .int .i64 x.t] 32))) := K6.out.trans (Keep.one _ _)
    have SX : Src (W6.alloc (.cells #[.int .i64 x.k, .int .i64 x.p, .bool x.f, .int .i64 x.g, .slice x.A x.m x.c, .int .i64 x.a, .int .i64 x.h, .int .i64 x.d, .int .i64 x.t] 32)) D5 (some ⟨W6.heap.size, 0, none⟩) 1 (fun t => [x].getD t x) := src_new (L := [x]) (fun i hi => (Q6.out.lo i hi).2) (by simp) (fun y hy => by
      rw [List.mem_singleton.1 hy]
      exact R6.out.is ok5.out) (fun y hy a ha hm hd => by
      rw [List.mem_singleton.1 hy] at ha
      obtain ⟨cur, hk⟩ := row_kind R6.out (g := a.block) (by rw [ha]; rfl)
      exact Q6.out.kind _ hd ⟨cur, _, hk⟩) rfl x
    have cP := qpush_fn Q7 (some ⟨W6.heap.size, 0, none⟩) 1 1 (fun t => [x].getD t x) SX (by
      have h1 := P5.out.length_eq
      have h2 := hLn.out.2
      simp at h1 h2
      have := hm.out
      omega) (fun j hj => by
      obtain rfl : j = 0 := by omega
      exact hxm.out)
    rw [nq.out] at cP
    have e1 : (((L5 ++ [nm x]).length : Int) - (L5.length : Int)) = 1 := by rw [List.length_append]; simp; omega
    rw [e1] at cP
    replace e1 := Lib.hid e1
    replace cP := Lib.hid cP
    replace Q7 := Lib.hid Q7
    replace S7 := Lib.hid S7
    replace SX := Lib.hid SX
    go_wp2_with fail
    refine cP.out.mono ?_
    rintro e w8 ⟨rfl, D8, Q8, F8, N8⟩
    have K8 : Hid (Keep w w8) := F8.low K7.out loN.out
    have cA := Lib.hid (fin.out w8 D8 K8.out (S7.out.fr F8 N8) (Q8.perm pq.out))
    replace Q8 := Lib.hid Q8
    replace F8 := Lib.hid F8
    replace N8 := Lib.hid N8
    clear cP fin x0 x1 x2 x3 x4 x5 x6 x7 x8
    go_wp2_with fail
    refine cA.out.mono ?_
    rintro e w9 ⟨g, rfl, k9, c9⟩
    have K9 : Hid (Keep w w9) := K8.out.trans k9
    replace c9 := Lib.hid c9
    replace k9 := Lib.hid k9
    clear cA
    go_wp2_with fail
    refine c9.out.mono ?_
    rintro e wa ⟨rfl, ka⟩
    go_wp2
    go_ret
    exact ⟨rfl, K9.out.trans ka⟩
  · have cO := qremove_none Q4.out id hin
    unfold zpod PodV.val at cO
    replace cO := Lib.hid cO
    have hfk : ¬ 0 ≤ findN S id m := fun h => hin ((find_keys (id := id) pR.out).1 h)
    have hin := Lib.hid hin
    go_wp2_with fail
    refine cO.out.mono ?_
    rintro e w5 ⟨rfl, k5⟩
    have K5 : Hid (Keep w (w5.alloc (.cells #[.int .i64 0, .int .i64 0, .bool false, .int .i64 0, .slice none 0 0, .int .i64 0, .int .i64 0, .int .i64 0, .int .i64 0] 32))) := (K4.out.trans k5).trans (Keep.one _ _)
    have S5 := Lib.hid (S4.out.keep (k5.trans (Keep.one w5 (.cells #[.int .i64 0, .int .i64 0, .bool false, .int .i64 0, .slice none 0 0, .int .i64 0, .int .i64 0, .int .i64 0, .int .i64 0] 32))))
    have Q5 := Lib.hid (Q4.out.keep (k5.trans (Keep.one w5 (.cells #[.int .i64 0, .int .i64 0, .bool false, .int .i64 0, .slice none 0 0, .int .i64 0, .int .i64 0, .int .i64 0, .int .i64 0] 32))))
    have cF := Lib.hid (rfind_fn B m d S id _ S5.out.rd)
    have cH := Lib.hid (qhas_fn Q5.out id false (by simp only [Bool.false_eq_true, false_iff]; exact hin.out))
    have cA := Lib.hid (fin.out _ D4 K5.out S5.out Q5.out)
    replace k5 := Lib.hid k5
    obtain ⟨r, hr⟩ : ∃ r, r = findN S id m := ⟨_, rfl⟩
    rw [← hr] at cF hfk
    replace hr := Lib.hid hr
    clear cO fin
    go_wp2_with fail
    refine cF.out.mono ?_
    rintro e w6 ⟨rfl, rfl⟩
    clear cF
    go_wp2_with fail
    refine cH.out.mono ?_
    rintro e w6 ⟨rfl, rfl⟩
    clear cH
    go_wp2_with fail
    refine cA.out.mono ?_
    rintro e w9 ⟨g, rfl, k9, c9⟩
    have K9 : Hid (Keep w w9) := K5.out.trans k9
    replace c9 := Lib.hid c9
    replace k9 := Lib.hid k9
    clear cA
    go_wp2_with fail
    refine c9.out.mono ?_
    rintro e wa ⟨rfl, ka⟩
    go_wp2
    go_ret
    exact ⟨rfl, K9.out.trans ka⟩
end Go.Proofs.Ytmmpmpdjcmilkaa
