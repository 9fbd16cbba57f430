/-
  container/heap's Push, Pop and Remove over a heap's timers. Conditions: fewer than 1000 timers; the place lies in the list.
-/
import Derived.Test.YtdjakljkcjadhaaDown9
namespace Go.Proofs.Ytdjakljkcjadhaa.T9
open Go.RowKit Go.Sort Go.Lib

set_option maxRecDepth 100000 in
set_option maxHeartbeats 8000000 in
theorem heappush_fn {bq : Nat} {M : (Nat → Prop) → World → Nat → (Nat → TmV) → Prop} (HC : HeapC bq M) {D : Nat → Prop} {w : World} {n : Nat} {Q : Nat → TmV} (h : M D w n Q) (hQ : HeapQ Q n) (hn : n < 1000) (x : TmV) (hx : ∀ j, j < n → (Q j).k ≠ x.k) (hok : TmOk x) :
    Calls Try.prog 27 #[.iface 62 (.pointer (some ⟨bq, 0, none⟩)), .iface 33 x.val] w fun e w' => e = .returned (.tuple #[]) ∧ ∃ D' Q', M D' w' (n + 1) Q' ∧ HeapQ Q' (n + 1) ∧ (lst Q' (n + 1)).Perm (x :: lst Q n) ∧ Fr D w w' ∧ ∀ k, D' k → D k ∨ w.heap.size ≤ k := by
  have m1 := Try.tPush
  have m2 := Try.tLen
  have cP := Lib.hid (HC.push h hn x hx hok)
  have hQ := Lib.hid hQ
  clear h hx hok
  generalize x.val = xv at cP ⊢
  go_enter Try.func27, Try.ntmps27
  go_wp2_with fail
  refine cP.out.mono ?_
  rintro e w1 ⟨rfl, D', H1, F1, N1⟩
  have cL := Lib.hid (HC.len H1)
  have cU := Lib.hid (up_fn HC H1 (n + 1) n (by omega) (Nat.le_refl _) (up_start hQ.out x))
  replace H1 := Lib.hid H1
  replace F1 := Lib.hid F1
  replace N1 := Lib.hid N1
  go_wp2_with fail
  refine cL.out.mono ?_
  rintro e w2 ⟨rfl, rfl⟩
  go_wp2_with fail
  refine cU.out.mono ?_
  rintro e w3 ⟨rfl, Q3, H3, F3, HQ3, P3, _⟩
  have F4 := Lib.hid (F1.out.trans F3 N1.out)
  replace H3 := Lib.hid H3
  replace F3 := Lib.hid F3
  replace HQ3 := Lib.hid HQ3
  replace P3 := Lib.hid P3
  go_wp2
  go_end0
  refine ⟨rfl, D', Q3, H3.out, HQ3.out, P3.out.trans ?_, F4.out, N1.out⟩
  rw [lst_put]
  exact List.perm_append_singleton x _

set_option maxRecDepth 100000 in
set_option maxHeartbeats 8000000 in
theorem heappop_fn {bq : Nat} {M : (Nat → Prop) → World → Nat → (Nat → TmV) → Prop} (HC : HeapC bq M) {D : Nat → Prop} {w : World} {n : Nat} {Q : Nat → TmV} (h : M D w (n + 1) Q) (hQ : HeapQ Q (n + 1)) :
    Calls Try.prog 28 #[.iface 62 (.pointer (some ⟨bq, 0, none⟩))] w fun e w' => e = .returned (.iface 33 (Q 0).val) ∧ ∃ R, M D w' n R ∧ HeapQ R n ∧ (lst Q (n + 1)).Perm (Q 0 :: lst R n) ∧ Fr D w w' := by
  have hlim := HC.lim h
  have m1 := Try.tLen
  have m2 := Try.tSwap
  have m3 := Try.tPop
  have cL := Lib.hid (HC.len h)
  have cS := Lib.hid (HC.swap h 0 n (by omega) (by omega))
  have hQ := Lib.hid hQ
  clear h
  obtain ⟨xv, hxv⟩ : ∃ xv, xv = (Q 0).val := ⟨_, rfl⟩
  rw [← hxv]
  replace hxv := Lib.hid hxv
  go_enter Try.func28, Try.ntmps28
  go_wp2_with fail
  refine cL.out.mono ?_
  rintro e w1 ⟨rfl, rfl⟩
  clear cL
  go_wp2_with fail
  refine cS.out.mono ?_
  rintro e w2 ⟨rfl, H2, F2⟩
  have cD := Lib.hid (down_fn HC H2 n 0 (Nat.zero_le _) (by omega) (dn_start hQ.out (Nat.zero_le _)))
  replace F2 := Lib.hid F2
  replace H2 := Lib.hid H2
  clear cS
  go_wp2_with fail
  refine cD.out.mono ?_
  rintro e w3 ⟨m, rfl, R, H3, F3, P3, T3, d1, d2⟩
  have HR : Hid (HeapQ R n) := by
    cases m with
    | true => exact d1 rfl
    | false => exact up_done (d2 rfl) (Or.inl rfl)
  have F4 := Lib.hid (F2.out.same F3)
  have cP := HC.pop H3
  have eR : R n = Q 0 := by rw [T3 n (Nat.le_refl _), sw_j]
  have PP : Hid ((lst Q (n + 1)).Perm (Q 0 :: lst R n)) := by
    refine (lst_swap Q (i := 0) (j := n) (by omega) (by omega)).symm.trans ?_
    rw [lst_succ, sw_j]
    exact (P3.symm.append_right _).trans (List.perm_append_singleton _ _)
  rw [eR, ← hxv.out] at cP
  replace cP := Lib.hid cP
  replace H3 := Lib.hid H3
  replace F3 := Lib.hid F3
  clear cD d1 d2 P3 T3 eR
  go_wp2_with fail
  refine cP.out.mono ?_
  rintro e w5 ⟨rfl, H5, F5⟩
  have F6 := Lib.hid (F4.out.same F5)
  replace H5 := Lib.hid H5
  replace F5 := Lib.hid F5
  go_wp2
  go_ret
  exact ⟨rfl, R, H5.out, HR.out, PP.out, F6.out⟩

set_option maxRecDepth 100000 in
set_option maxHeartbeats 8000000 in
theorem heapremove_fn {bq : Nat} {M : (Nat → Prop) → World → Nat → (Nat → TmV) → Prop} (HC : HeapC bq M) {D : Nat → Prop} {w : World} {n : Nat} {Q : Nat → TmV} (h : M D w (n + 1) Q) (hQ : HeapQ Q (n + 1)) (i : Nat) (hi : i ≤ n) :
    Calls Try.prog 29 #[.iface 62 (.pointer (some ⟨bq, 0, none⟩)), .int .i64 i] w fun e w' => e = .returned (.iface 33 (Q i).val) ∧ ∃ R, M D w' n R ∧ HeapQ R n ∧ (lst Q (n + 1)).Perm (Q i :: lst R n) ∧ Fr D w w' := by
  have hlim := HC.lim h
  have m1 := Try.tLen
  have m2 := Try.tSwap
  have m3 := Try.tPop
  have cL := Lib.hid (HC.len h)
  have H := Lib.hid h
  have hQ := Lib.hid hQ
  clear h
  by_cases hin : i = n
  · subst hin
    have cP := Lib.hid (HC.pop H.out)
    generalize (Q i).val = xv at cP ⊢
    go_enter Try.func29, Try.ntmps29
    go_wp2_with fail
    refine cL.out.mono ?_
    rintro e w1 ⟨rfl, rfl⟩
    clear cL
    go_wp2_with fail
    refine cP.out.mono ?_
    rintro e w5 ⟨rfl, H5, F5⟩
    replace H5 := Lib.hid H5
    replace F5 := Lib.hid F5
    go_wp2
    go_ret
    refine ⟨rfl, Q, H5.out, hQ.out.less (by omega), ?_, F5.out⟩
    rw [lst_succ]
    exact List.perm_append_singleton _ _
  · have hlt : i < n := by omega
    have hne : ¬ (n : Int) = (i : Int) := by omega
    have cS := Lib.hid (HC.swap H.out i n (by omega) (by omega))
    obtain ⟨xv, hxv⟩ : ∃ xv, xv = (Q i).val := ⟨_, rfl⟩
    rw [← hxv]
    replace hxv := Lib.hid hxv
    go_enter Try.func29, Try.ntmps29
    go_wp2_with fail
    refine cL.out.mono ?_
    rintro e w1 ⟨rfl, rfl⟩
    clear cL
    go_wp2_with fail
    refine cS.out.mono ?_
    rintro e w2 ⟨rfl, H2, F2⟩
    have cD := Lib.hid (down_fn HC H2 n i (by omega) (by omega) (dn_start hQ.out hi))
    replace F2 := Lib.hid F2
    replace H2 := Lib.hid H2
    clear cS
    go_wp2_with fail
    refine cD.out.mono ?_
    rintro e w3 ⟨m, rfl, R, H3, F3, P3, T3, d1, d2⟩
    have F4 := Lib.hid (F2.out.same F3)
    have eR : Hid (R n = Q i) := by show R n = Q i; rw [T3 n (Nat.le_refl _), sw_j]
    have PP : Hid ((lst Q (n + 1)).Perm (Q i :: lst R n)) := by
      refine (lst_swap Q (i := i) (j := n) (by omega) (by omega)).symm.trans ?_
      rw [lst_succ, sw_j]
      exact (P3.symm.append_right _).trans (List.perm_append_singleton _ _)
    replace F3 := Lib.hid F3
    cases m with
    | true =>
      have HR : Hid (HeapQ R n) := d1 rfl
      have cP := HC.pop H3
      rw [eR.out, ← hxv.out] at cP
      replace cP := Lib.hid cP
      replace H3 := Lib.hid H3
      clear cD d1 d2 P3 T3 eR
      go_wp2_with fail
      refine cP.out.mono ?_
      rintro e w5 ⟨rfl, H5, F5⟩
      have F6 := Lib.hid (F4.out.same F5)
      replace H5 := Lib.hid H5
      replace F5 := Lib.hid F5
      go_wp2
      go_ret
      exact ⟨rfl, R, H5.out, HR.out, PP.out, F6.out⟩
    | false =>
      have cU := Lib.hid (up_fn HC H3 n i hlt (by omega) (d2 rfl))
      replace H3 := Lib.hid H3
      clear cD d1 d2 P3 T3
      go_wp2_with fail
      refine cU.out.mono ?_
      rintro e w4 ⟨rfl, S, H4, F5, HS, P4, T4⟩
      have F6 := Lib.hid (F4.out.same F5)
      have eS : S n = Q i := (T4 n (Nat.le_refl _)).trans eR.out
      have cP := HC.pop H4
      rw [eS, ← hxv.out] at cP
      have PS : Hid ((lst Q (n + 1)).Perm (Q i :: lst S n)) := PP.out.trans (P4.symm.cons _)
      replace cP := Lib.hid cP
      replace H4 := Lib.hid H4
      replace F5 := Lib.hid F5
      replace HS := Lib.hid HS
      clear P4 T4 eS eR cU
      go_wp2_with fail
      refine cP.out.mono ?_
      rintro e w5 ⟨rfl, H5, F7⟩
      have F8 := Lib.hid (F6.out.same F7)
      replace H5 := Lib.hid H5
      replace F7 := Lib.hid F7
      go_wp2
      go_ret
      exact ⟨rfl, S, H5.out, HS.out, PS.out, F8.out⟩
end Go.Proofs.Ytdjakljkcjadhaa.T9
