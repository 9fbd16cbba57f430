/-
  The law's wrong and awake. Condition: errors.errorType holds its own.
-/
import Derived.Test.YtmbeghngnnpmlaaDoorHigh11
namespace Go.Proofs.YtmbeghngnnpmlaaDoor.T11
open Go.RowKit Go.Sort Go.Lib Go.Shelf

set_option maxHeartbeats 1000000 in
theorem wrong_yes (c n : Int) (w : World) (hg : ErrT w) : Calls Tryd.prog 12 #[flt c n, .int .i64 c, .int .i64 n] w fun e w' => e = .returned (.bool true) ∧ Keep w w' := by
  have h1 := Lib.hid (code_yes c [] (.fault c n) _ w (.base _) (Or.inr ⟨_, rfl⟩) hg)
  have h2 : Hid (∀ W, Keep w W → Calls Tryd.prog 27 #[(Base.fault c n).val] W fun e w' => e = .returned (.tuple #[.int .i64 n, .bool true]) ∧ Keep W w') := fun W k => at_yes c n [] _ W (.base _) (hg.keep k)
  clear hg
  unfold flt
  go_enter Tryd.func12, Tryd.ntmps12
  go_wp2_with fail
  refine h1.out.mono ?_
  rintro e w1 ⟨rfl, k1⟩
  have k1 := Lib.hid k1
  go_wp2_with fail
  refine (h2.out _ k1.out).mono ?_
  rintro e w2 ⟨rfl, k2⟩
  have k2 := Lib.hid k2
  go_wp2
  go_ret
  exact ⟨rfl, k1.out.trans k2.out⟩
section
variable {w : World} {s : Int} {q p m : Nat} {L : List ClV}
theorem add_to (h : SI w s q p m L) (x : ClV) (hx : ClOk x) (hg : ErrT w) {M : List ClV} (hM : addL L s x = M) {c : Int} (hc : addC L s x = c) :
    Calls Tryd.prog 11 #[.pointer (some ⟨q, 0, none⟩), x.val] w fun e w' => e = .returned (fltC c) ∧ SI w' s q p m M ∧ Fr (· = m) w w' := by
  subst hM
  subst hc
  exact csadd_fn h x hx hg
theorem ok_small (k v : Int) (b : Bool) (h : -1000 ≤ k ∧ k ≤ 1000 ∧ -1000 ≤ v ∧ v ≤ 1000) : ClOk ⟨k, v, b⟩ := ⟨by show I64 k; unfold I64; omega, by show I64 v; unfold I64; omega⟩
theorem errT_si {w' : World} (h : ErrT w) (t : SI w s q p m L) (f : Fr (· = m) w w') : ErrT w' := errT_fr h t.t f
end
def L1 : List ClV := [⟨2, 9, true⟩]
theorem getL1 : getL L1 2 = ⟨2, 9, true⟩ := by rfl
section
variable {w : World} {s : Int} {q p m : Nat}
theorem pod_to {b : Nat} {T : TypeId} (h : SI w s q p m L1) (hb : w.heap[b]? = some (.cells #[.int .i64 3] T (0, 0))) : Calls Tryd.prog 19 #[.pointer (some ⟨q, 0, none⟩), .agg #[.int .i64 4, .int .i64 1, .int .i64 2, .int .i64 5, .bool false, .slice (some ⟨b, 0, none⟩) 1 1], .int .i64 7] w fun e w' => ∃ A d, e = .returned (.tuple #[.agg #[.int .i64 1, .int .i64 9, .bool true, .int .i64 5, .slice A 1 d, .int .i64 7, .int .i64 1, .int .i64 (-1), .int .i64 (-1)], .nilIface]) ∧ Keep w w' := by
  have ho : OpIs w ⟨4, 1, 2, 5, false, some ⟨b, 0, none⟩, 1, 1, fun _ => 3⟩ := by
    refine ⟨⟨by show 1 ≤ 9223372036854775807; decide, fun _ _ => by show (-9223372036854775808 : Int) ≤ 3 ∧ (3 : Int) ≤ 9223372036854775807; decide, fun _ => ⟨b, 0, rfl, fun j hj => ?_⟩⟩, fun h => (by cases h), ?_⟩
    · obtain rfl : j = 0 := by have : j < 1 := hj; omega
      rw [cell_of_row w b _ _ _ _ hb]
      rfl
    · show I64 4 ∧ I64 1 ∧ I64 2 ∧ I64 5
      unfold I64
      decide
  have := cspod_ok h ⟨4, 1, 2, 5, false, some ⟨b, 0, none⟩, 1, 1, fun _ => 3⟩ 7 (by show (2 : Int) ∈ keys L1; unfold keys L1; simp) ho (by show 1 ≤ 1048576; decide)
  refine this.mono fun e w' ⟨A, d, he, k, _⟩ => ⟨A, d, ?_, k⟩
  rw [he]
  show Ending.returned (.tuple #[(podV (getL L1 2) ⟨4, 1, 2, 5, false, some ⟨b, 0, none⟩, 1, 1, fun _ => 3⟩ 7 A d).val, .nilIface]) = _
  rw [getL1]
  rfl
theorem pod_no (h : SI w s q p m L1) : Calls Tryd.prog 19 #[.pointer (some ⟨q, 0, none⟩), .agg #[.int .i64 0, .int .i64 0, .int .i64 3, .int .i64 0, .bool false, .slice none 0 0], .int .i64 0] w fun e w' => e = .returned (.tuple #[.agg #[.int .i64 0, .int .i64 0, .bool false, .int .i64 0, .slice none 0 0, .int .i64 0, .int .i64 0, .int .i64 0, .int .i64 0], flt 5 1]) ∧ Keep w w' :=
  cspod_none h ⟨0, 0, 3, 0, false, none, 0, 0, fun _ => 0⟩ 0 (by show (3 : Int) ∉ keys L1; unfold keys L1; simp)
theorem high_to (h : SI w s q p m L1) : Calls Tryd.prog 17 #[.pointer (some ⟨q, 0, none⟩)] w fun e w' => e = .returned (.tuple #[.agg #[.int .i64 2, .int .i64 9, .bool true], .bool true]) ∧ Keep w w' := cshigh_fn h (by decide)
end
set_option maxRecDepth 100000 in
set_option maxHeartbeats 8000000 in
theorem awake_true (w : World) (hg : ErrT w) : Calls Tryd.prog 8 #[] w fun e w' => e = .returned (.bool true) ∧ Keep w w' := by
  replace hg := Lib.hid hg
  go_enter Tryd.func8, Tryd.ntmps8
  go_wp2_with fail
  refine (csnew_fn 2 (by unfold I64; omega) _).mono ?_
  rintro e w1 ⟨q, rfl, p, m, T1, k1, lq, lp, lm⟩
  rw [if_pos (by decide)] at T1
  have c1 := Lib.hid (add_to T1 ⟨2, 9, true⟩ (ok_small _ _ _ (by decide)) (hg.out.keep k1) (M := L1) (by rfl) (c := 0) (by rfl))
  have g1 : Hid (ErrT w1) := hg.out.keep k1
  replace T1 := Lib.hid T1
  replace k1 := Lib.hid k1
  replace lm := Lib.hid lm
  replace lp := Lib.hid lp
  replace lq := Lib.hid lq
  go_wp2_with fail
  refine c1.out.mono ?_
  rintro e w2 ⟨rfl, T2, F2⟩
  have k2 : Hid (Keep w w2) := F2.low k1.out (by rintro i rfl; exact lm.out)
  have g2 : Hid (ErrT w2) := errT_si g1.out T1.out F2
  have c2 := Lib.hid (add_to T2 ⟨2, 0, false⟩ (ok_small _ _ _ (by decide)) g2.out (M := L1) (by rfl) (c := 6) (by rfl))
  replace T2 := Lib.hid T2
  replace F2 := Lib.hid F2
  clear c1
  go_wp2_with fail
  refine c2.out.mono ?_
  rintro e w3 ⟨rfl, T3, F3⟩
  have k3 : Hid (Keep w w3) := F3.low k2.out (by rintro i rfl; exact lm.out)
  have g3 : Hid (ErrT w3) := errT_si g2.out T2.out F3
  replace F3 := Lib.hid F3
  obtain ⟨W3, hW3⟩ : ∃ W, W = w3.alloc (.cells #[.int .i64 3] 2) := ⟨_, rfl⟩
  have K3 : Hid (Keep w3 W3) := by rw [hW3]; exact Keep.one _ _
  have c3 := Lib.hid (pod_to (T := 2) (b := w3.heap.size) (T3.keep K3.out) (by rw [hW3]; exact heap_alloc_new _ _))
  have T3' := Lib.hid (T3.keep K3.out)
  have K3' : Hid (Keep w W3) := k3.out.trans K3.out
  replace T3 := Lib.hid T3
  clear c2
  go_wp2_with fail
  rw [← hW3]
  replace hW3 := Lib.hid hW3
  refine c3.out.mono ?_
  rintro e w4 ⟨A4, d4, rfl, k4⟩
  obtain ⟨W4, hW4⟩ : ∃ W, W = w4.alloc (.cells #[.int .i64 1, .int .i64 9, .bool true, .int .i64 5, .slice A4 1 d4, .int .i64 7, .int .i64 1, .int .i64 (-1), .int .i64 (-1)] 47) := ⟨_, rfl⟩
  have K4 : Hid (Keep w W4) := by rw [hW4]; exact (K3'.out.trans k4).alloc _
  have T4 : Hid (SI W4 2 q p m L1) := by rw [hW4]; exact (T3'.out.keep k4).keep (Keep.one _ _)
  have B4 : Hid (W4.heap[w4.heap.size]? = some (.cells #[.int .i64 1, .int .i64 9, .bool true, .int .i64 5, .slice A4 1 d4, .int .i64 7, .int .i64 1, .int .i64 (-1), .int .i64 (-1)] 47 (0, 0))) := by rw [hW4]; exact heap_alloc_new _ _
  have c4 := Lib.hid (pod_no T4.out)
  replace k4 := Lib.hid k4
  clear c3
  go_wp2_with fail
  rw [← hW4]
  replace hW4 := Lib.hid hW4
  refine c4.out.mono ?_
  rintro e w5 ⟨rfl, k5⟩
  obtain ⟨W5, hW5⟩ : ∃ W, W = w5.alloc (.cells #[.int .i64 0, .int .i64 0, .bool false, .int .i64 0, .slice none 0 0, .int .i64 0, .int .i64 0, .int .i64 0, .int .i64 0] 47) := ⟨_, rfl⟩
  have K5 : Hid (Keep w W5) := by rw [hW5]; exact (K4.out.trans k5).alloc _
  have T5 : Hid (SI W5 2 q p m L1) := by rw [hW5]; exact (T4.out.keep k5).keep (Keep.one _ _)
  have B5 : Hid (W5.heap[w4.heap.size]? = some (.cells #[.int .i64 1, .int .i64 9, .bool true, .int .i64 5, .slice A4 1 d4, .int .i64 7, .int .i64 1, .int .i64 (-1), .int .i64 (-1)] 47 (0, 0))) := by rw [hW5]; exact (Keep.one _ _).block (k5.block B4.out)
  have c5 := Lib.hid (high_to T5.out)
  replace k5 := Lib.hid k5
  clear c4
  go_wp2_with fail
  rw [← hW5]
  replace hW5 := Lib.hid hW5
  refine c5.out.mono ?_
  rintro e w6 ⟨rfl, k6⟩
  obtain ⟨W6, hW6⟩ : ∃ W, W = w6.alloc (.cells #[.int .i64 2, .int .i64 9, .bool true] 30) := ⟨_, rfl⟩
  have K6 : Hid (Keep w W6) := by rw [hW6]; exact (K5.out.trans k6).alloc _
  have T6 : Hid (SI W6 2 q p m L1) := by rw [hW6]; exact (T5.out.keep k6).keep (Keep.one _ _)
  have B6 : Hid (W6.heap[w4.heap.size]? = some (.cells #[.int .i64 1, .int .i64 9, .bool true, .int .i64 5, .slice A4 1 d4, .int .i64 7, .int .i64 1, .int .i64 (-1), .int .i64 (-1)] 47 (0, 0))) := by rw [hW6]; exact (Keep.one _ _).block (k6.block B5.out)
  have C6 : Hid (W6.heap[w6.heap.size]? = some (.cells #[.int .i64 2, .int .i64 9, .bool true] 30 (0, 0))) := by rw [hW6]; exact heap_alloc_new _ _
  replace k6 := Lib.hid k6
  clear c5
  obtain ⟨v0, hv0⟩ : ∃ v, v = fltC 0 := ⟨_, rfl⟩
  obtain ⟨v6, hv6⟩ : ∃ v, v = fltC 6 := ⟨_, rfl⟩
  obtain ⟨v5, hv5⟩ : ∃ v, v = flt 5 1 := ⟨_, rfl⟩
  have d6 : Hid (∀ W, Keep w W → Calls Tryd.prog 12 #[v6, .int .i64 6, .int .i64 0] W fun e w' => e = .returned (.bool true) ∧ Keep W w') := fun W k => by rw [hv6]; exact wrong_yes 6 0 W (hg.out.keep k)
  have d5 : Hid (∀ W, Keep w W → Calls Tryd.prog 12 #[v5, .int .i64 5, .int .i64 1] W fun e w' => e = .returned (.bool true) ∧ Keep W w') := fun W k => by rw [hv5]; exact wrong_yes 5 1 W (hg.out.keep k)
  rw [← hv0, ← hv6, ← hv5]
  have hv0' : v0 = .nilIface := hv0
  clear hv0
  subst hv0'
  replace hv6 := Lib.hid hv6
  replace hv5 := Lib.hid hv5
  go_wp2_with fail
  rw [← hW6]
  replace hW6 := Lib.hid hW6
  refine (d6.out _ K6.out).mono ?_
  rintro e w7 ⟨rfl, k7⟩
  have K7 : Hid (Keep w w7) := K6.out.trans k7
  have T7 : Hid (SI w7 2 q p m L1) := T6.out.keep k7
  have B7 := k7.block B6.out
  have C7 := k7.block C6.out
  have b1 : w7.cell? ⟨w4.heap.size, 1, none⟩ = some (.int .i64 9) := by rw [cell_of_row w7 _ _ _ _ _ B7]; rfl
  have b2 : w7.cell? ⟨w4.heap.size, 2, none⟩ = some (.bool true) := by rw [cell_of_row w7 _ _ _ _ _ B7]; rfl
  have b3 : w7.cell? ⟨w4.heap.size, 3, none⟩ = some (.int .i64 5) := by rw [cell_of_row w7 _ _ _ _ _ B7]; rfl
  have b5 : w7.cell? ⟨w4.heap.size, 5, none⟩ = some (.int .i64 7) := by rw [cell_of_row w7 _ _ _ _ _ B7]; rfl
  have b6 : w7.cell? ⟨w4.heap.size, 6, none⟩ = some (.int .i64 1) := by rw [cell_of_row w7 _ _ _ _ _ B7]; rfl
  have b7 : w7.cell? ⟨w4.heap.size, 7, none⟩ = some (.int .i64 (-1)) := by rw [cell_of_row w7 _ _ _ _ _ B7]; rfl
  replace k7 := Lib.hid k7
  replace B7 := Lib.hid B7
  replace C7 := Lib.hid C7
  go_wp2_with fail
  refine (d5.out _ K7.out).mono ?_
  rintro e w8 ⟨rfl, k8⟩
  have K8 : Hid (Keep w w8) := K7.out.trans k8
  have T8 : Hid (SI w8 2 q p m L1) := T7.out.keep k8
  have C8 := k8.block C7.out
  have b8 : w8.cell? ⟨w6.heap.size, 0, none⟩ = some (.int .i64 2) := by rw [cell_of_row w8 _ _ _ _ _ C8]; rfl
  replace k8 := Lib.hid k8
  replace C8 := Lib.hid C8
  clear b1 b2 b3 b5 b6 b7
  have cA := csall_fn T8.out (by decide)
  have el : L1.length = 1 := rfl
  rw [el] at cA
  replace cA := Lib.hid cA
  go_wp2_with fail
  refine cA.out.mono ?_
  rintro e w9 ⟨B9, d9, rfl, k9, O9⟩
  have K9 : Hid (Keep w w9) := K8.out.trans k9
  replace k9 := Lib.hid k9
  replace O9 := Lib.hid O9
  clear b8 cA
  have cN := Lib.hid (fun W => csadd_nil zp W)
  unfold zp ClV.val at cN
  go_wp2_with fail
  refine (cN.out _).mono ?_
  rintro e w10 ⟨rfl, k10⟩
  have K10 : Hid (Keep w w10) := K9.out.trans k10
  replace k10 := Lib.hid k10
  have dz := Lib.hid (wrong_yes 5 0 w10 (hg.out.keep K10.out))
  go_wp2_with fail
  refine dz.out.mono ?_
  rintro e w11 ⟨rfl, k11⟩
  have K11 : Hid (Keep w w11) := K10.out.trans k11
  replace k11 := Lib.hid k11
  go_wp2
  go_ret
  exact ⟨rfl, K11.out⟩
end Go.Proofs.YtmbeghngnnpmlaaDoor.T11
