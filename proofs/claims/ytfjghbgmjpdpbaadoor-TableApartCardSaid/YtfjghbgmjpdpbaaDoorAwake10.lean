/-
  The law's awake returns true. Condition: errors.errorType holds its own.
-/
import Derived.Test.YtfjghbgmjpdpbaaDoorSide10
namespace Go.Proofs.YtfjghbgmjpdpbaaDoor.T10
open Go.RowKit Go.Sort Go.Lib

section
variable {w : World} {s : Int} {p m : Nat} {L : List PrV}
theorem add_to (h : TI w s p m L) (k v : Int) (hx : PrOk ⟨k, v⟩) {M : List PrV} (hM : addL L s ⟨k, v⟩ = M) {c : Int} (hc : addC L s ⟨k, v⟩ = c) :
    Calls Tryd.prog 21 #[.pointer (some ⟨p, 0, none⟩), .int .i64 k, .int .i64 v] w fun e w' => e = .returned (errC c) ∧ TI w' s p m M ∧ Fr (· = m) w w' := by
  subst hM
  subst hc
  exact tadd_fn h ⟨k, v⟩ hx
theorem set_to (h : TI w s p m L) (k v : Int) (hx : PrOk ⟨k, v⟩) {M : List PrV} (hM : repL L ⟨k, v⟩ = M) {c : Int} (hc : setC L ⟨k, v⟩ = c) :
    Calls Tryd.prog 27 #[.pointer (some ⟨p, 0, none⟩), .int .i64 k, .int .i64 v] w fun e w' => e = .returned (errC c) ∧ TI w' s p m M ∧ Fr (· = m) w w' := by
  subst hM
  subst hc
  exact tset_fn h ⟨k, v⟩ hx
theorem get_to (h : TI w s p m L) (k : Int) {v : Int} (hv : (getL L k).v = v) {b : Bool} (hb : decide (k ∈ keys L) = b) :
    Calls Tryd.prog 25 #[.pointer (some ⟨p, 0, none⟩), .int .i64 k] w fun e w' => e = .returned (.tuple #[.int .i64 v, .bool b]) ∧ w = w' := by
  subst hv
  subst hb
  exact tget_fn h k
theorem ok_small (k v : Int) (h : -1000 ≤ k ∧ k ≤ 1000 ∧ -1000 ≤ v ∧ v ≤ 1000) : PrOk ⟨k, v⟩ := ⟨by show I64 k; unfold I64; omega, by show I64 v; unfold I64; omega⟩
end
set_option maxRecDepth 100000 in
set_option maxHeartbeats 8000000 in
theorem awake_true (w : World) (hg : ErrT w) : Calls Tryd.prog 9 #[] w fun e w' => e = .returned (.bool true) ∧ Keep w w' := by
  replace hg := Lib.hid hg
  go_enter Tryd.func9, Tryd.ntmps9
  go_wp2_with fail
  refine (tnew_fn 1 (by unfold I64; omega) _).mono ?_
  rintro e w1 ⟨p, rfl, m, T1, k1, lp, lm⟩
  rw [if_pos (by decide)] at T1
  have c1 := Lib.hid (add_to T1 7 70 (ok_small _ _ (by decide)) (M := [⟨7, 70⟩]) (by rfl) (c := 0) (by rfl))
  replace T1 := Lib.hid T1
  replace k1 := Lib.hid k1
  replace lm := Lib.hid lm
  go_wp2_with fail
  refine c1.out.mono ?_
  rintro e w2 ⟨rfl, T2, F2⟩
  have k2 : Hid (Keep w w2) := F2.low k1.out (by rintro i rfl; exact lm.out)
  have c2 := Lib.hid (add_to T2 8 80 (ok_small _ _ (by decide)) (M := [⟨7, 70⟩]) (by rfl) (c := 7) (by rfl))
  replace T2 := Lib.hid T2
  replace F2 := Lib.hid F2
  clear c1
  go_wp2_with fail
  refine c2.out.mono ?_
  rintro e w3 ⟨rfl, T3, F3⟩
  have k3 : Hid (Keep w w3) := F3.low k2.out (by rintro i rfl; exact lm.out)
  have c3 := Lib.hid (add_to T3 7 71 (ok_small _ _ (by decide)) (M := [⟨7, 70⟩]) (by rfl) (c := 6) (by rfl))
  replace T3 := Lib.hid T3
  replace F3 := Lib.hid F3
  clear c2
  go_wp2_with fail
  refine c3.out.mono ?_
  rintro e w4 ⟨rfl, T4, F4⟩
  have k4 : Hid (Keep w w4) := F4.low k3.out (by rintro i rfl; exact lm.out)
  have c4 := Lib.hid (get_to T4 7 (v := 70) (by rfl) (b := true) (by rfl))
  have c5 := Lib.hid (get_to T4 8 (v := 0) (by rfl) (b := false) (by rfl))
  replace T4 := Lib.hid T4
  replace F4 := Lib.hid F4
  clear c3
  go_wp2_with fail
  refine c4.out.mono ?_
  rintro e w5 ⟨rfl, rfl⟩
  go_wp2_with fail
  refine c5.out.mono ?_
  rintro e w5 ⟨rfl, rfl⟩
  clear c4 c5
  have d1 := Lib.hid (code_fn 7 w4 (hg.out.keep k4.out))
  obtain ⟨e0, he0⟩ : ∃ v, v = errC 0 := ⟨_, rfl⟩
  obtain ⟨e7, he7⟩ : ∃ v, v = errC 7 := ⟨_, rfl⟩
  obtain ⟨e6, he6⟩ : ∃ v, v = errC 6 := ⟨_, rfl⟩
  have hd6 : Hid (∀ W, Keep w W → Calls Tryd.prog 19 #[e6] W fun e w' => e = .returned (.int .i64 6) ∧ Keep W w') := fun W k => by rw [he6]; exact code_fn 6 W (hg.out.keep k)
  rw [← he7] at d1
  rw [← he0, ← he6, ← he7]
  have he0' : e0 = .nilIface := he0
  clear he0
  subst he0'
  replace he7 := Lib.hid he7
  replace he6 := Lib.hid he6
  go_wp2_with fail
  refine d1.out.mono ?_
  rintro e w6 ⟨rfl, k6⟩
  have k6' : Hid (Keep w w6) := k4.out.trans k6
  have T6 : Hid (TI w6 1 p m [⟨7, 70⟩]) := T4.out.keep k6
  replace k6 := Lib.hid k6
  clear d1
  go_wp2_with fail
  refine (hd6.out _ k6'.out).mono ?_
  rintro e w7 ⟨rfl, k7⟩
  have k7' : Hid (Keep w w7) := k6'.out.trans k7
  have T7 : Hid (TI w7 1 p m [⟨7, 70⟩]) := T6.out.keep k7
  replace k7 := Lib.hid k7
  have d2 := Lib.hid (tids_fn T7.out (by decide))
  go_wp2_with fail
  refine d2.out.mono ?_
  rintro e w8 ⟨B, d, rfl, k8, R8⟩
  have k8' : Hid (Keep w w8) := k7'.out.trans k8
  have T8 : Hid (TI w8 1 p m [⟨7, 70⟩]) := T7.out.keep k8
  replace k8 := Lib.hid k8
  obtain ⟨W8, hW8⟩ : ∃ W, W = w8.alloc (.cells #[.int .i64 7] 3) := ⟨_, rfl⟩
  have K8 : Hid (Keep w8 W8) := by rw [hW8]; exact Keep.one _ _
  have r1 : Rd W8 B 1 fun j => (row [⟨7, 70⟩] j).k := ids_rd (own_keep R8 K8.out) (by decide) (fun j hj => T8.out.ok _ (row_mem hj))
  have r2 : Rd W8 (some ⟨w8.heap.size, 0, none⟩) 1 fun _ => 7 := ⟨by decide, fun _ _ => by decide, fun _ => ⟨_, _, rfl, fun j hj => by
    obtain rfl : j = 0 := by omega
    rw [hW8]
    show World.cell? _ _ = _
    rw [World.cell?_alloc_new]
    rfl⟩⟩
  have d3 := Lib.hid (fun c1 c2 => equal_yes B (some ⟨w8.heap.size, 0, none⟩) 1 c1 c2 _ _ W8 r1 r2 (fun j hj => by obtain rfl : j = 0 := (by omega); rfl))
  have T9 : Hid (TI W8 1 p m [⟨7, 70⟩]) := T8.out.keep K8.out
  have k9 : Hid (Keep w W8) := k8'.out.trans K8.out
  replace R8 := Lib.hid R8
  clear r1 r2 d2
  replace hW8 := Lib.hid hW8
  go_wp2_with fail
  rw [← hW8.out]
  refine (d3.out _ _).mono ?_
  rintro e w10 ⟨rfl, dr⟩
  have k10 : Hid (Keep w w10) := k9.out.trans dr.keep
  have T10 : Hid (TI w10 1 p m [⟨7, 70⟩]) := T9.out.keep dr.keep
  replace dr := Lib.hid dr
  have d4 := Lib.hid (tlen_fn T10.out)
  go_wp2_with fail
  refine d4.out.mono ?_
  rintro e w11 ⟨rfl, rfl⟩
  have d5 := Lib.hid (troom_fn T10.out)
  clear d4 d3
  go_wp2_with fail
  refine d5.out.mono ?_
  rintro e w12 ⟨rfl, dr2⟩
  have k12 : Hid (Keep w w12) := k10.out.trans dr2.keep
  have T12 : TI w12 1 p m [⟨7, 70⟩] := T10.out.keep dr2.keep
  have d6 := Lib.hid (set_to T12 8 1 (ok_small _ _ (by decide)) (M := [⟨7, 70⟩]) (by rfl) (c := 5) (by rfl))
  replace T12 := Lib.hid T12
  replace dr2 := Lib.hid dr2
  clear d5
  go_wp2_with fail
  refine d6.out.mono ?_
  rintro e w13 ⟨rfl, T13, F13⟩
  have k13 : Hid (Keep w w13) := F13.low k12.out (by rintro i rfl; exact lm.out)
  replace T13 := Lib.hid T13
  replace F13 := Lib.hid F13
  obtain ⟨e5, he5⟩ : ∃ v, v = errC 5 := ⟨_, rfl⟩
  have hd5 : Hid (∀ W, Keep w W → Calls Tryd.prog 19 #[e5] W fun e w' => e = .returned (.int .i64 5) ∧ Keep W w') := fun W k => by rw [he5]; exact code_fn 5 W (hg.out.keep k)
  rw [← he5]
  have nl : Hid (∀ W, Calls Tryd.prog 21 #[.pointer none, .int .i64 1, .int .i64 1] W fun e w' => e = .returned e5 ∧ W = w') := fun W => by rw [he5]; exact tbadd_nil 1 1 W
  replace he5 := Lib.hid he5
  clear d6
  go_wp2_with fail
  refine (hd5.out _ k13.out).mono ?_
  rintro e w14 ⟨rfl, k14⟩
  have k14' : Hid (Keep w w14) := k13.out.trans k14
  replace k14 := Lib.hid k14
  go_wp2_with fail
  refine (nl.out _).mono ?_
  rintro e w15 ⟨rfl, rfl⟩
  go_wp2_with fail
  refine (hd5.out _ k14'.out).mono ?_
  rintro e w15 ⟨rfl, k15⟩
  have k15' : Hid (Keep w w15) := k14'.out.trans k15
  replace k15 := Lib.hid k15
  go_wp2_with fail
  refine (tblen_nil _).mono ?_
  rintro e w16 ⟨rfl, rfl⟩
  go_wp2
  go_ret
  exact ⟨rfl, k15'.out⟩
end Go.Proofs.YtfjghbgmjpdpbaaDoor.T10
