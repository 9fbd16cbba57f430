/-
  FaultWraps: the walk. Conditions: the three listed variables hold their own; the table of powers holds numbers, whichever.
-/
import Derived.Test.YtellekfpkdnioaaDoorWrapsLaw
namespace Go.Proofs.YtellekfpkdnioaaDoor
open Go.RowKit Go.Extern.Stop Go.Stop Go.Extern

theorem Hit.keep {w w5 : World} {o : Obj} {n : Nat} (hn : n = w.heap.size) (h : Hit ⟨n, 0, none⟩ (w.alloc o) w5) : Keep w w5 := by
  subst hn
  have hk0 := Keep.one w o
  have hsz : (w.alloc o).heap.size = w.heap.size + 1 := by simp
  have hg := h.1
  refine ⟨hg.os.trans hk0.os, hg.tape.trans hk0.tape, hg.output.trans hk0.output, Nat.le_trans hk0.size hg.size, fun k hk => ?_⟩
  rw [hg.block k (by omega) (by simp; omega), Below.block hk0 k hk]
theorem ne_wrap (c : Int) : c ≠ wrap64 (c + 1) := by unfold wrap64; omega
set_option maxRecDepth 100000 in
set_option maxHeartbeats 8000000 in
theorem wraps_out (N F : Bool) (c n k : Int) (A : Option Addr) (m cap : Nat) (w : World) (hv : Vars w) (hsm : m ≤ 9223372036854775807) (hm : N = true ∨ 20 < m) :
    Calls Tryd.prog 4 #[.agg #[.bool N, .slice A m cap, .int .i64 c, .int .i64 n, .bool F], .int .i64 k] w fun e w' => e = .returned (.bool true) ∧ Keep w w' := by
  have hk0 := Keep.one w (.cells #[.bool N, .slice A m cap, .int .i64 c, .int .i64 n, .bool F] 24)
  have hv := Lib.hid (hv.keep hk0)
  have hkH := Lib.hid hk0
  clear hk0
  by_cases hm2 : 20 < m
  · clear hm
    go_enter Tryd.func4, Tryd.ntmps4
    go_wp2_with fail
    refine (awake_true _ hv.out).mono ?_
    rintro e w1 ⟨rfl, h⟩
    have k1 := Lib.hid h
    have c1 := h.cell (a := ⟨w.heap.size, 0 + 1, none⟩) (v := .slice A m cap) (by simp)
    replace h := Lib.hid h
    go_wp2_with fail
    refine (awake_true _ (hv.out.keep k1.out)).mono ?_
    rintro e w2 ⟨rfl, h⟩
    have k2 := Lib.hid (k1.out.trans h)
    replace h := Lib.hid h
    go_wp2
    go_ret
    exact ⟨rfl, hkH.out.trans k2.out⟩
  · obtain rfl : N = true := by rcases hm with h | h <;> first | exact h | omega
    clear hm
    go_enter Tryd.func4, Tryd.ntmps4
    go_wp2_with fail
    refine (awake_true _ hv.out).mono ?_
    rintro e w1 ⟨rfl, h⟩
    have k1 := Lib.hid h
    have c1 := h.cell (a := ⟨w.heap.size, 0 + 1, none⟩) (v := .slice A m cap) (by simp)
    have c0 := h.cell (a := ⟨w.heap.size, 0, none⟩) (v := .bool true) (by simp)
    replace h := Lib.hid h
    go_wp2_with fail
    refine (awake_true _ (hv.out.keep k1.out)).mono ?_
    rintro e w2 ⟨rfl, h⟩
    have k2 := Lib.hid (k1.out.trans h)
    replace h := Lib.hid h
    go_wp2
    go_ret
    exact ⟨rfl, hkH.out.trans k2.out⟩

set_option maxRecDepth 100000 in
set_option maxHeartbeats 16000000 in
theorem wraps_true (T : Nat → Int) (c n k : Int) (A : Option Addr) (m cap : Nat) (Z : Nat → Int) (w : World) (hv : Vars w) (hT : PowT w T) (hR : Rd w A m Z) (hm : m ≤ 20) (h1 : -9223372036854775808 ≤ c) (h2 : c ≤ 9223372036854775807) :
    Calls Tryd.prog 4 #[.agg #[.bool false, .slice A m cap, .int .i64 c, .int .i64 n, .bool true], .int .i64 k] w fun e w' => e = .returned (.bool true) ∧ Keep w w' := by
  have hk0 := Lib.hid (Keep.one w (.cells #[.bool false, .slice A m cap, .int .i64 c, .int .i64 n, .bool true] 24))
  have hv := Lib.hid (hv.keep hk0.out)
  have hT := Lib.hid (hT.keep hk0.out)
  have hR := Lib.hid (hR.keep hk0.out)
  have hw64 := Lib.hid (ne_wrap c)
  have e1 := Tryd.mErrLoc
  have e2 := Tryd.mErrFault
  have e3 := Tryd.mErrCode
  go_enter Tryd.func4, Tryd.ntmps4
  go_wp2_with fail
  refine (awake_true _ hv.out).mono ?_
  rintro e w1 ⟨rfl, h⟩
  have k1 := Lib.hid h
  have b0 := h.cell (a := ⟨w.heap.size, 0, none⟩) (v := .bool false) (by simp)
  have b1 := h.cell (a := ⟨w.heap.size, 0 + 1, none⟩) (v := .slice A m cap) (by simp)
  have b2 := h.cell (a := ⟨w.heap.size, 0 + 2, none⟩) (v := .int .i64 c) (by simp)
  have b3 := h.cell (a := ⟨w.heap.size, 0 + 3, none⟩) (v := .int .i64 n) (by simp)
  have b4 := h.cell (a := ⟨w.heap.size, 0 + 4, none⟩) (v := .bool true) (by simp)
  replace h := Lib.hid h
  have h1 := Lib.hid h1
  have h2 := Lib.hid h2
  go_wp2_with fail
  refine (build_fn true c n A m cap Z _ (hR.out.keep k1.out)).mono ?_
  rintro e w2 ⟨ks, v, rfl, hks, hch, h⟩
  have k2 := Lib.hid (k1.out.trans h)
  have b2 := Lib.hid (h.cell b2)
  have b3 := Lib.hid (h.cell b3)
  have b4 := Lib.hid (h.cell b4)
  replace h := Lib.hid h
  have hcase := tells_chain T true c n ks v w2 hch (hv.out.keep k2.out) (hT.out.keep k2.out) (by omega) h1.out h2.out
  have hks := Lib.hid hks
  clear b0 b1
  obtain ⟨tv, xv, hvx⟩ := hch.iface
  rw [hvx] at hch hcase ⊢
  clear hvx
  have hC := Lib.hid (hch.in_ k)
  have hcu : Hid ((w2.alloc (.cells #[.int .i64 k, .iface tv xv] 59)).cell? ⟨w2.heap.size, 0 + 1, none⟩ = some (.iface tv xv)) := by show _ = _; simp
  have k3 := Lib.hid (Keep.one w2 (.cells #[.int .i64 k, .iface tv xv] 59))
  have k4 := Lib.hid (Keep.one (w2.alloc (.cells #[.int .i64 k, .iface tv xv] 59)) (.cells #[.int .i64 0, .int .i64 0] 40))
  have hV4 := Lib.hid ((hv.out.keep k2.out).keep (k3.out.trans k4.out))
  have hC4 := Lib.hid (hC.out.keep k4.out)
  have hA := Lib.hid (As_Fault 55 (.pointer (some ⟨w2.heap.size, 0, none⟩)) ⟨w2.heap.size + 1, 0, none⟩ ((w2.alloc (.cells #[.int .i64 k, .iface tv xv] 59)).alloc (.cells #[.int .i64 0, .int .i64 0] 40)) true (fun w' => Hit ⟨w2.heap.size + 1, 0, none⟩ ((w2.alloc (.cells #[.int .i64 k, .iface tv xv] 59)).alloc (.cells #[.int .i64 0, .int .i64 0] 40)) w' ∧ w'.cell? ⟨w2.heap.size + 1, 0, none⟩ = some (.int .i64 c) ∧ w'.cell? ⟨w2.heap.size + 1, 0 + 1, none⟩ = some (.int .i64 n)) hV4.out.err
    (fun w1' aa hk ha => (as_fault_yes c n (k :: ks) _ w1' aa (w2.heap.size + 1) (.int .i64 0) (.int .i64 0) ((hC4.out).keep hk) (hk.cell (by rw [World.cell?_alloc_at _ _ _ _ (by simp)]; rfl)) (hk.cell (by rw [World.cell?_alloc_at _ _ _ _ (by simp)]; rfl)) (by rw [frozen_keep hk (by simp)]; rw [World.frozen?_alloc_at _ _ _ _ (by simp)]) (by rw [frozen_keep hk (by simp)]; rw [World.frozen?_alloc_at _ _ _ _ (by simp)]) ha).mono fun e w' ⟨he, hh, ha1, ha2⟩ => ⟨he, hh.from hk (by simp), ha1, ha2⟩))
  clear hch
  go_wp2_with fail
  refine (in_fn k _ _ _).mono ?_
  rintro e w' ⟨rfl, rfl⟩
  go_wp2_with fail
  refine hA.out.mono ?_
  rintro e w5 ⟨rfl, hit, f0, f1⟩
  have k5 : Hid (Keep (w2.alloc (.cells #[.int .i64 k, .iface tv xv] 59)) w5) := hit.keep (by simp)
  replace hit := Lib.hid hit
  have f0 := Lib.hid f0
  have f1 := Lib.hid f1
  have k25 := Lib.hid (k3.out.trans k5.out)
  go_wp2_with fail
  refine (unwrap_fn w2.heap.size tv xv _ (k5.out.cell hcu.out)).mono ?_
  rintro e w' ⟨rfl, rfl⟩
  rcases hcase with ⟨a, S, hv0, ht⟩ | ⟨S, hv0, ht⟩ | ⟨S, hv0, ht⟩
  all_goals
    injection hv0 with ht0 hx0
    subst ht0 hx0
    have ht := Lib.hid ht
    go_wp2_with fail
    refine (ht.out _ k25.out).mono ?_
    rintro e w6 ⟨rfl, h⟩
    have k6 := Lib.hid h
    replace h := Lib.hid h
    go_wp2_with fail
    refine (ht.out _ (k25.out.trans k6.out)).mono ?_
    rintro e w7 ⟨rfl, h⟩
    have k7 := Lib.hid (k6.out.trans h)
    have b2' := (k25.out.trans k7.out).cell b2.out
    have b3' := (k25.out.trans k7.out).cell b3.out
    have b4' := (k25.out.trans k7.out).cell b4.out
    have f0' := k7.out.cell f0.out
    have f1' := k7.out.cell f1.out
    replace h := Lib.hid h
    go_wp2_with fail
    refine (Is_yes c (k :: ks) (bs2 true c n) _ _ (hC.out.keep (k5.out.trans k7.out)) (bs2_code true c n)).mono ?_
    rintro e w8 ⟨rfl, h⟩
    have k8 := Lib.hid (k7.out.trans h)
    have b2'' := h.cell b2'
    replace h := Lib.hid h
    go_wp2_with fail
    refine (Is_no c _ (k :: ks) (bs2 true c n) _ _ (hC.out.keep (k5.out.trans k8.out)) (bs2_code true c n) hw64.out).mono ?_
    rintro e w9 ⟨rfl, h⟩
    have k9 := Lib.hid (k8.out.trans h)
    replace h := Lib.hid h
    go_wp2
    go_ret
    exact ⟨rfl, ((hk0.out.trans k2.out).trans k25.out).trans k9.out⟩

set_option maxRecDepth 100000 in
set_option maxHeartbeats 16000000 in
theorem wraps_false (T : Nat → Int) (c n k : Int) (A : Option Addr) (m cap : Nat) (Z : Nat → Int) (w : World) (hv : Vars w) (hT : PowT w T) (hR : Rd w A m Z) (hm : m ≤ 20) (h1 : -9223372036854775808 ≤ c) (h2 : c ≤ 9223372036854775807) :
    Calls Tryd.prog 4 #[.agg #[.bool false, .slice A m cap, .int .i64 c, .int .i64 n, .bool false], .int .i64 k] w fun e w' => e = .returned (.bool true) ∧ Keep w w' := by
  have hk0 := Lib.hid (Keep.one w (.cells #[.bool false, .slice A m cap, .int .i64 c, .int .i64 n, .bool false] 24))
  have hv := Lib.hid (hv.keep hk0.out)
  have hT := Lib.hid (hT.keep hk0.out)
  have hR := Lib.hid (hR.keep hk0.out)
  have hw64 := Lib.hid (ne_wrap c)
  have e1 := Tryd.mErrLoc
  have e2 := Tryd.mErrFault
  have e3 := Tryd.mErrCode
  go_enter Tryd.func4, Tryd.ntmps4
  go_wp2_with fail
  refine (awake_true _ hv.out).mono ?_
  rintro e w1 ⟨rfl, h⟩
  have k1 := Lib.hid h
  have b0 := h.cell (a := ⟨w.heap.size, 0, none⟩) (v := .bool false) (by simp)
  have b1 := h.cell (a := ⟨w.heap.size, 0 + 1, none⟩) (v := .slice A m cap) (by simp)
  have b2 := h.cell (a := ⟨w.heap.size, 0 + 2, none⟩) (v := .int .i64 c) (by simp)
  have b3 := h.cell (a := ⟨w.heap.size, 0 + 3, none⟩) (v := .int .i64 n) (by simp)
  have b4 := h.cell (a := ⟨w.heap.size, 0 + 4, none⟩) (v := .bool false) (by simp)
  replace h := Lib.hid h
  have h1 := Lib.hid h1
  have h2 := Lib.hid h2
  go_wp2_with fail
  refine (build_fn false c n A m cap Z _ (hR.out.keep k1.out)).mono ?_
  rintro e w2 ⟨ks, v, rfl, hks, hch, h⟩
  have k2 := Lib.hid (k1.out.trans h)
  have b2 := Lib.hid (h.cell b2)
  have b3 := Lib.hid (h.cell b3)
  have b4 := Lib.hid (h.cell b4)
  replace h := Lib.hid h
  have hcase := tells_chain T false c n ks v w2 hch (hv.out.keep k2.out) (hT.out.keep k2.out) (by omega) h1.out h2.out
  have hks := Lib.hid hks
  clear b0 b1
  obtain ⟨tv, xv, hvx⟩ := hch.iface
  rw [hvx] at hch hcase ⊢
  clear hvx
  have hC := Lib.hid (hch.in_ k)
  have hcu : Hid ((w2.alloc (.cells #[.int .i64 k, .iface tv xv] 59)).cell? ⟨w2.heap.size, 0 + 1, none⟩ = some (.iface tv xv)) := by show _ = _; simp
  have k3 := Lib.hid (Keep.one w2 (.cells #[.int .i64 k, .iface tv xv] 59))
  have k4 := Lib.hid (Keep.one (w2.alloc (.cells #[.int .i64 k, .iface tv xv] 59)) (.cells #[.int .i64 0, .int .i64 0] 40))
  have hV4 := Lib.hid ((hv.out.keep k2.out).keep (k3.out.trans k4.out))
  have hC4 := Lib.hid (hC.out.keep k4.out)
  have hA := Lib.hid (As_Fault 55 (.pointer (some ⟨w2.heap.size, 0, none⟩)) ⟨w2.heap.size + 1, 0, none⟩ ((w2.alloc (.cells #[.int .i64 k, .iface tv xv] 59)).alloc (.cells #[.int .i64 0, .int .i64 0] 40)) false (fun w' => Keep ((w2.alloc (.cells #[.int .i64 k, .iface tv xv] 59)).alloc (.cells #[.int .i64 0, .int .i64 0] 40)) w') hV4.out.err
    (fun w1' aa hk ha => (as_fault_no (k :: ks) (.code c) _ w1' aa ⟨w2.heap.size + 1, 0, none⟩ ((hC4.out).keep hk) trivial).mono fun e w' ⟨he, hh⟩ => ⟨he, hk.trans hh⟩))
  clear hch
  go_wp2_with fail
  refine (in_fn k _ _ _).mono ?_
  rintro e w' ⟨rfl, rfl⟩
  go_wp2_with fail
  refine hA.out.mono ?_
  rintro e w5 ⟨rfl, hit⟩
  have k5 : Hid (Keep (w2.alloc (.cells #[.int .i64 k, .iface tv xv] 59)) w5) := k4.out.trans hit
  replace hit := Lib.hid hit
  have k25 := Lib.hid (k3.out.trans k5.out)
  go_wp2_with fail
  refine (unwrap_fn w2.heap.size tv xv _ (k5.out.cell hcu.out)).mono ?_
  rintro e w' ⟨rfl, rfl⟩
  rcases hcase with ⟨a, S, hv0, ht⟩ | ⟨S, hv0, ht⟩ | ⟨S, hv0, ht⟩
  all_goals
    injection hv0 with ht0 hx0
    subst ht0 hx0
    have ht := Lib.hid ht
    go_wp2_with fail
    refine (ht.out _ k25.out).mono ?_
    rintro e w6 ⟨rfl, h⟩
    have k6 := Lib.hid h
    replace h := Lib.hid h
    go_wp2_with fail
    refine (ht.out _ (k25.out.trans k6.out)).mono ?_
    rintro e w7 ⟨rfl, h⟩
    have k7 := Lib.hid (k6.out.trans h)
    have b2' := (k25.out.trans k7.out).cell b2.out
    have b3' := (k25.out.trans k7.out).cell b3.out
    have b4' := (k25.out.trans k7.out).cell b4.out
    replace h := Lib.hid h
    go_wp2_with fail
    refine (Is_yes c (k :: ks) (bs2 false c n) _ _ (hC.out.keep (k5.out.trans k7.out)) (bs2_code false c n)).mono ?_
    rintro e w8 ⟨rfl, h⟩
    have k8 := Lib.hid (k7.out.trans h)
    have b2'' := h.cell b2'
    replace h := Lib.hid h
    go_wp2_with fail
    refine (Is_no c _ (k :: ks) (bs2 false c n) _ _ (hC.out.keep (k5.out.trans k8.out)) (bs2_code false c n) hw64.out).mono ?_
    rintro e w9 ⟨rfl, h⟩
    have k9 := Lib.hid (k8.out.trans h)
    replace h := Lib.hid h
    go_wp2
    go_ret
    exact ⟨rfl, ((hk0.out.trans k2.out).trans k25.out).trans k9.out⟩

theorem wraps_walk (T : Nat → Int) (N F : Bool) (c n k : Int) (A : Option Addr) (m cap : Nat) (Z : Nat → Int) (w : World) (hv : Vars w) (hT : PowT w T) (hR : Rd w A m Z) (h1 : -9223372036854775808 ≤ c) (h2 : c ≤ 9223372036854775807) :
    Calls Tryd.prog 4 #[.agg #[.bool N, .slice A m cap, .int .i64 c, .int .i64 n, .bool F], .int .i64 k] w fun e w' => e = .returned (.bool true) ∧ Keep w w' := by
  by_cases h : N = true ∨ 20 < m
  · exact wraps_out N F c n k A m cap w hv hR.small h
  · obtain rfl : N = false := by cases N <;> simp_all
    cases F
    · exact wraps_false T c n k A m cap Z w hv hT hR (by omega) h1 h2
    · exact wraps_true T c n k A m cap Z w hv hT hR (by omega) h1 h2
end Go.Proofs.YtellekfpkdnioaaDoor
