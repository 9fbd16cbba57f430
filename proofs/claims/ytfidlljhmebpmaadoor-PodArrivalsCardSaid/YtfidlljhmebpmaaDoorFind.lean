/-
  find at api.Code, api.Fault and *located: what a chain holds, or none. Condition: errors.errorType holds its own.
-/
import Derived.Test.YtfidlljhmebpmaaDoorAs
import Derived.Defers
import Derived.Recover
import Derived.RegionTactic
import Derived.Deep.RegionWith
import Derived.ChangeAlike
namespace Go.Proofs.YtfidlljhmebpmaaDoor
open Go.RowKit Go.Extern.Stop Go.Stop Go.Extern

theorem Hit.from {t : Addr} {w w1 w' : World} (h : Hit t w1 w') (k : Keep w w1) (ht : t.block < w.heap.size) : Hit t w w' := by
  refine ⟨⟨h.1.os.trans k.os, h.1.tape.trans k.tape, h.1.output.trans k.output, Nat.le_trans k.size h.1.size, fun j hj hne => ?_⟩, fun i => ?_⟩
  · rw [h.1.block j (Nat.lt_of_lt_of_le hj k.size) hne, Below.block k j hj]
  · rw [h.2, Below.frozen k (p := ⟨t.block, i, none⟩) ht]
/-- What find's two variables are behind errors.As, where something was found. -/
theorem Hit.after {w w9 : World} {n : Nat} {o1 o2 : Obj} (hn : n = w.heap.size) (hh : Hit ⟨n, 0, none⟩ ((w.alloc o1).alloc o2) w9) :
    Keep w w9 ∧ (∀ i, w9.cell? ⟨n + 1, i, none⟩ = ((w.alloc o1).alloc o2).cell? ⟨n + 1, i, none⟩) ∧ (∀ i, w9.frozen? ⟨n + 1, i, none⟩ = ((w.alloc o1).alloc o2).frozen? ⟨n + 1, i, none⟩) ∧ (∀ i, w9.frozen? ⟨n, i, none⟩ = ((w.alloc o1).alloc o2).frozen? ⟨n, i, none⟩) := by
  subst hn
  have hk0 : Keep w ((w.alloc o1).alloc o2) := (Keep.one w _).trans (Keep.one _ _)
  have hsz : ((w.alloc o1).alloc o2).heap.size = w.heap.size + 2 := by simp
  have hg := hh.1
  refine ⟨⟨hg.os.trans hk0.os, hg.tape.trans hk0.tape, hg.output.trans hk0.output, Nat.le_trans hk0.size hg.size, fun k hk => ?_⟩, fun i => ?_, fun i => ?_, hh.2⟩
  · rw [hg.block k (by omega) (by simp; omega), Below.block hk0 k hk]
  · exact World.cell?_of_block (hg.block (w.heap.size + 1) (by omega) (by simp))
  · exact World.frozen?_of_block (hg.block (w.heap.size + 1) (by omega) (by simp))
/-- Stores into blocks of the call's own. -/
theorem Keep.set {w w' : World} (h : Keep w w') {p : Addr} (hp : w.heap.size ≤ p.block) (u : Value) : Keep w (w'.setCell p u) := Below.setCell h hp u

theorem idleCode (a b : Value) (w : World) :
    CallsD Tryd.prog 58 #[a, b] .returning w fun e u' w' => e = .returned (.tuple #[]) ∧ u' = .returning ∧ w = w' := by
  refine callsD_of_wpS Tryd.func58 rfl fun c₀ cs hu => ?_
  apply wpS_seq
  apply wpS_region
  simp [wpOpsS, go_sem, recoverD, hu, Tryd.ntmps58, Exit.thenS]
  refine wpS_cond (t := false) (by simp [Act.eval, Array.replicate]) ?_
  simp only [Bool.false_eq_true, if_false]
  refine wpS_of_wp (wp_skip ?_)
  cases c₀
  simp_all [bodyPostS, results, Tryd.results58]

theorem idleFault (a b : Value) (w : World) :
    CallsD Tryd.prog 56 #[a, b] .returning w fun e u' w' => e = .returned (.tuple #[]) ∧ u' = .returning ∧ w = w' := by
  refine callsD_of_wpS Tryd.func56 rfl fun c₀ cs hu => ?_
  apply wpS_seq
  apply wpS_region
  simp [wpOpsS, go_sem, recoverD, hu, Tryd.ntmps56, Exit.thenS]
  refine wpS_cond (t := false) (by simp [Act.eval, Array.replicate]) ?_
  simp only [Bool.false_eq_true, if_false]
  refine wpS_of_wp (wp_skip ?_)
  cases c₀
  simp_all [bodyPostS, results, Tryd.results56]

set_option maxHeartbeats 4000000 in
theorem findCode_yes (c : Int) (ks : List Int) (b : Base) (v : Value) (w : World) (hch : Chain w ks b v) (hb : hasCode c b) (hg : ErrT w) :
    Calls Tryd.prog 53 #[v] w fun e w' => e = .returned (.tuple #[.int .i64 c, .bool true]) ∧ Keep w w' := by
  have hmf : ∀ (fn : Fn) (first cap : Array Value) (w : World), (Instr.makeFunc fn first cap).run Tryd.prog w = .ok (.func fn first cap) w := fun _ _ _ _ => rfl
  obtain ⟨tv, xv, rfl⟩ := hch.iface
  have hk0 : Keep w ((w.alloc (.cells #[.int .i64 0] 77)).alloc (.cells #[.bool false] 4)) := (Keep.one w _).trans (Keep.one _ _)
  have hA := As_Code tv xv ⟨w.heap.size, 0, none⟩ ((w.alloc (.cells #[.int .i64 0] 77)).alloc (.cells #[.bool false] 4)) true
    (fun w' => Hit ⟨w.heap.size, 0, none⟩ ((w.alloc (.cells #[.int .i64 0] 77)).alloc (.cells #[.bool false] 4)) w' ∧ w'.cell? ⟨w.heap.size, 0, none⟩ = some (.int .i64 c)) (hg.keep hk0)
    (fun w1 aa hk ha => (as_code_yes c ks b (.iface tv xv) w1 aa ⟨w.heap.size, 0, none⟩ (.int .i64 0) ((hch.keep hk0).keep hk) hb (hk.cell (by rw [World.cell?_alloc_lt _ _ ⟨w.heap.size, 0, none⟩ (by simp)]; simp)) (by rw [frozen_keep hk (by simp; omega)]; simp) ha).mono
      fun e w' ⟨he, hh, hc0⟩ => ⟨he, hh.from hk (by simp; omega), hc0⟩)
  have hA := Lib.hid hA
  clear hch hg
  go_enter_defers Tryd.func53, Tryd.ntmps53
  go_wp2_with fail
  refine hA.out.mono ?_
  rintro e w9 ⟨rfl, hh, hc0⟩
  obtain ⟨hk, c1, f1, f0⟩ := hh.after rfl
  have k1 : w9.cell? ⟨w.heap.size + 1, 0, none⟩ = some (.bool false) := by rw [c1]; simp
  have g1 : w9.frozen? ⟨w.heap.size + 1, 0, none⟩ = false := by rw [f1]; simp
  have g00 : w9.frozen? ⟨w.heap.size, 0, none⟩ = false := by rw [f0]; simp
  have hk := Lib.hid hk
  clear c1 f1 f0 hh hA hk0
  go_wp2
  go_region
  all_goals go_wp2
  refine leaves_cons (f := 58) (args := #[.pointer (some ⟨w.heap.size, 0, none⟩), .pointer (some ⟨w.heap.size + 1, 0, none⟩)]) (by simp) (by simp [go_sem]) ?_
  refine (idleCode _ _ _).mono ?_
  rintro e u' w'' ⟨rfl, rfl, rfl⟩
  have e1 : (((w9.setCell ⟨w.heap.size + 1, 0, none⟩ (.bool true)).setCell ⟨w.heap.size, 0, none⟩ (.int .i64 c)).setCell ⟨w.heap.size + 1, 0, none⟩ (.bool true)).cell? ⟨w.heap.size + 1, 0, none⟩ = some (.bool true) := by
    refine World.cell?_setCell_same _ _ _ (u := .bool true) ?_
    rw [World.cell?_setCell_other (a := ⟨w.heap.size, 0, none⟩) (b := ⟨w.heap.size + 1, 0, none⟩) (h := by simp)]
    exact World.cell?_setCell_same _ _ _ k1
  have e20 : (((w9.setCell ⟨w.heap.size + 1, 0, none⟩ (.bool true)).setCell ⟨w.heap.size, 0, none⟩ (.int .i64 c)).setCell ⟨w.heap.size + 1, 0, none⟩ (.bool true)).cell? ⟨w.heap.size, 0, none⟩ = some (.int .i64 c) := by
    rw [World.cell?_setCell_other (a := ⟨w.heap.size + 1, 0, none⟩) (b := ⟨w.heap.size, 0, none⟩) (h := by simp)]
    refine World.cell?_setCell_same _ _ _ (u := .int .i64 c) ?_
    rw [World.cell?_setCell_other (a := ⟨w.heap.size + 1, 0, none⟩) (b := ⟨w.heap.size, 0, none⟩) (h := by simp)]
    exact hc0
  simp [Leaves, settle, results, Tryd.results53, go_sem, e1, e20]
  exact Keep.drew (Keep.set (Keep.set (Keep.set hk.out (Nat.le_succ _) _) (Nat.le_refl _) _) (Nat.le_succ _) _)

set_option maxHeartbeats 4000000 in
theorem findFault_yes (x y : Int) (ks : List Int) (v : Value) (w : World) (hch : Chain w ks (.fault x y) v) (hg : ErrT w) :
    Calls Tryd.prog 46 #[v] w fun e w' => e = .returned (.tuple #[.agg #[.int .i64 x, .int .i64 y], .bool true]) ∧ Keep w w' := by
  have hmf : ∀ (fn : Fn) (first cap : Array Value) (w : World), (Instr.makeFunc fn first cap).run Tryd.prog w = .ok (.func fn first cap) w := fun _ _ _ _ => rfl
  obtain ⟨tv, xv, rfl⟩ := hch.iface
  have hk0 : Keep w ((w.alloc (.cells #[.int .i64 0, .int .i64 0] 88)).alloc (.cells #[.bool false] 4)) := (Keep.one w _).trans (Keep.one _ _)
  have hA := As_Fault tv xv ⟨w.heap.size, 0, none⟩ ((w.alloc (.cells #[.int .i64 0, .int .i64 0] 88)).alloc (.cells #[.bool false] 4)) true
    (fun w' => Hit ⟨w.heap.size, 0, none⟩ ((w.alloc (.cells #[.int .i64 0, .int .i64 0] 88)).alloc (.cells #[.bool false] 4)) w' ∧ w'.cell? ⟨w.heap.size, 0, none⟩ = some (.int .i64 x) ∧ w'.cell? ⟨w.heap.size, 0 + 1, none⟩ = some (.int .i64 y)) (hg.keep hk0)
    (fun w1 aa hk ha => (as_fault_yes x y ks (.iface tv xv) w1 aa w.heap.size (.int .i64 0) (.int .i64 0) ((hch.keep hk0).keep hk) (hk.cell (by rw [World.cell?_alloc_lt _ _ ⟨w.heap.size, 0, none⟩ (by simp)]; simp)) (hk.cell (by rw [World.cell?_alloc_lt _ _ ⟨w.heap.size, 0 + 1, none⟩ (by simp)]; simp)) (by rw [frozen_keep hk (by simp; omega)]; simp) (by rw [frozen_keep hk (by simp; omega)]; simp) ha).mono
      fun e w' ⟨he, hh, hc0, hc1⟩ => ⟨he, hh.from hk (by simp; omega), hc0, hc1⟩)
  have hA := Lib.hid hA
  clear hch hg
  go_enter_defers Tryd.func46, Tryd.ntmps46
  go_wp2_with fail
  refine hA.out.mono ?_
  rintro e w9 ⟨rfl, hh, hc0, hc1⟩
  obtain ⟨hk, c1, f1, f0⟩ := hh.after rfl
  have k1 : w9.cell? ⟨w.heap.size + 1, 0, none⟩ = some (.bool false) := by rw [c1]; simp
  have g1 : w9.frozen? ⟨w.heap.size + 1, 0, none⟩ = false := by rw [f1]; simp
  have g00 : w9.frozen? ⟨w.heap.size, 0, none⟩ = false := by rw [f0]; simp
  have g01 : w9.frozen? ⟨w.heap.size, 0 + 1, none⟩ = false := by rw [f0]; simp
  have hk := Lib.hid hk
  clear c1 f1 f0 hh hA hk0
  go_wp2
  go_region
  all_goals go_wp2
  refine leaves_cons (f := 56) (args := #[.pointer (some ⟨w.heap.size, 0, none⟩), .pointer (some ⟨w.heap.size + 1, 0, none⟩)]) (by simp) (by simp [go_sem]) ?_
  refine (idleFault _ _ _).mono ?_
  rintro e u' w'' ⟨rfl, rfl, rfl⟩
  have e1 : ((((w9.setCell ⟨w.heap.size + 1, 0, none⟩ (.bool true)).setCell ⟨w.heap.size, 0, none⟩ (.int .i64 x)).setCell ⟨w.heap.size, 1, none⟩ (.int .i64 y)).setCell ⟨w.heap.size + 1, 0, none⟩ (.bool true)).cell? ⟨w.heap.size + 1, 0, none⟩ = some (.bool true) := by
    refine World.cell?_setCell_same _ _ _ (u := .bool true) ?_
    rw [World.cell?_setCell_other (a := ⟨w.heap.size, 1, none⟩) (b := ⟨w.heap.size + 1, 0, none⟩) (h := by simp)]
    rw [World.cell?_setCell_other (a := ⟨w.heap.size, 0, none⟩) (b := ⟨w.heap.size + 1, 0, none⟩) (h := by simp)]
    exact World.cell?_setCell_same _ _ _ k1
  have e20 : ((((w9.setCell ⟨w.heap.size + 1, 0, none⟩ (.bool true)).setCell ⟨w.heap.size, 0, none⟩ (.int .i64 x)).setCell ⟨w.heap.size, 1, none⟩ (.int .i64 y)).setCell ⟨w.heap.size + 1, 0, none⟩ (.bool true)).cell? ⟨w.heap.size, 0, none⟩ = some (.int .i64 x) := by
    rw [World.cell?_setCell_other (a := ⟨w.heap.size + 1, 0, none⟩) (b := ⟨w.heap.size, 0, none⟩) (h := by simp)]
    rw [World.cell?_setCell_other (a := ⟨w.heap.size, 1, none⟩) (b := ⟨w.heap.size, 0, none⟩) (h := by simp)]
    refine World.cell?_setCell_same _ _ _ (u := .int .i64 x) ?_
    rw [World.cell?_setCell_other (a := ⟨w.heap.size + 1, 0, none⟩) (b := ⟨w.heap.size, 0, none⟩) (h := by simp)]
    exact hc0
  have e21 : ((((w9.setCell ⟨w.heap.size + 1, 0, none⟩ (.bool true)).setCell ⟨w.heap.size, 0, none⟩ (.int .i64 x)).setCell ⟨w.heap.size, 1, none⟩ (.int .i64 y)).setCell ⟨w.heap.size + 1, 0, none⟩ (.bool true)).cell? ⟨w.heap.size, 1, none⟩ = some (.int .i64 y) := by
    rw [World.cell?_setCell_other (a := ⟨w.heap.size + 1, 0, none⟩) (b := ⟨w.heap.size, 1, none⟩) (h := by simp)]
    refine World.cell?_setCell_same _ _ _ (u := .int .i64 y) ?_
    rw [World.cell?_setCell_other (a := ⟨w.heap.size, 0, none⟩) (b := ⟨w.heap.size, 1, none⟩) (h := by simp)]
    rw [World.cell?_setCell_other (a := ⟨w.heap.size + 1, 0, none⟩) (b := ⟨w.heap.size, 1, none⟩) (h := by simp)]
    exact hc1
  simp [Leaves, settle, results, Tryd.results46, go_sem, e1, e20, e21]
  exact Keep.drew (Keep.set (Keep.set (Keep.set (Keep.set hk.out (Nat.le_succ _) _) (Nat.le_refl _) _) (Nat.le_refl _) _) (Nat.le_succ _) _)

set_option maxHeartbeats 4000000 in
theorem findCode_no (ks : List Int) (b : Base) (v : Value) (w : World) (hch : Chain w ks b v) (hb : isText b) (hg : ErrT w) :
    Calls Tryd.prog 53 #[v] w fun e w' => e = .returned (.tuple #[.int .i64 0, .bool false]) ∧ Keep w w' := by
  have hmf : ∀ (fn : Fn) (first cap : Array Value) (w : World), (Instr.makeFunc fn first cap).run Tryd.prog w = .ok (.func fn first cap) w := fun _ _ _ _ => rfl
  obtain ⟨tv, xv, rfl⟩ := hch.iface
  have hk0 : Keep w ((w.alloc (.cells #[.int .i64 0] 77)).alloc (.cells #[.bool false] 4)) := (Keep.one w _).trans (Keep.one _ _)
  have hA : Calls Tryd.prog 57 #[.iface tv xv, .iface 101 (.pointer (some ⟨w.heap.size, 0, none⟩))] ((w.alloc (.cells #[.int .i64 0] 77)).alloc (.cells #[.bool false] 4)) fun e w' => e = .returned (.bool false) ∧ Keep ((w.alloc (.cells #[.int .i64 0] 77)).alloc (.cells #[.bool false] 4)) w' := As_Code tv xv ⟨w.heap.size, 0, none⟩ ((w.alloc (.cells #[.int .i64 0] 77)).alloc (.cells #[.bool false] 4)) false (fun w' => Keep ((w.alloc (.cells #[.int .i64 0] 77)).alloc (.cells #[.bool false] 4)) w') (hg.keep hk0) (fun w1 aa hk _ => (as_code_no ks b (.iface tv xv) w1 aa ⟨w.heap.size, 0, none⟩ ((hch.keep hk0).keep hk) hb).mono fun e w' ⟨he, hh⟩ => ⟨he, hk.trans hh⟩)
  have hA := Lib.hid hA
  clear hch hg
  go_enter_defers Tryd.func53, Tryd.ntmps53
  go_wp2_with fail
  refine hA.out.mono ?_
  rintro e w9 ⟨rfl, hk9⟩
  have k1 : w9.cell? ⟨w.heap.size + 1, 0, none⟩ = some (.bool false) := hk9.cell (by simp)
  have g1 : w9.frozen? ⟨w.heap.size + 1, 0, none⟩ = false := by rw [Below.frozen hk9 (by simp)]; simp
  have hc0 : w9.cell? ⟨w.heap.size, 0, none⟩ = some (.int .i64 0) := hk9.cell (by rw [World.cell?_alloc_lt _ _ ⟨w.heap.size, 0, none⟩ (by simp)]; simp)
  have g00 : w9.frozen? ⟨w.heap.size, 0, none⟩ = false := by rw [Below.frozen hk9 (by simp; omega)]; simp
  have hk := Lib.hid (hk0.trans hk9)
  clear hA hk0 hk9
  go_wp2
  go_region
  all_goals go_wp2
  refine leaves_cons (f := 58) (args := #[.pointer (some ⟨w.heap.size, 0, none⟩), .pointer (some ⟨w.heap.size + 1, 0, none⟩)]) (by simp) (by simp [go_sem]) ?_
  refine (idleCode _ _ _).mono ?_
  rintro e u' w'' ⟨rfl, rfl, rfl⟩
  have e1 : (((w9.setCell ⟨w.heap.size + 1, 0, none⟩ (.bool false)).setCell ⟨w.heap.size, 0, none⟩ (.int .i64 0)).setCell ⟨w.heap.size + 1, 0, none⟩ (.bool false)).cell? ⟨w.heap.size + 1, 0, none⟩ = some (.bool false) := by
    refine World.cell?_setCell_same _ _ _ (u := .bool false) ?_
    rw [World.cell?_setCell_other (a := ⟨w.heap.size, 0, none⟩) (b := ⟨w.heap.size + 1, 0, none⟩) (h := by simp)]
    exact World.cell?_setCell_same _ _ _ k1
  have e20 : (((w9.setCell ⟨w.heap.size + 1, 0, none⟩ (.bool false)).setCell ⟨w.heap.size, 0, none⟩ (.int .i64 0)).setCell ⟨w.heap.size + 1, 0, none⟩ (.bool false)).cell? ⟨w.heap.size, 0, none⟩ = some (.int .i64 0) := by
    rw [World.cell?_setCell_other (a := ⟨w.heap.size + 1, 0, none⟩) (b := ⟨w.heap.size, 0, none⟩) (h := by simp)]
    refine World.cell?_setCell_same _ _ _ (u := .int .i64 0) ?_
    rw [World.cell?_setCell_other (a := ⟨w.heap.size + 1, 0, none⟩) (b := ⟨w.heap.size, 0, none⟩) (h := by simp)]
    exact hc0
  simp [Leaves, settle, results, Tryd.results53, go_sem, e1, e20]
  exact Keep.drew (Keep.set (Keep.set (Keep.set hk.out (Nat.le_succ _) _) (Nat.le_refl _) _) (Nat.le_succ _) _)

set_option maxHeartbeats 4000000 in
theorem findFault_no (ks : List Int) (b : Base) (v : Value) (w : World) (hch : Chain w ks b v) (hb : noFault b) (hg : ErrT w) :
    Calls Tryd.prog 46 #[v] w fun e w' => e = .returned (.tuple #[.agg #[.int .i64 0, .int .i64 0], .bool false]) ∧ Keep w w' := by
  have hmf : ∀ (fn : Fn) (first cap : Array Value) (w : World), (Instr.makeFunc fn first cap).run Tryd.prog w = .ok (.func fn first cap) w := fun _ _ _ _ => rfl
  obtain ⟨tv, xv, rfl⟩ := hch.iface
  have hk0 : Keep w ((w.alloc (.cells #[.int .i64 0, .int .i64 0] 88)).alloc (.cells #[.bool false] 4)) := (Keep.one w _).trans (Keep.one _ _)
  have hA : Calls Tryd.prog 57 #[.iface tv xv, .iface 99 (.pointer (some ⟨w.heap.size, 0, none⟩))] ((w.alloc (.cells #[.int .i64 0, .int .i64 0] 88)).alloc (.cells #[.bool false] 4)) fun e w' => e = .returned (.bool false) ∧ Keep ((w.alloc (.cells #[.int .i64 0, .int .i64 0] 88)).alloc (.cells #[.bool false] 4)) w' := As_Fault tv xv ⟨w.heap.size, 0, none⟩ ((w.alloc (.cells #[.int .i64 0, .int .i64 0] 88)).alloc (.cells #[.bool false] 4)) false (fun w' => Keep ((w.alloc (.cells #[.int .i64 0, .int .i64 0] 88)).alloc (.cells #[.bool false] 4)) w') (hg.keep hk0) (fun w1 aa hk _ => (as_fault_no ks b (.iface tv xv) w1 aa ⟨w.heap.size, 0, none⟩ ((hch.keep hk0).keep hk) hb).mono fun e w' ⟨he, hh⟩ => ⟨he, hk.trans hh⟩)
  have hA := Lib.hid hA
  clear hch hg
  go_enter_defers Tryd.func46, Tryd.ntmps46
  go_wp2_with fail
  refine hA.out.mono ?_
  rintro e w9 ⟨rfl, hk9⟩
  have k1 : w9.cell? ⟨w.heap.size + 1, 0, none⟩ = some (.bool false) := hk9.cell (by simp)
  have g1 : w9.frozen? ⟨w.heap.size + 1, 0, none⟩ = false := by rw [Below.frozen hk9 (by simp)]; simp
  have hc0 : w9.cell? ⟨w.heap.size, 0, none⟩ = some (.int .i64 0) := hk9.cell (by rw [World.cell?_alloc_lt _ _ ⟨w.heap.size, 0, none⟩ (by simp)]; simp)
  have g00 : w9.frozen? ⟨w.heap.size, 0, none⟩ = false := by rw [Below.frozen hk9 (by simp; omega)]; simp
  have hc1 : w9.cell? ⟨w.heap.size, 0 + 1, none⟩ = some (.int .i64 0) := hk9.cell (by rw [World.cell?_alloc_lt _ _ ⟨w.heap.size, 0 + 1, none⟩ (by simp)]; simp)
  have g01 : w9.frozen? ⟨w.heap.size, 0 + 1, none⟩ = false := by rw [Below.frozen hk9 (by simp; omega)]; simp
  have hk := Lib.hid (hk0.trans hk9)
  clear hA hk0 hk9
  go_wp2
  go_region
  all_goals go_wp2
  refine leaves_cons (f := 56) (args := #[.pointer (some ⟨w.heap.size, 0, none⟩), .pointer (some ⟨w.heap.size + 1, 0, none⟩)]) (by simp) (by simp [go_sem]) ?_
  refine (idleFault _ _ _).mono ?_
  rintro e u' w'' ⟨rfl, rfl, rfl⟩
  have e1 : ((((w9.setCell ⟨w.heap.size + 1, 0, none⟩ (.bool false)).setCell ⟨w.heap.size, 0, none⟩ (.int .i64 0)).setCell ⟨w.heap.size, 1, none⟩ (.int .i64 0)).setCell ⟨w.heap.size + 1, 0, none⟩ (.bool false)).cell? ⟨w.heap.size + 1, 0, none⟩ = some (.bool false) := by
    refine World.cell?_setCell_same _ _ _ (u := .bool false) ?_
    rw [World.cell?_setCell_other (a := ⟨w.heap.size, 1, none⟩) (b := ⟨w.heap.size + 1, 0, none⟩) (h := by simp)]
    rw [World.cell?_setCell_other (a := ⟨w.heap.size, 0, none⟩) (b := ⟨w.heap.size + 1, 0, none⟩) (h := by simp)]
    exact World.cell?_setCell_same _ _ _ k1
  have e20 : ((((w9.setCell ⟨w.heap.size + 1, 0, none⟩ (.bool false)).setCell ⟨w.heap.size, 0, none⟩ (.int .i64 0)).setCell ⟨w.heap.size, 1, none⟩ (.int .i64 0)).setCell ⟨w.heap.size + 1, 0, none⟩ (.bool false)).cell? ⟨w.heap.size, 0, none⟩ = some (.int .i64 0) := by
    rw [World.cell?_setCell_other (a := ⟨w.heap.size + 1, 0, none⟩) (b := ⟨w.heap.size, 0, none⟩) (h := by simp)]
    rw [World.cell?_setCell_other (a := ⟨w.heap.size, 1, none⟩) (b := ⟨w.heap.size, 0, none⟩) (h := by simp)]
    refine World.cell?_setCell_same _ _ _ (u := .int .i64 0) ?_
    rw [World.cell?_setCell_other (a := ⟨w.heap.size + 1, 0, none⟩) (b := ⟨w.heap.size, 0, none⟩) (h := by simp)]
    exact hc0
  have e21 : ((((w9.setCell ⟨w.heap.size + 1, 0, none⟩ (.bool false)).setCell ⟨w.heap.size, 0, none⟩ (.int .i64 0)).setCell ⟨w.heap.size, 1, none⟩ (.int .i64 0)).setCell ⟨w.heap.size + 1, 0, none⟩ (.bool false)).cell? ⟨w.heap.size, 1, none⟩ = some (.int .i64 0) := by
    rw [World.cell?_setCell_other (a := ⟨w.heap.size + 1, 0, none⟩) (b := ⟨w.heap.size, 1, none⟩) (h := by simp)]
    refine World.cell?_setCell_same _ _ _ (u := .int .i64 0) ?_
    rw [World.cell?_setCell_other (a := ⟨w.heap.size, 0, none⟩) (b := ⟨w.heap.size, 1, none⟩) (h := by simp)]
    rw [World.cell?_setCell_other (a := ⟨w.heap.size + 1, 0, none⟩) (b := ⟨w.heap.size, 1, none⟩) (h := by simp)]
    exact hc1
  simp [Leaves, settle, results, Tryd.results46, go_sem, e1, e20, e21]
  exact Keep.drew (Keep.set (Keep.set (Keep.set (Keep.set hk.out (Nat.le_succ _) _) (Nat.le_refl _) _) (Nat.le_refl _) _) (Nat.le_succ _) _)

set_option maxHeartbeats 4000000 in
theorem findCode_nil (w : World) :
    Calls Tryd.prog 53 #[.nilIface] w fun e w' => e = .returned (.tuple #[.int .i64 0, .bool false]) ∧ Keep w w' := by
  have hmf : ∀ (fn : Fn) (first cap : Array Value) (w : World), (Instr.makeFunc fn first cap).run Tryd.prog w = .ok (.func fn first cap) w := fun _ _ _ _ => rfl
  have hk0 : Keep w ((w.alloc (.cells #[.int .i64 0] 77)).alloc (.cells #[.bool false] 4)) := (Keep.one w _).trans (Keep.one _ _)
  have hA : Calls Tryd.prog 57 #[.nilIface, .iface 101 (.pointer (some ⟨w.heap.size, 0, none⟩))] ((w.alloc (.cells #[.int .i64 0] 77)).alloc (.cells #[.bool false] 4)) fun e w' => e = .returned (.bool false) ∧ Keep ((w.alloc (.cells #[.int .i64 0] 77)).alloc (.cells #[.bool false] 4)) w' := (As_nil _ _).mono fun e w' ⟨he, hw⟩ => ⟨he, hw ▸ Keep.refl _⟩
  have hA := Lib.hid hA
  skip
  go_enter_defers Tryd.func53, Tryd.ntmps53
  go_wp2_with fail
  refine hA.out.mono ?_
  rintro e w9 ⟨rfl, hk9⟩
  have k1 : w9.cell? ⟨w.heap.size + 1, 0, none⟩ = some (.bool false) := hk9.cell (by simp)
  have g1 : w9.frozen? ⟨w.heap.size + 1, 0, none⟩ = false := by rw [Below.frozen hk9 (by simp)]; simp
  have hc0 : w9.cell? ⟨w.heap.size, 0, none⟩ = some (.int .i64 0) := hk9.cell (by rw [World.cell?_alloc_lt _ _ ⟨w.heap.size, 0, none⟩ (by simp)]; simp)
  have g00 : w9.frozen? ⟨w.heap.size, 0, none⟩ = false := by rw [Below.frozen hk9 (by simp; omega)]; simp
  have hk := Lib.hid (hk0.trans hk9)
  clear hA hk0 hk9
  go_wp2
  go_region
  all_goals go_wp2
  refine leaves_cons (f := 58) (args := #[.pointer (some ⟨w.heap.size, 0, none⟩), .pointer (some ⟨w.heap.size + 1, 0, none⟩)]) (by simp) (by simp [go_sem]) ?_
  refine (idleCode _ _ _).mono ?_
  rintro e u' w'' ⟨rfl, rfl, rfl⟩
  have e1 : (((w9.setCell ⟨w.heap.size + 1, 0, none⟩ (.bool false)).setCell ⟨w.heap.size, 0, none⟩ (.int .i64 0)).setCell ⟨w.heap.size + 1, 0, none⟩ (.bool false)).cell? ⟨w.heap.size + 1, 0, none⟩ = some (.bool false) := by
    refine World.cell?_setCell_same _ _ _ (u := .bool false) ?_
    rw [World.cell?_setCell_other (a := ⟨w.heap.size, 0, none⟩) (b := ⟨w.heap.size + 1, 0, none⟩) (h := by simp)]
    exact World.cell?_setCell_same _ _ _ k1
  have e20 : (((w9.setCell ⟨w.heap.size + 1, 0, none⟩ (.bool false)).setCell ⟨w.heap.size, 0, none⟩ (.int .i64 0)).setCell ⟨w.heap.size + 1, 0, none⟩ (.bool false)).cell? ⟨w.heap.size, 0, none⟩ = some (.int .i64 0) := by
    rw [World.cell?_setCell_other (a := ⟨w.heap.size + 1, 0, none⟩) (b := ⟨w.heap.size, 0, none⟩) (h := by simp)]
    refine World.cell?_setCell_same _ _ _ (u := .int .i64 0) ?_
    rw [World.cell?_setCell_other (a := ⟨w.heap.size + 1, 0, none⟩) (b := ⟨w.heap.size, 0, none⟩) (h := by simp)]
    exact hc0
  simp [Leaves, settle, results, Tryd.results53, go_sem, e1, e20]
  exact Keep.drew (Keep.set (Keep.set (Keep.set hk.out (Nat.le_succ _) _) (Nat.le_refl _) _) (Nat.le_succ _) _)

set_option maxHeartbeats 4000000 in
theorem findFault_nil (w : World) :
    Calls Tryd.prog 46 #[.nilIface] w fun e w' => e = .returned (.tuple #[.agg #[.int .i64 0, .int .i64 0], .bool false]) ∧ Keep w w' := by
  have hmf : ∀ (fn : Fn) (first cap : Array Value) (w : World), (Instr.makeFunc fn first cap).run Tryd.prog w = .ok (.func fn first cap) w := fun _ _ _ _ => rfl
  have hk0 : Keep w ((w.alloc (.cells #[.int .i64 0, .int .i64 0] 88)).alloc (.cells #[.bool false] 4)) := (Keep.one w _).trans (Keep.one _ _)
  have hA : Calls Tryd.prog 57 #[.nilIface, .iface 99 (.pointer (some ⟨w.heap.size, 0, none⟩))] ((w.alloc (.cells #[.int .i64 0, .int .i64 0] 88)).alloc (.cells #[.bool false] 4)) fun e w' => e = .returned (.bool false) ∧ Keep ((w.alloc (.cells #[.int .i64 0, .int .i64 0] 88)).alloc (.cells #[.bool false] 4)) w' := (As_nil _ _).mono fun e w' ⟨he, hw⟩ => ⟨he, hw ▸ Keep.refl _⟩
  have hA := Lib.hid hA
  skip
  go_enter_defers Tryd.func46, Tryd.ntmps46
  go_wp2_with fail
  refine hA.out.mono ?_
  rintro e w9 ⟨rfl, hk9⟩
  have k1 : w9.cell? ⟨w.heap.size + 1, 0, none⟩ = some (.bool false) := hk9.cell (by simp)
  have g1 : w9.frozen? ⟨w.heap.size + 1, 0, none⟩ = false := by rw [Below.frozen hk9 (by simp)]; simp
  have hc0 : w9.cell? ⟨w.heap.size, 0, none⟩ = some (.int .i64 0) := hk9.cell (by rw [World.cell?_alloc_lt _ _ ⟨w.heap.size, 0, none⟩ (by simp)]; simp)
  have g00 : w9.frozen? ⟨w.heap.size, 0, none⟩ = false := by rw [Below.frozen hk9 (by simp; omega)]; simp
  have hc1 : w9.cell? ⟨w.heap.size, 0 + 1, none⟩ = some (.int .i64 0) := hk9.cell (by rw [World.cell?_alloc_lt _ _ ⟨w.heap.size, 0 + 1, none⟩ (by simp)]; simp)
  have g01 : w9.frozen? ⟨w.heap.size, 0 + 1, none⟩ = false := by rw [Below.frozen hk9 (by simp; omega)]; simp
  have hk := Lib.hid (hk0.trans hk9)
  clear hA hk0 hk9
  go_wp2
  go_region
  all_goals go_wp2
  refine leaves_cons (f := 56) (args := #[.pointer (some ⟨w.heap.size, 0, none⟩), .pointer (some ⟨w.heap.size + 1, 0, none⟩)]) (by simp) (by simp [go_sem]) ?_
  refine (idleFault _ _ _).mono ?_
  rintro e u' w'' ⟨rfl, rfl, rfl⟩
  have e1 : ((((w9.setCell ⟨w.heap.size + 1, 0, none⟩ (.bool false)).setCell ⟨w.heap.size, 0, none⟩ (.int .i64 0)).setCell ⟨w.heap.size, 1, none⟩ (.int .i64 0)).setCell ⟨w.heap.size + 1, 0, none⟩ (.bool false)).cell? ⟨w.heap.size + 1, 0, none⟩ = some (.bool false) := by
    refine World.cell?_setCell_same _ _ _ (u := .bool false) ?_
    rw [World.cell?_setCell_other (a := ⟨w.heap.size, 1, none⟩) (b := ⟨w.heap.size + 1, 0, none⟩) (h := by simp)]
    rw [World.cell?_setCell_other (a := ⟨w.heap.size, 0, none⟩) (b := ⟨w.heap.size + 1, 0, none⟩) (h := by simp)]
    exact World.cell?_setCell_same _ _ _ k1
  have e20 : ((((w9.setCell ⟨w.heap.size + 1, 0, none⟩ (.bool false)).setCell ⟨w.heap.size, 0, none⟩ (.int .i64 0)).setCell ⟨w.heap.size, 1, none⟩ (.int .i64 0)).setCell ⟨w.heap.size + 1, 0, none⟩ (.bool false)).cell? ⟨w.heap.size, 0, none⟩ = some (.int .i64 0) := by
    rw [World.cell?_setCell_other (a := ⟨w.heap.size + 1, 0, none⟩) (b := ⟨w.heap.size, 0, none⟩) (h := by simp)]
    rw [World.cell?_setCell_other (a := ⟨w.heap.size, 1, none⟩) (b := ⟨w.heap.size, 0, none⟩) (h := by simp)]
    refine World.cell?_setCell_same _ _ _ (u := .int .i64 0) ?_
    rw [World.cell?_setCell_other (a := ⟨w.heap.size + 1, 0, none⟩) (b := ⟨w.heap.size, 0, none⟩) (h := by simp)]
    exact hc0
  have e21 : ((((w9.setCell ⟨w.heap.size + 1, 0, none⟩ (.bool false)).setCell ⟨w.heap.size, 0, none⟩ (.int .i64 0)).setCell ⟨w.heap.size, 1, none⟩ (.int .i64 0)).setCell ⟨w.heap.size + 1, 0, none⟩ (.bool false)).cell? ⟨w.heap.size, 1, none⟩ = some (.int .i64 0) := by
    rw [World.cell?_setCell_other (a := ⟨w.heap.size + 1, 0, none⟩) (b := ⟨w.heap.size, 1, none⟩) (h := by simp)]
    refine World.cell?_setCell_same _ _ _ (u := .int .i64 0) ?_
    rw [World.cell?_setCell_other (a := ⟨w.heap.size, 0, none⟩) (b := ⟨w.heap.size, 1, none⟩) (h := by simp)]
    rw [World.cell?_setCell_other (a := ⟨w.heap.size + 1, 0, none⟩) (b := ⟨w.heap.size, 1, none⟩) (h := by simp)]
    exact hc1
  simp [Leaves, settle, results, Tryd.results46, go_sem, e1, e20, e21]
  exact Keep.drew (Keep.set (Keep.set (Keep.set (Keep.set hk.out (Nat.le_succ _) _) (Nat.le_refl _) _) (Nat.le_refl _) _) (Nat.le_succ _) _)

end Go.Proofs.YtfidlljhmebpmaaDoor
