/-
  fault.Code, at nil and at a code. Condition: errors.errorType holds the handle of the type 'error'.
-/
import Derived.Test.YtfjghbgmjpdpbaaDoorRefl
import Derived.Test.YtfjghbgmjpdpbaaDoorBase5
import Derived.Defers
import Derived.Recover
import Derived.RegionTactic
import Derived.Deep.RegionWith
import Derived.ChangeAlike
namespace Go.Proofs.YtfjghbgmjpdpbaaDoor
open Go.RowKit Go.Extern.Stop Go.Stop Go.Extern

/-- An error was found: only the target's block has turned, and it is no more frozen than it was. -/
def Hit (t : Addr) (w w' : World) : Prop := w.grownBy w' (some t.block) ∧ ∀ i, w'.frozen? ⟨t.block, i, none⟩ = w.frozen? ⟨t.block, i, none⟩
theorem Hit.of_keep {t : Addr} {w wr : World} (h : Keep w wr) (ht : t.block < w.heap.size) (o : Obj) (x : Value) : Hit t w ((wr.alloc o).setCell t x) := by
  have hk := h.alloc o
  refine ⟨⟨hk.os, hk.tape, hk.output, ?_, fun k hk2 hne => ?_⟩, fun i => ?_⟩
  · have := hk.size; simpa [World.setCell] using this
  · rw [Below.heap_setCell _ _ _ _ (by intro e; apply hne; rw [e]), Below.block hk k hk2]
  · rw [World.frozen?_setCell, Below.frozen hk (p := ⟨t.block, i, none⟩) ht]
theorem frozen_keep {w w' : World} {t : Addr} (h : Keep w w') (ht : t.block < w.heap.size) : w'.frozen? t = w.frozen? t := Below.frozen h ht

set_option maxRecDepth 100000 in
set_option maxHeartbeats 4000000 in
theorem as_code (c : Int) (w : World) (a t : Addr) (old : Value)
    (ht : w.cell? t = some old) (hf : w.frozen? t = false) (ha : w.cell? a = some (.pointer (some t))) :
    Calls Tryd.prog 60 #[.iface 70 (.int .i64 c), .iface 92 (.pointer (some t)), .agg #[.pointer (some ⟨1, 92, none⟩), .pointer (some a), .int .u64 150], .iface 114 (.agg #[.pointer (some ⟨1, 70, none⟩)])] w
      fun e w' => e = .returned (.bool true) ∧ Hit t w w' ∧ w'.cell? t = some (.int .i64 c) := by
  have hv := @run_callFunc_extern Tryd.prog 57 _ (fun args => ReflectliteValue.unpack (args.getD 0 (.tuple #[]))) Tryd.func57 (by kernel_rfl) (by kernel_rfl) (by kernel_rfl) (by kernel_rfl)
  have hT := @run_callFunc_extern Tryd.prog 62 _ ReflectliteType.typeOf Tryd.func62 (by kernel_rfl) (by kernel_rfl) (by kernel_rfl) (by kernel_rfl)
  have hA := @run_callFunc_extern Tryd.prog 90 _ (ReflectliteType.relation "AssignableTo" ReflectliteType.assignableTo) Tryd.func90 (by kernel_rfl) (by kernel_rfl) (by kernel_rfl) (by kernel_rfl)
  have hE := @run_callFunc_extern Tryd.prog 63 _ (ReflectliteValue.method (ReflectliteValue.valueError "reflectlite.Value.Elem" 0) ReflectliteValue.elem) Tryd.func63 (by kernel_rfl) (by kernel_rfl) (by kernel_rfl) (by kernel_rfl)
  have hS := @run_callFunc_extern Tryd.prog 64 _ ReflectliteValue.set Tryd.func64 (by kernel_rfl) (by kernel_rfl) (by kernel_rfl) (by kernel_rfl)
  have t1 := Tryd.rTypeOfCode
  have mA := Tryd.rMethodAssignableTo
  have a1 := Tryd.rAssignCodeToCode
  have hvc := Tryd.rUnpackCode
  go_enter Tryd.func60, Tryd.ntmps60
  go_wp2
  go_loopg [0] 0 (fun g v wr => v = .iface 70 (.int .i64 c) ∧ g = 0 ∧ Keep (w.alloc (.cells #[.pointer (some ⟨1, 92, none⟩), .pointer (some a), .int .u64 150] 101)) wr)
  case atStart => exact ⟨rfl, rfl, Keep.refl _⟩
  case round =>
    obtain ⟨rfl, rfl, hk⟩ := hrel
    have hk0 : Keep w wr := (Keep.one w _).trans hk
    have k0 := hk.cell (a := ⟨w.heap.size, 0, none⟩) (v := .pointer (some ⟨1, 92, none⟩)) (by simp)
    have k1 := hk.cell (a := ⟨w.heap.size, 0 + 1, none⟩) (v := .pointer (some a)) (by simp)
    have k2 := hk.cell (a := ⟨w.heap.size, 0 + 2, none⟩) (v := .int .u64 150) (by simp)
    have hE2 := Tryd.rElemVCode a t wr (hk0.cell ha)
    have hlt := cell_lt ht
    have hkt := hk0.cell ht
    have hkf : wr.frozen? t = false := by rw [frozen_keep hk0 hlt]; exact hf
    have hs2 := Tryd.rSetCode t ⟨wr.heap.size, 0, none⟩ c old (wr.alloc (.cells #[.int .i64 c] 70)) (by simp) (by rw [World.cell?_alloc_lt _ _ t (cell_lt hkt)]; exact hkt) (by rw [World.frozen?_alloc_old _ _ t (Nat.ne_of_lt (cell_lt hkt))]; exact hkf)
    have hlt0 := Lib.hid hlt
    have hfin : ((wr.alloc (.cells #[.int .i64 c] 70)).setCell t (.int .i64 c)).cell? t = some (.int .i64 c) :=
      World.cell?_setCell_same _ _ _ (u := old) (by rw [World.cell?_alloc_lt _ _ t (cell_lt hkt)]; exact hkt)
    replace hfin := Lib.hid hfin
    have hk1 := Lib.hid hk
    have hk2 := Lib.hid hk0
    clear hk0 ht hf ha hkt hkf hlt
    clear hk
    go_wp2
    go_ret
    exact ⟨rfl, Hit.of_keep hk2.out hlt0.out _ _, hfin.out⟩

/-- The variable errors.errorType holds its own. -/
def ErrT (w : World) : Prop := w.cell? ⟨0, 0, none⟩ = some (.iface 114 (.agg #[.pointer (some ⟨1, 43, none⟩)]))
theorem ErrT.keep {w w' : World} (h : ErrT w) (k : Keep w w') : ErrT w' := k.cell h
theorem As_nil (t : Value) (w : World) : Calls Tryd.prog 51 #[.nilIface, t] w fun e w' => e = .returned (.bool false) ∧ w = w' := by
  go_enter Tryd.func51, Tryd.ntmps51
  go_wp2
  go_ret
  exact ⟨rfl, rfl⟩

set_option maxRecDepth 100000 in
set_option maxHeartbeats 4000000 in
theorem As_Code (tv : TypeId) (xv : Value) (t : Addr) (w : World) (b : Bool) (R : World → Prop) (hg : ErrT w)
    (h : ∀ w1 a, Keep w w1 → w1.cell? a = some (.pointer (some t)) → Calls Tryd.prog 60 #[.iface tv xv, .iface 92 (.pointer (some t)), .agg #[.pointer (some ⟨1, 92, none⟩), .pointer (some a), .int .u64 150], .iface 114 (.agg #[.pointer (some ⟨1, 70, none⟩)])] w1
      fun e w' => e = .returned (.bool b) ∧ R w') :
    Calls Tryd.prog 51 #[.iface tv xv, .iface 92 (.pointer (some t))] w fun e w' => e = .returned (.bool b) ∧ R w' := by
  have h6 := @run_callFunc_extern Tryd.prog 57 _ (fun args => ReflectliteValue.unpack (args.getD 0 (.tuple #[]))) Tryd.func57 (by kernel_rfl) (by kernel_rfl) (by kernel_rfl) (by kernel_rfl)
  have h7 := @run_callFunc_extern Tryd.prog 58 _ (ReflectliteValue.methodAny (ReflectliteValue.valueError "reflectlite.Value.Type" 0) (fun t _ _ _ => ReflectliteType.toType t)) Tryd.func58 (by kernel_rfl) (by kernel_rfl) (by kernel_rfl) (by kernel_rfl)
  have h8 := @run_callFunc_extern Tryd.prog 59 _ (ReflectliteValue.method (ReflectliteValue.valueError "reflectlite.Value.IsNil" 0) ReflectliteValue.isNil) Tryd.func59 (by kernel_rfl) (by kernel_rfl) (by kernel_rfl) (by kernel_rfl)
  have h27 := @run_callFunc_extern Tryd.prog 79 _ (ReflectliteType.abiMethod fun t => do pure (.int .u8 (← Rtype.kind t))) Tryd.func79 (by kernel_rfl) (by kernel_rfl) (by kernel_rfl) (by kernel_rfl)
  have h37 := @run_callFunc_extern Tryd.prog 92 _ (ReflectliteType.method ReflectliteType.elem) Tryd.func92 (by kernel_rfl) (by kernel_rfl) (by kernel_rfl) (by kernel_rfl)
  have h38 := @run_callFunc_extern Tryd.prog 93 _ (ReflectliteType.relation "Implements" ReflectliteType.implements_) Tryd.func93 (by kernel_rfl) (by kernel_rfl) (by kernel_rfl) (by kernel_rfl)
  have f6 := Tryd.rUnpackPCode
  have f7 := Tryd.rTypePCode
  have mK := Tryd.rMethodKind
  have mE := Tryd.rMethodElem
  have mI := Tryd.rMethodImplements
  have k27 := Tryd.rKindPCode
  have k25 := Tryd.rKindCode
  have e27 := Tryd.rElemPCode
  have i25 := Tryd.rImplCode
  have n8 := Tryd.rIsNilPCode ⟨w.heap.size, 0, none⟩ t ((w.alloc (.cells #[.pointer (some t)] 92)).alloc (.cells #[.pointer (some ⟨1, 92, none⟩), .pointer (some ⟨w.heap.size, 0, none⟩), .int .u64 150] 101)) (by rw [World.cell?_alloc_lt _ _ ⟨w.heap.size, 0, none⟩ (by simp)]; simp)
  have hkk : Keep w ((w.alloc (.cells #[.pointer (some t)] 92)).alloc (.cells #[.pointer (some ⟨1, 92, none⟩), .pointer (some ⟨w.heap.size, 0, none⟩), .int .u64 150] 101)) := (Keep.one w _).trans (Keep.one _ _)
  have hg2 : ((w.alloc (.cells #[.pointer (some t)] 92)).alloc (.cells #[.pointer (some ⟨1, 92, none⟩), .pointer (some ⟨w.heap.size, 0, none⟩), .int .u64 150] 101)).cell? ⟨0, 0, none⟩ = some (.iface 114 (.agg #[.pointer (some ⟨1, 43, none⟩)])) := hg.keep hkk
  have hc := h ((w.alloc (.cells #[.pointer (some t)] 92)).alloc (.cells #[.pointer (some ⟨1, 92, none⟩), .pointer (some ⟨w.heap.size, 0, none⟩), .int .u64 150] 101)) ⟨w.heap.size, 0, none⟩ hkk (by rw [World.cell?_alloc_lt _ _ ⟨w.heap.size, 0, none⟩ (by simp)]; simp)
  have hc := Lib.hid hc
  clear h hg hkk
  go_enter Tryd.func51, Tryd.ntmps51
  go_wp2_with (go_at_call 60; refine hc.out.mono ?_; rintro e w' ⟨rfl, hr⟩)
  go_ret
  exact ⟨rfl, hr⟩

theorem Hit.from {t : Addr} {w w1 w' : World} (h : Hit t w1 w') (k : Keep w w1) (ht : t.block < w.heap.size) : Hit t w w' := by
  refine ⟨⟨h.1.os.trans k.os, h.1.tape.trans k.tape, h.1.output.trans k.output, Nat.le_trans k.size h.1.size, fun j hj hne => ?_⟩, fun i => ?_⟩
  · rw [h.1.block j (Nat.lt_of_lt_of_le hj k.size) hne, Below.block k j hj]
  · rw [h.2, Below.frozen k (p := ⟨t.block, i, none⟩) ht]
/-- What find's two variables are behind errors.As, where something was found. -/
theorem Hit.after {w w9 : World} {n : Nat} {o1 o2 : Obj} (hn : n = w.heap.size) (hh : Hit ⟨n, 0, none⟩ ((w.alloc o1).alloc o2) w9) :
    Keep w w9 ∧ (∀ i, w9.cell? ⟨n + 1, i, none⟩ = ((w.alloc o1).alloc o2).cell? ⟨n + 1, i, none⟩) ∧ (∀ i, w9.frozen? ⟨n + 1, i, none⟩ = ((w.alloc o1).alloc o2).frozen? ⟨n + 1, i, none⟩) ∧ (∀ i, w9.frozen? ⟨n, i, none⟩ = ((w.alloc o1).alloc o2).frozen? ⟨n, i, none⟩) := by
  subst hn
  have hk0 : Keep w ((w.alloc o1).alloc o2) := (Keep.one w _).trans (Keep.one _ _)
  have hsz : ((w.alloc o1).alloc o2).heap.size = w.heap.size + 2 := by simp
  have hg := hh.1
  refine ⟨⟨hg.os.trans hk0.os, hg.tape.trans hk0.tape, hg.output.trans hk0.output, Nat.le_trans hk0.size hg.size, fun k hk => ?_⟩, fun i => ?_, fun i => ?_, hh.2⟩
  · rw [hg.block k (by omega) (by simp; omega), Below.block hk0 k hk]
  · exact World.cell?_of_block (hg.block (w.heap.size + 1) (by omega) (by simp))
  · exact World.frozen?_of_block (hg.block (w.heap.size + 1) (by omega) (by simp))
theorem idleCode (a b : Value) (w : World) :
    CallsD Tryd.prog 50 #[a, b] .returning w fun e u' w' => e = .returned (.tuple #[]) ∧ u' = .returning ∧ w = w' := by
  refine callsD_of_wpS Tryd.func50 rfl fun c₀ cs hu => ?_
  apply wpS_seq
  apply wpS_region
  simp [wpOpsS, go_sem, recoverD, hu, Tryd.ntmps50, Exit.thenS]
  refine wpS_cond (t := false) (by simp [Act.eval, Array.replicate]) ?_
  simp only [Bool.false_eq_true, if_false]
  refine wpS_of_wp (wp_skip ?_)
  cases c₀
  simp_all [bodyPostS, results, Tryd.results50]

set_option maxHeartbeats 4000000 in
theorem findCode_yes (c : Int) (w : World) (hg : ErrT w) :
    Calls Tryd.prog 38 #[.iface 70 (.int .i64 c)] w fun e w' => e = .returned (.tuple #[.int .i64 c, .bool true]) ∧ Keep w w' := by
  have hmf : ∀ (fn : Fn) (first cap : Array Value) (w : World), (Instr.makeFunc fn first cap).run Tryd.prog w = .ok (.func fn first cap) w := fun _ _ _ _ => rfl
  have hk0 : Keep w ((w.alloc (.cells #[.int .i64 0] 70)).alloc (.cells #[.bool false] 4)) := (Keep.one w _).trans (Keep.one _ _)
  have hA := As_Code 70 (.int .i64 c) ⟨w.heap.size, 0, none⟩ ((w.alloc (.cells #[.int .i64 0] 70)).alloc (.cells #[.bool false] 4)) true
    (fun w' => Hit ⟨w.heap.size, 0, none⟩ ((w.alloc (.cells #[.int .i64 0] 70)).alloc (.cells #[.bool false] 4)) w' ∧ w'.cell? ⟨w.heap.size, 0, none⟩ = some (.int .i64 c)) (hg.keep hk0)
    (fun w1 aa hk ha => (as_code c w1 aa ⟨w.heap.size, 0, none⟩ (.int .i64 0) (hk.cell (by rw [World.cell?_alloc_lt _ _ ⟨w.heap.size, 0, none⟩ (by simp)]; simp)) (by rw [frozen_keep hk (by simp; omega)]; simp) ha).mono
      fun e w' ⟨he, hh, hc0⟩ => ⟨he, hh.from hk (by simp; omega), hc0⟩)
  have hA := Lib.hid hA
  clear hg
  go_enter_defers Tryd.func38, Tryd.ntmps38
  go_wp2_with fail
  refine hA.out.mono ?_
  rintro e w9 ⟨rfl, hh, hc0⟩
  obtain ⟨hk, c1, f1, f0⟩ := hh.after rfl
  have k1 : w9.cell? ⟨w.heap.size + 1, 0, none⟩ = some (.bool false) := by rw [c1]; simp
  have g1 : w9.frozen? ⟨w.heap.size + 1, 0, none⟩ = false := by rw [f1]; simp
  have g00 : w9.frozen? ⟨w.heap.size, 0, none⟩ = false := by rw [f0]; simp
  have hk := Lib.hid hk
  clear c1 f1 f0 hh hA hk0
  go_wp2
  go_region
  all_goals go_wp2
  refine leaves_cons (f := 50) (args := #[.pointer (some ⟨w.heap.size, 0, none⟩), .pointer (some ⟨w.heap.size + 1, 0, none⟩)]) (by simp) (by simp [go_sem]) ?_
  refine (idleCode _ _ _).mono ?_
  rintro e u' w'' ⟨rfl, rfl, rfl⟩
  have e1 : (((w9.setCell ⟨w.heap.size + 1, 0, none⟩ (.bool true)).setCell ⟨w.heap.size, 0, none⟩ (.int .i64 c)).setCell ⟨w.heap.size + 1, 0, none⟩ (.bool true)).cell? ⟨w.heap.size + 1, 0, none⟩ = some (.bool true) := by
    refine World.cell?_setCell_same _ _ _ (u := .bool true) ?_
    rw [World.cell?_setCell_other (a := ⟨w.heap.size, 0, none⟩) (b := ⟨w.heap.size + 1, 0, none⟩) (h := by simp)]
    exact World.cell?_setCell_same _ _ _ k1
  have e20 : (((w9.setCell ⟨w.heap.size + 1, 0, none⟩ (.bool true)).setCell ⟨w.heap.size, 0, none⟩ (.int .i64 c)).setCell ⟨w.heap.size + 1, 0, none⟩ (.bool true)).cell? ⟨w.heap.size, 0, none⟩ = some (.int .i64 c) := by
    rw [World.cell?_setCell_other (a := ⟨w.heap.size + 1, 0, none⟩) (b := ⟨w.heap.size, 0, none⟩) (h := by simp)]
    refine World.cell?_setCell_same _ _ _ (u := .int .i64 c) ?_
    rw [World.cell?_setCell_other (a := ⟨w.heap.size + 1, 0, none⟩) (b := ⟨w.heap.size, 0, none⟩) (h := by simp)]
    exact hc0
  simp [Leaves, settle, results, Tryd.results38, go_sem, e1, e20]
  exact Keep.drew (Keep.set (Keep.set (Keep.set hk.out (Nat.le_succ _) _) (Nat.le_refl _) _) (Nat.le_succ _) _)

set_option maxHeartbeats 4000000 in
theorem findCode_nil (w : World) :
    Calls Tryd.prog 38 #[.nilIface] w fun e w' => e = .returned (.tuple #[.int .i64 0, .bool false]) ∧ Keep w w' := by
  have hmf : ∀ (fn : Fn) (first cap : Array Value) (w : World), (Instr.makeFunc fn first cap).run Tryd.prog w = .ok (.func fn first cap) w := fun _ _ _ _ => rfl
  have hk0 : Keep w ((w.alloc (.cells #[.int .i64 0] 70)).alloc (.cells #[.bool false] 4)) := (Keep.one w _).trans (Keep.one _ _)
  have hA : Calls Tryd.prog 51 #[.nilIface, .iface 92 (.pointer (some ⟨w.heap.size, 0, none⟩))] ((w.alloc (.cells #[.int .i64 0] 70)).alloc (.cells #[.bool false] 4)) fun e w' => e = .returned (.bool false) ∧ Keep ((w.alloc (.cells #[.int .i64 0] 70)).alloc (.cells #[.bool false] 4)) w' := (As_nil _ _).mono fun e w' ⟨he, hw⟩ => ⟨he, hw ▸ Keep.refl _⟩
  have hA := Lib.hid hA
  skip
  go_enter_defers Tryd.func38, Tryd.ntmps38
  go_wp2_with fail
  refine hA.out.mono ?_
  rintro e w9 ⟨rfl, hk9⟩
  have k1 : w9.cell? ⟨w.heap.size + 1, 0, none⟩ = some (.bool false) := hk9.cell (by simp)
  have g1 : w9.frozen? ⟨w.heap.size + 1, 0, none⟩ = false := by rw [Below.frozen hk9 (by simp)]; simp
  have hc0 : w9.cell? ⟨w.heap.size, 0, none⟩ = some (.int .i64 0) := hk9.cell (by rw [World.cell?_alloc_lt _ _ ⟨w.heap.size, 0, none⟩ (by simp)]; simp)
  have g00 : w9.frozen? ⟨w.heap.size, 0, none⟩ = false := by rw [Below.frozen hk9 (by simp; omega)]; simp
  have hk := Lib.hid (hk0.trans hk9)
  clear hA hk0 hk9
  go_wp2
  go_region
  all_goals go_wp2
  refine leaves_cons (f := 50) (args := #[.pointer (some ⟨w.heap.size, 0, none⟩), .pointer (some ⟨w.heap.size + 1, 0, none⟩)]) (by simp) (by simp [go_sem]) ?_
  refine (idleCode _ _ _).mono ?_
  rintro e u' w'' ⟨rfl, rfl, rfl⟩
  have e1 : (((w9.setCell ⟨w.heap.size + 1, 0, none⟩ (.bool false)).setCell ⟨w.heap.size, 0, none⟩ (.int .i64 0)).setCell ⟨w.heap.size + 1, 0, none⟩ (.bool false)).cell? ⟨w.heap.size + 1, 0, none⟩ = some (.bool false) := by
    refine World.cell?_setCell_same _ _ _ (u := .bool false) ?_
    rw [World.cell?_setCell_other (a := ⟨w.heap.size, 0, none⟩) (b := ⟨w.heap.size + 1, 0, none⟩) (h := by simp)]
    exact World.cell?_setCell_same _ _ _ k1
  have e20 : (((w9.setCell ⟨w.heap.size + 1, 0, none⟩ (.bool false)).setCell ⟨w.heap.size, 0, none⟩ (.int .i64 0)).setCell ⟨w.heap.size + 1, 0, none⟩ (.bool false)).cell? ⟨w.heap.size, 0, none⟩ = some (.int .i64 0) := by
    rw [World.cell?_setCell_other (a := ⟨w.heap.size + 1, 0, none⟩) (b := ⟨w.heap.size, 0, none⟩) (h := by simp)]
    refine World.cell?_setCell_same _ _ _ (u := .int .i64 0) ?_
    rw [World.cell?_setCell_other (a := ⟨w.heap.size + 1, 0, none⟩) (b := ⟨w.heap.size, 0, none⟩) (h := by simp)]
    exact hc0
  simp [Leaves, settle, results, Tryd.results38, go_sem, e1, e20]
  exact Keep.drew (Keep.set (Keep.set (Keep.set hk.out (Nat.le_succ _) _) (Nat.le_refl _) _) (Nat.le_succ _) _)

theorem code_yes (c : Int) (w : World) (hg : ErrT w) :
    Calls Tryd.prog 33 #[.iface 70 (.int .i64 c)] w fun e w' => e = .returned (.tuple #[.int .i64 c, .bool true]) ∧ Keep w w' := by
  have h := Lib.hid (findCode_yes c w hg)
  clear hg
  go_enter Tryd.func33, Tryd.ntmps33
  go_wp2_with (go_at_call 38; refine h.out.mono ?_; rintro e w' ⟨rfl, hr⟩)
  go_ret2
  exact ⟨rfl, hr⟩
theorem code_nil (w : World) : Calls Tryd.prog 33 #[.nilIface] w fun e w' => e = .returned (.tuple #[.int .i64 0, .bool false]) ∧ Keep w w' := by
  go_enter Tryd.func33, Tryd.ntmps33
  go_wp2_with (go_at_call 38; refine (findCode_nil _).mono ?_; rintro e w' ⟨rfl, hr⟩)
  go_ret2
  exact ⟨rfl, hr⟩
end Go.Proofs.YtfjghbgmjpdpbaaDoor
