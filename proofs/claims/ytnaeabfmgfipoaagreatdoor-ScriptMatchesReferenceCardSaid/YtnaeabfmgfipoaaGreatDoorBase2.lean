/-
  errors.as at the targets *api.Code, *api.Fault and **fault.located, for every chain: what is not found; a fault; the outermost located error. No condition but that the target's cells may be written.
  errors.As at the targets *api.Code, *api.Fault and **fault.located: what errors.as answers; nil. Condition: errors.errorType holds the handle of the type 'error'.
  find at api.Code, api.Fault and *located: what a chain holds, or none. Condition: errors.errorType holds its own.
  The functions of package fault, and the reference's names. Condition: the three listed variables hold their own.
  The names of codes and kinds, the program's and the reference's. Condition: the tables hold their own.
  op.Clone, op.Plain, the functions that make operations. Condition: at most 1048576 amounts.
  The comparisons of operations: the reference's Equal. No condition.
  op.kept with the world that it leaves written out. No condition.
  op.Same: what is kept of both, and the comparison. No condition.
  The reference's Line. Condition: at most 100 amounts.
  The words of an operation's line are its kind's name, its numbers' texts and its flag. No condition.
  What a list of words says as an operation; the words of an operation's own line say its plain operation. Condition: its numbers are from -2^62 to 2^62.
-/
import Derived.Test.YtnaeabfmgfipoaaGreatDoorBase1
import Derived.Defers
import Derived.Recover
import Derived.RegionTactic
import Derived.Deep.RegionWith
import Derived.ChangeAlike
import Derived.Deep.RegionHeld3
import Derived.Deep.Draws
import Derived.Deep.CutRange
namespace Go.Proofs.YtnaeabfmgfipoaaGreatDoor
open Go.RowKit Go.Extern.Stop Go.Stop Go.Extern


def isText : Base → Prop
  | .text _ => True
  | _ => False
def noFault : Base → Prop
  | .fault _ _ => False
  | _ => True

set_option maxRecDepth 100000 in
set_option maxHeartbeats 4000000 in
theorem as_code_no (ks0 : List Int) (b0 : Base) (v0 : Value) (w : World) (a t : Addr) (hch : Chain w ks0 b0 v0) (hb0 : isText b0) :
    Calls Tryz.prog 81 #[v0, .iface 99 (.pointer (some t)), .agg #[.pointer (some ⟨9, 99, none⟩), .pointer (some a), .int .u64 150], .iface 140 (.agg #[.pointer (some ⟨9, 58, none⟩)])] w fun e w' => e = .returned (.bool false) ∧ Keep w w' := by
  have hT := @run_callFunc_extern Tryz.prog 93 _ ReflectliteType.typeOf Tryz.func93 (by kernel_rfl) (by kernel_rfl) (by kernel_rfl) (by kernel_rfl)
  have hA := @run_callFunc_extern Tryz.prog 133 _ (ReflectliteType.relation "AssignableTo" ReflectliteType.assignableTo) Tryz.func133 (by kernel_rfl) (by kernel_rfl) (by kernel_rfl) (by kernel_rfl)
  have mA := Tryz.rMethodAssignableTo
  have t4 := Tryz.rTypeOfErrS
  have a4 := Tryz.rAssignErrSToCode
  have n4 := Tryz.noAsText
  have u4 := Tryz.noUnText
  have v4 := Tryz.noUnsText
  replace hch := Lib.hid hch
  go_enter Tryz.func81, Tryz.ntmps81
  go_wp2
  go_loopg [0] (depth ks0 b0) (fun g v wr => ∃ ks b, Chain w ks b v ∧ isText b ∧ g = depth ks b ∧ Keep w wr)
  case atStart => exact ⟨ks0, b0, hch.out, hb0, rfl, Keep.one _ _⟩
  case round =>
    obtain ⟨ks, b, hc1, hb, rfl, hk⟩ := hrel
    clear hb0
    rcases hc1.open with ⟨rfl, rfl⟩ | ⟨k, ks, o, v, rfl, rfl, h1, h2, hc2⟩
    · clear hc1
      have hk1 := Lib.hid hk
      clear hk
      cases b with
      | code x => exact absurd hb (by simp [isText])
      | fault x n => exact absurd hb (by simp [isText])
      | text x =>
        clear hb
        unfold Base.val
        go_wp2
        go_ret
        exact ⟨rfl, hk1.out⟩
    · exact h1.elim

set_option maxRecDepth 100000 in
set_option maxHeartbeats 4000000 in
theorem as_fault_no (ks0 : List Int) (b0 : Base) (v0 : Value) (w : World) (a t : Addr) (hch : Chain w ks0 b0 v0) (hb0 : noFault b0) :
    Calls Tryz.prog 81 #[v0, .iface 100 (.pointer (some t)), .agg #[.pointer (some ⟨9, 100, none⟩), .pointer (some a), .int .u64 150], .iface 140 (.agg #[.pointer (some ⟨9, 89, none⟩)])] w fun e w' => e = .returned (.bool false) ∧ Keep w w' := by
  have hT := @run_callFunc_extern Tryz.prog 93 _ ReflectliteType.typeOf Tryz.func93 (by kernel_rfl) (by kernel_rfl) (by kernel_rfl) (by kernel_rfl)
  have hA := @run_callFunc_extern Tryz.prog 133 _ (ReflectliteType.relation "AssignableTo" ReflectliteType.assignableTo) Tryz.func133 (by kernel_rfl) (by kernel_rfl) (by kernel_rfl) (by kernel_rfl)
  have mA := Tryz.rMethodAssignableTo
  have t1 := Tryz.rTypeOfCode
  have a1 := Tryz.rAssignCodeToFault
  have n3 := Tryz.noAsCode
  have u3 := Tryz.noUnCode
  have v3 := Tryz.noUnsCode
  have t4 := Tryz.rTypeOfErrS
  have a4 := Tryz.rAssignErrSToFault
  have n4 := Tryz.noAsText
  have u4 := Tryz.noUnText
  have v4 := Tryz.noUnsText
  replace hch := Lib.hid hch
  go_enter Tryz.func81, Tryz.ntmps81
  go_wp2
  go_loopg [0] (depth ks0 b0) (fun g v wr => ∃ ks b, Chain w ks b v ∧ noFault b ∧ g = depth ks b ∧ Keep w wr)
  case atStart => exact ⟨ks0, b0, hch.out, hb0, rfl, Keep.one _ _⟩
  case round =>
    obtain ⟨ks, b, hc1, hb, rfl, hk⟩ := hrel
    clear hb0
    rcases hc1.open with ⟨rfl, rfl⟩ | ⟨k, ks, o, v, rfl, rfl, h1, h2, hc2⟩
    · clear hc1
      have hk1 := Lib.hid hk
      clear hk
      cases b with
      | code x =>
        clear hb
        unfold Base.val
        go_wp2
        go_ret
        exact ⟨rfl, hk1.out⟩
      | fault x n => exact absurd hb (by simp [noFault])
      | text x =>
        clear hb
        unfold Base.val
        go_wp2
        go_ret
        exact ⟨rfl, hk1.out⟩
    · exact h1.elim

theorem Hit.of_keep2 {tb : Nat} {w wr : World} (h : Keep w wr) (ht : tb < w.heap.size) (o : Obj) (x y : Value) : Hit ⟨tb, 0, none⟩ w (((wr.alloc o).setCell ⟨tb, 0, none⟩ x).setCell ⟨tb, 0 + 1, none⟩ y) := by
  have hk := h.alloc o
  refine ⟨⟨hk.os, hk.tape, hk.output, ?_, fun k hk2 hne => ?_⟩, fun i => ?_⟩
  · have := hk.size; simpa [World.setCell] using this
  · rw [Below.heap_setCell _ _ _ _ (by intro e; apply hne; rw [e]), Below.heap_setCell _ _ _ _ (by intro e; apply hne; rw [e]), Below.block hk k hk2]
  · rw [World.frozen?_setCell, World.frozen?_setCell, Below.frozen hk (p := ⟨tb, i, none⟩) ht]

set_option maxRecDepth 100000 in
set_option maxHeartbeats 4000000 in
theorem as_fault_yes (x y : Int) (ks0 : List Int) (v0 : Value) (w : World) (a : Addr) (tb : Nat) (o1 o2 : Value) (hch : Chain w ks0 (.fault x y) v0)
    (ht : w.cell? ⟨tb, 0, none⟩ = some o1) (ht' : w.cell? ⟨tb, 0 + 1, none⟩ = some o2) (hf : w.frozen? ⟨tb, 0, none⟩ = false) (hf' : w.frozen? ⟨tb, 0 + 1, none⟩ = false) (ha : w.cell? a = some (.pointer (some ⟨tb, 0, none⟩))) :
    Calls Tryz.prog 81 #[v0, .iface 100 (.pointer (some ⟨tb, 0, none⟩)), .agg #[.pointer (some ⟨9, 100, none⟩), .pointer (some a), .int .u64 150], .iface 140 (.agg #[.pointer (some ⟨9, 89, none⟩)])] w fun e w' => e = .returned (.bool true) ∧ Hit ⟨tb, 0, none⟩ w w' ∧ w'.cell? ⟨tb, 0, none⟩ = some (.int .i64 x) ∧ w'.cell? ⟨tb, 0 + 1, none⟩ = some (.int .i64 y) := by
  have hT := @run_callFunc_extern Tryz.prog 93 _ ReflectliteType.typeOf Tryz.func93 (by kernel_rfl) (by kernel_rfl) (by kernel_rfl) (by kernel_rfl)
  have hA := @run_callFunc_extern Tryz.prog 133 _ (ReflectliteType.relation "AssignableTo" ReflectliteType.assignableTo) Tryz.func133 (by kernel_rfl) (by kernel_rfl) (by kernel_rfl) (by kernel_rfl)
  have mA := Tryz.rMethodAssignableTo
  have t2 := Tryz.rTypeOfFault
  have a2 := Tryz.rAssignFaultToFault
  have hv := @run_callFunc_extern Tryz.prog 78 _ (fun args => ReflectliteValue.unpack (args.getD 0 (.tuple #[]))) Tryz.func78 (by kernel_rfl) (by kernel_rfl) (by kernel_rfl) (by kernel_rfl)
  have hE := @run_callFunc_extern Tryz.prog 94 _ (ReflectliteValue.method (ReflectliteValue.valueError "reflectlite.Value.Elem" 0) ReflectliteValue.elem) Tryz.func94 (by kernel_rfl) (by kernel_rfl) (by kernel_rfl) (by kernel_rfl)
  have hS := @run_callFunc_extern Tryz.prog 95 _ ReflectliteValue.set Tryz.func95 (by kernel_rfl) (by kernel_rfl) (by kernel_rfl) (by kernel_rfl)
  have hvc := Tryz.rUnpackFault
  go_enter Tryz.func81, Tryz.ntmps81
  go_wp2
  go_loopg [0] ks0.length (fun g v wr => ∃ ks, Chain w ks (.fault x y) v ∧ g = ks.length ∧ Keep (w.alloc (.cells #[.pointer (some ⟨9, 100, none⟩), .pointer (some a), .int .u64 150] 117)) wr)
  case atStart => exact ⟨ks0, hch, rfl, Keep.refl _⟩
  case round =>
    obtain ⟨ks, hc1, rfl, hk⟩ := hrel
    have hk0 : Keep w wr := (Keep.one w _).trans hk
    have k0 := hk.cell (a := ⟨w.heap.size, 0, none⟩) (v := .pointer (some ⟨9, 100, none⟩)) (by simp)
    have k1 := hk.cell (a := ⟨w.heap.size, 0 + 1, none⟩) (v := .pointer (some a)) (by simp)
    have k2 := hk.cell (a := ⟨w.heap.size, 0 + 2, none⟩) (v := .int .u64 150) (by simp)
    have hE2 := Tryz.rElemVFault a ⟨tb, 0, none⟩ wr (hk0.cell ha)
    have hlt : tb < w.heap.size := cell_lt ht
    have hkw := hk0.trans (Keep.one wr (.cells #[.int .i64 x, .int .i64 y] 89))
    have hkt := hkw.cell ht
    have hkt' := hkw.cell ht'
    have hkf : (wr.alloc (.cells #[.int .i64 x, .int .i64 y] 89)).frozen? ⟨tb, 0, none⟩ = false := by rw [frozen_keep hkw hlt]; exact hf
    have hkf' : (wr.alloc (.cells #[.int .i64 x, .int .i64 y] 89)).frozen? ⟨tb, 0 + 1, none⟩ = false := by rw [frozen_keep hkw hlt]; exact hf'
    have hs2 := Tryz.rSetFault tb wr.heap.size x y o1 o2 (wr.alloc (.cells #[.int .i64 x, .int .i64 y] 89)) (by simp) (by simp) hkt hkt' hkf hkf'
    have hfin := Lib.hid (show (((wr.alloc (.cells #[.int .i64 x, .int .i64 y] 89)).setCell ⟨tb, 0, none⟩ (.int .i64 x)).setCell ⟨tb, 0 + 1, none⟩ (.int .i64 y)).cell? ⟨tb, 0, none⟩ = some (.int .i64 x) by
      rw [World.cell?_setCell_other (a := ⟨tb, 0 + 1, none⟩) (b := ⟨tb, 0, none⟩) (h := by simp)]; exact World.cell?_setCell_same _ _ _ (u := o1) hkt)
    have hfin' := Lib.hid (show (((wr.alloc (.cells #[.int .i64 x, .int .i64 y] 89)).setCell ⟨tb, 0, none⟩ (.int .i64 x)).setCell ⟨tb, 0 + 1, none⟩ (.int .i64 y)).cell? ⟨tb, 0 + 1, none⟩ = some (.int .i64 y) from
      World.cell?_setCell_same _ _ _ (u := o2) (by rw [World.cell?_setCell_other (a := ⟨tb, 0, none⟩) (b := ⟨tb, 0 + 1, none⟩) (h := by simp)]; exact hkt'))
    have hk1 := Lib.hid hk
    have hk2 := Lib.hid hk0
    have hlt0 := Lib.hid hlt
    clear hk0 hch ht hf ha hkt hkf hlt hkw hkt' hkf' ht' hf'
    rcases hc1.open with ⟨rfl, rfl⟩ | ⟨k, ks, o, v, rfl, rfl, h1, h2, hc2⟩
    · clear hk hc1
      unfold Base.val
      go_wp2
      go_ret
      exact ⟨rfl, Hit.of_keep2 hk2.out hlt0.out _ _ _, hfin.out, hfin'.out⟩
    · exact h1.elim

end Go.Proofs.YtnaeabfmgfipoaaGreatDoor
namespace Go.Proofs.YtnaeabfmgfipoaaGreatDoor
open Go.RowKit Go.Extern.Stop Go.Stop Go.Extern

/-- The variable errors.errorType holds its own. -/
def ErrT (w : World) : Prop := w.cell? ⟨3, 0, none⟩ = some (.iface 140 (.agg #[.pointer (some ⟨9, 25, none⟩)]))
theorem ErrT.keep {w w' : World} (h : ErrT w) (k : Keep w w') : ErrT w' := k.cell h
theorem As_nil (t : Value) (w : World) : Calls Tryz.prog 64 #[.nilIface, t] w fun e w' => e = .returned (.bool false) ∧ w = w' := by
  go_enter Tryz.func64, Tryz.ntmps64
  go_wp2
  go_ret
  exact ⟨rfl, rfl⟩

set_option maxRecDepth 100000 in
set_option maxHeartbeats 4000000 in
theorem As_Code (tv : TypeId) (xv : Value) (t : Addr) (w : World) (b : Bool) (R : World → Prop) (hg : ErrT w)
    (h : ∀ w1 a, Keep w w1 → w1.cell? a = some (.pointer (some t)) → Calls Tryz.prog 81 #[.iface tv xv, .iface 99 (.pointer (some t)), .agg #[.pointer (some ⟨9, 99, none⟩), .pointer (some a), .int .u64 150], .iface 140 (.agg #[.pointer (some ⟨9, 58, none⟩)])] w1
      fun e w' => e = .returned (.bool b) ∧ R w') :
    Calls Tryz.prog 64 #[.iface tv xv, .iface 99 (.pointer (some t))] w fun e w' => e = .returned (.bool b) ∧ R w' := by
  have h6 := @run_callFunc_extern Tryz.prog 78 _ (fun args => ReflectliteValue.unpack (args.getD 0 (.tuple #[]))) Tryz.func78 (by kernel_rfl) (by kernel_rfl) (by kernel_rfl) (by kernel_rfl)
  have h7 := @run_callFunc_extern Tryz.prog 79 _ (ReflectliteValue.methodAny (ReflectliteValue.valueError "reflectlite.Value.Type" 0) (fun t _ _ _ => ReflectliteType.toType t)) Tryz.func79 (by kernel_rfl) (by kernel_rfl) (by kernel_rfl) (by kernel_rfl)
  have h8 := @run_callFunc_extern Tryz.prog 80 _ (ReflectliteValue.method (ReflectliteValue.valueError "reflectlite.Value.IsNil" 0) ReflectliteValue.isNil) Tryz.func80 (by kernel_rfl) (by kernel_rfl) (by kernel_rfl) (by kernel_rfl)
  have h27 := @run_callFunc_extern Tryz.prog 119 _ (ReflectliteType.abiMethod fun t => do pure (.int .u8 (← Rtype.kind t))) Tryz.func119 (by kernel_rfl) (by kernel_rfl) (by kernel_rfl) (by kernel_rfl)
  have h37 := @run_callFunc_extern Tryz.prog 135 _ (ReflectliteType.method ReflectliteType.elem) Tryz.func135 (by kernel_rfl) (by kernel_rfl) (by kernel_rfl) (by kernel_rfl)
  have h38 := @run_callFunc_extern Tryz.prog 136 _ (ReflectliteType.relation "Implements" ReflectliteType.implements_) Tryz.func136 (by kernel_rfl) (by kernel_rfl) (by kernel_rfl) (by kernel_rfl)
  have f6 := Tryz.rUnpackPCode
  have f7 := Tryz.rTypePCode
  have mK := Tryz.rMethodKind
  have mE := Tryz.rMethodElem
  have mI := Tryz.rMethodImplements
  have k27 := Tryz.rKindPCode
  have k25 := Tryz.rKindCode
  have e27 := Tryz.rElemPCode
  have i25 := Tryz.rImplCode
  have n8 := Tryz.rIsNilPCode ⟨w.heap.size, 0, none⟩ t ((w.alloc (.cells #[.pointer (some t)] 99)).alloc (.cells #[.pointer (some ⟨9, 99, none⟩), .pointer (some ⟨w.heap.size, 0, none⟩), .int .u64 150] 117)) (by rw [World.cell?_alloc_lt _ _ ⟨w.heap.size, 0, none⟩ (by simp)]; simp)
  have hkk : Keep w ((w.alloc (.cells #[.pointer (some t)] 99)).alloc (.cells #[.pointer (some ⟨9, 99, none⟩), .pointer (some ⟨w.heap.size, 0, none⟩), .int .u64 150] 117)) := (Keep.one w _).trans (Keep.one _ _)
  have hg2 : ((w.alloc (.cells #[.pointer (some t)] 99)).alloc (.cells #[.pointer (some ⟨9, 99, none⟩), .pointer (some ⟨w.heap.size, 0, none⟩), .int .u64 150] 117)).cell? ⟨3, 0, none⟩ = some (.iface 140 (.agg #[.pointer (some ⟨9, 25, none⟩)])) := hg.keep hkk
  have hc := h ((w.alloc (.cells #[.pointer (some t)] 99)).alloc (.cells #[.pointer (some ⟨9, 99, none⟩), .pointer (some ⟨w.heap.size, 0, none⟩), .int .u64 150] 117)) ⟨w.heap.size, 0, none⟩ hkk (by rw [World.cell?_alloc_lt _ _ ⟨w.heap.size, 0, none⟩ (by simp)]; simp)
  have hc := Lib.hid hc
  clear h hg hkk
  go_enter Tryz.func64, Tryz.ntmps64
  go_wp2_with (go_at_call 81; refine hc.out.mono ?_; rintro e w' ⟨rfl, hr⟩)
  go_ret
  exact ⟨rfl, hr⟩

set_option maxRecDepth 100000 in
set_option maxHeartbeats 4000000 in
theorem As_Fault (tv : TypeId) (xv : Value) (t : Addr) (w : World) (b : Bool) (R : World → Prop) (hg : ErrT w)
    (h : ∀ w1 a, Keep w w1 → w1.cell? a = some (.pointer (some t)) → Calls Tryz.prog 81 #[.iface tv xv, .iface 100 (.pointer (some t)), .agg #[.pointer (some ⟨9, 100, none⟩), .pointer (some a), .int .u64 150], .iface 140 (.agg #[.pointer (some ⟨9, 89, none⟩)])] w1
      fun e w' => e = .returned (.bool b) ∧ R w') :
    Calls Tryz.prog 64 #[.iface tv xv, .iface 100 (.pointer (some t))] w fun e w' => e = .returned (.bool b) ∧ R w' := by
  have h6 := @run_callFunc_extern Tryz.prog 78 _ (fun args => ReflectliteValue.unpack (args.getD 0 (.tuple #[]))) Tryz.func78 (by kernel_rfl) (by kernel_rfl) (by kernel_rfl) (by kernel_rfl)
  have h7 := @run_callFunc_extern Tryz.prog 79 _ (ReflectliteValue.methodAny (ReflectliteValue.valueError "reflectlite.Value.Type" 0) (fun t _ _ _ => ReflectliteType.toType t)) Tryz.func79 (by kernel_rfl) (by kernel_rfl) (by kernel_rfl) (by kernel_rfl)
  have h8 := @run_callFunc_extern Tryz.prog 80 _ (ReflectliteValue.method (ReflectliteValue.valueError "reflectlite.Value.IsNil" 0) ReflectliteValue.isNil) Tryz.func80 (by kernel_rfl) (by kernel_rfl) (by kernel_rfl) (by kernel_rfl)
  have h27 := @run_callFunc_extern Tryz.prog 119 _ (ReflectliteType.abiMethod fun t => do pure (.int .u8 (← Rtype.kind t))) Tryz.func119 (by kernel_rfl) (by kernel_rfl) (by kernel_rfl) (by kernel_rfl)
  have h37 := @run_callFunc_extern Tryz.prog 135 _ (ReflectliteType.method ReflectliteType.elem) Tryz.func135 (by kernel_rfl) (by kernel_rfl) (by kernel_rfl) (by kernel_rfl)
  have h38 := @run_callFunc_extern Tryz.prog 136 _ (ReflectliteType.relation "Implements" ReflectliteType.implements_) Tryz.func136 (by kernel_rfl) (by kernel_rfl) (by kernel_rfl) (by kernel_rfl)
  have f6 := Tryz.rUnpackPFault
  have f7 := Tryz.rTypePFault
  have mK := Tryz.rMethodKind
  have mE := Tryz.rMethodElem
  have mI := Tryz.rMethodImplements
  have k27 := Tryz.rKindPFault
  have k25 := Tryz.rKindFault
  have e27 := Tryz.rElemPFault
  have i25 := Tryz.rImplFault
  have n8 := Tryz.rIsNilPFault ⟨w.heap.size, 0, none⟩ t ((w.alloc (.cells #[.pointer (some t)] 100)).alloc (.cells #[.pointer (some ⟨9, 100, none⟩), .pointer (some ⟨w.heap.size, 0, none⟩), .int .u64 150] 117)) (by rw [World.cell?_alloc_lt _ _ ⟨w.heap.size, 0, none⟩ (by simp)]; simp)
  have hkk : Keep w ((w.alloc (.cells #[.pointer (some t)] 100)).alloc (.cells #[.pointer (some ⟨9, 100, none⟩), .pointer (some ⟨w.heap.size, 0, none⟩), .int .u64 150] 117)) := (Keep.one w _).trans (Keep.one _ _)
  have hg2 : ((w.alloc (.cells #[.pointer (some t)] 100)).alloc (.cells #[.pointer (some ⟨9, 100, none⟩), .pointer (some ⟨w.heap.size, 0, none⟩), .int .u64 150] 117)).cell? ⟨3, 0, none⟩ = some (.iface 140 (.agg #[.pointer (some ⟨9, 25, none⟩)])) := hg.keep hkk
  have hc := h ((w.alloc (.cells #[.pointer (some t)] 100)).alloc (.cells #[.pointer (some ⟨9, 100, none⟩), .pointer (some ⟨w.heap.size, 0, none⟩), .int .u64 150] 117)) ⟨w.heap.size, 0, none⟩ hkk (by rw [World.cell?_alloc_lt _ _ ⟨w.heap.size, 0, none⟩ (by simp)]; simp)
  have hc := Lib.hid hc
  clear h hg hkk
  go_enter Tryz.func64, Tryz.ntmps64
  go_wp2_with (go_at_call 81; refine hc.out.mono ?_; rintro e w' ⟨rfl, hr⟩)
  go_ret
  exact ⟨rfl, hr⟩

end Go.Proofs.YtnaeabfmgfipoaaGreatDoor
namespace Go.Proofs.YtnaeabfmgfipoaaGreatDoor
open Go.RowKit Go.Extern.Stop Go.Stop Go.Extern

theorem Hit.from {t : Addr} {w w1 w' : World} (h : Hit t w1 w') (k : Keep w w1) (ht : t.block < w.heap.size) : Hit t w w' := by
  refine ⟨⟨h.1.os.trans k.os, h.1.tape.trans k.tape, h.1.output.trans k.output, Nat.le_trans k.size h.1.size, fun j hj hne => ?_⟩, fun i => ?_⟩
  · rw [h.1.block j (Nat.lt_of_lt_of_le hj k.size) hne, Below.block k j hj]
  · rw [h.2, Below.frozen k (p := ⟨t.block, i, none⟩) ht]
/-- What find's two variables are behind errors.As, where something was found. -/
theorem Hit.after {w w9 : World} {n : Nat} {o1 o2 : Obj} (hn : n = w.heap.size) (hh : Hit ⟨n, 0, none⟩ ((w.alloc o1).alloc o2) w9) :
    Keep w w9 ∧ (∀ i, w9.cell? ⟨n + 1, i, none⟩ = ((w.alloc o1).alloc o2).cell? ⟨n + 1, i, none⟩) ∧ (∀ i, w9.frozen? ⟨n + 1, i, none⟩ = ((w.alloc o1).alloc o2).frozen? ⟨n + 1, i, none⟩) ∧ (∀ i, w9.frozen? ⟨n, i, none⟩ = ((w.alloc o1).alloc o2).frozen? ⟨n, i, none⟩) := by
  subst hn
  have hk0 : Keep w ((w.alloc o1).alloc o2) := (Keep.one w _).trans (Keep.one _ _)
  have hsz : ((w.alloc o1).alloc o2).heap.size = w.heap.size + 2 := by simp
  have hg := hh.1
  refine ⟨⟨hg.os.trans hk0.os, hg.tape.trans hk0.tape, hg.output.trans hk0.output, Nat.le_trans hk0.size hg.size, fun k hk => ?_⟩, fun i => ?_, fun i => ?_, hh.2⟩
  · rw [hg.block k (by omega) (by simp; omega), Below.block hk0 k hk]
  · exact World.cell?_of_block (hg.block (w.heap.size + 1) (by omega) (by simp))
  · exact World.frozen?_of_block (hg.block (w.heap.size + 1) (by omega) (by simp))
theorem idleCode (a b : Value) (w : World) :
    CallsD Tryz.prog 63 #[a, b] .returning w fun e u' w' => e = .returned (.tuple #[]) ∧ u' = .returning ∧ w = w' := by
  refine callsD_of_wpS Tryz.func63 rfl fun c₀ cs hu => ?_
  apply wpS_seq
  apply wpS_region
  simp [wpOpsS, go_sem, recoverD, hu, Tryz.ntmps63, Exit.thenS]
  refine wpS_cond (t := false) (by simp [Act.eval, Array.replicate]) ?_
  simp only [Bool.false_eq_true, if_false]
  refine wpS_of_wp (wp_skip ?_)
  cases c₀
  simp_all [bodyPostS, results, Tryz.results63]

theorem idleFault (a b : Value) (w : World) :
    CallsD Tryz.prog 65 #[a, b] .returning w fun e u' w' => e = .returned (.tuple #[]) ∧ u' = .returning ∧ w = w' := by
  refine callsD_of_wpS Tryz.func65 rfl fun c₀ cs hu => ?_
  apply wpS_seq
  apply wpS_region
  simp [wpOpsS, go_sem, recoverD, hu, Tryz.ntmps65, Exit.thenS]
  refine wpS_cond (t := false) (by simp [Act.eval, Array.replicate]) ?_
  simp only [Bool.false_eq_true, if_false]
  refine wpS_of_wp (wp_skip ?_)
  cases c₀
  simp_all [bodyPostS, results, Tryz.results65]

set_option maxHeartbeats 4000000 in
theorem findCode_yes (c : Int) (ks : List Int) (b : Base) (v : Value) (w : World) (hch : Chain w ks b v) (hb : hasCode c b) (hg : ErrT w) :
    Calls Tryz.prog 52 #[v] w fun e w' => e = .returned (.tuple #[.int .i64 c, .bool true]) ∧ Keep w w' := by
  have hmf : ∀ (fn : Fn) (first cap : Array Value) (w : World), (Instr.makeFunc fn first cap).run Tryz.prog w = .ok (.func fn first cap) w := fun _ _ _ _ => rfl
  obtain ⟨tv, xv, rfl⟩ := hch.iface
  have hk0 : Keep w ((w.alloc (.cells #[.int .i64 0] 58)).alloc (.cells #[.bool false] 4)) := (Keep.one w _).trans (Keep.one _ _)
  have hA := As_Code tv xv ⟨w.heap.size, 0, none⟩ ((w.alloc (.cells #[.int .i64 0] 58)).alloc (.cells #[.bool false] 4)) true
    (fun w' => Hit ⟨w.heap.size, 0, none⟩ ((w.alloc (.cells #[.int .i64 0] 58)).alloc (.cells #[.bool false] 4)) w' ∧ w'.cell? ⟨w.heap.size, 0, none⟩ = some (.int .i64 c)) (hg.keep hk0)
    (fun w1 aa hk ha => (as_code_yes c ks b (.iface tv xv) w1 aa ⟨w.heap.size, 0, none⟩ (.int .i64 0) ((hch.keep hk0).keep hk) hb (hk.cell (by rw [World.cell?_alloc_lt _ _ ⟨w.heap.size, 0, none⟩ (by simp)]; simp)) (by rw [frozen_keep hk (by simp; omega)]; simp) ha).mono
      fun e w' ⟨he, hh, hc0⟩ => ⟨he, hh.from hk (by simp; omega), hc0⟩)
  have hA := Lib.hid hA
  clear hch hg
  go_enter_defers Tryz.func52, Tryz.ntmps52
  go_wp2_with fail
  refine hA.out.mono ?_
  rintro e w9 ⟨rfl, hh, hc0⟩
  obtain ⟨hk, c1, f1, f0⟩ := hh.after rfl
  have k1 : w9.cell? ⟨w.heap.size + 1, 0, none⟩ = some (.bool false) := by rw [c1]; simp
  have g1 : w9.frozen? ⟨w.heap.size + 1, 0, none⟩ = false := by rw [f1]; simp
  have g00 : w9.frozen? ⟨w.heap.size, 0, none⟩ = false := by rw [f0]; simp
  have hk := Lib.hid hk
  clear c1 f1 f0 hh hA hk0
  go_wp2
  go_region
  all_goals go_wp2
  refine leaves_cons (f := 63) (args := #[.pointer (some ⟨w.heap.size, 0, none⟩), .pointer (some ⟨w.heap.size + 1, 0, none⟩)]) (by simp) (by simp [go_sem]) ?_
  refine (idleCode _ _ _).mono ?_
  rintro e u' w'' ⟨rfl, rfl, rfl⟩
  have e1 : (((w9.setCell ⟨w.heap.size + 1, 0, none⟩ (.bool true)).setCell ⟨w.heap.size, 0, none⟩ (.int .i64 c)).setCell ⟨w.heap.size + 1, 0, none⟩ (.bool true)).cell? ⟨w.heap.size + 1, 0, none⟩ = some (.bool true) := by
    refine World.cell?_setCell_same _ _ _ (u := .bool true) ?_
    rw [World.cell?_setCell_other (a := ⟨w.heap.size, 0, none⟩) (b := ⟨w.heap.size + 1, 0, none⟩) (h := by simp)]
    exact World.cell?_setCell_same _ _ _ k1
  have e20 : (((w9.setCell ⟨w.heap.size + 1, 0, none⟩ (.bool true)).setCell ⟨w.heap.size, 0, none⟩ (.int .i64 c)).setCell ⟨w.heap.size + 1, 0, none⟩ (.bool true)).cell? ⟨w.heap.size, 0, none⟩ = some (.int .i64 c) := by
    rw [World.cell?_setCell_other (a := ⟨w.heap.size + 1, 0, none⟩) (b := ⟨w.heap.size, 0, none⟩) (h := by simp)]
    refine World.cell?_setCell_same _ _ _ (u := .int .i64 c) ?_
    rw [World.cell?_setCell_other (a := ⟨w.heap.size + 1, 0, none⟩) (b := ⟨w.heap.size, 0, none⟩) (h := by simp)]
    exact hc0
  simp [Leaves, settle, results, Tryz.results52, go_sem, e1, e20]
  exact Keep.drew (Keep.set (Keep.set (Keep.set hk.out (Nat.le_succ _) _) (Nat.le_refl _) _) (Nat.le_succ _) _)

set_option maxHeartbeats 4000000 in
theorem findFault_yes (x y : Int) (ks : List Int) (v : Value) (w : World) (hch : Chain w ks (.fault x y) v) (hg : ErrT w) :
    Calls Tryz.prog 53 #[v] w fun e w' => e = .returned (.tuple #[.agg #[.int .i64 x, .int .i64 y], .bool true]) ∧ Keep w w' := by
  have hmf : ∀ (fn : Fn) (first cap : Array Value) (w : World), (Instr.makeFunc fn first cap).run Tryz.prog w = .ok (.func fn first cap) w := fun _ _ _ _ => rfl
  obtain ⟨tv, xv, rfl⟩ := hch.iface
  have hk0 : Keep w ((w.alloc (.cells #[.int .i64 0, .int .i64 0] 89)).alloc (.cells #[.bool false] 4)) := (Keep.one w _).trans (Keep.one _ _)
  have hA := As_Fault tv xv ⟨w.heap.size, 0, none⟩ ((w.alloc (.cells #[.int .i64 0, .int .i64 0] 89)).alloc (.cells #[.bool false] 4)) true
    (fun w' => Hit ⟨w.heap.size, 0, none⟩ ((w.alloc (.cells #[.int .i64 0, .int .i64 0] 89)).alloc (.cells #[.bool false] 4)) w' ∧ w'.cell? ⟨w.heap.size, 0, none⟩ = some (.int .i64 x) ∧ w'.cell? ⟨w.heap.size, 0 + 1, none⟩ = some (.int .i64 y)) (hg.keep hk0)
    (fun w1 aa hk ha => (as_fault_yes x y ks (.iface tv xv) w1 aa w.heap.size (.int .i64 0) (.int .i64 0) ((hch.keep hk0).keep hk) (hk.cell (by rw [World.cell?_alloc_lt _ _ ⟨w.heap.size, 0, none⟩ (by simp)]; simp)) (hk.cell (by rw [World.cell?_alloc_lt _ _ ⟨w.heap.size, 0 + 1, none⟩ (by simp)]; simp)) (by rw [frozen_keep hk (by simp; omega)]; simp) (by rw [frozen_keep hk (by simp; omega)]; simp) ha).mono
      fun e w' ⟨he, hh, hc0, hc1⟩ => ⟨he, hh.from hk (by simp; omega), hc0, hc1⟩)
  have hA := Lib.hid hA
  clear hch hg
  go_enter_defers Tryz.func53, Tryz.ntmps53
  go_wp2_with fail
  refine hA.out.mono ?_
  rintro e w9 ⟨rfl, hh, hc0, hc1⟩
  obtain ⟨hk, c1, f1, f0⟩ := hh.after rfl
  have k1 : w9.cell? ⟨w.heap.size + 1, 0, none⟩ = some (.bool false) := by rw [c1]; simp
  have g1 : w9.frozen? ⟨w.heap.size + 1, 0, none⟩ = false := by rw [f1]; simp
  have g00 : w9.frozen? ⟨w.heap.size, 0, none⟩ = false := by rw [f0]; simp
  have g01 : w9.frozen? ⟨w.heap.size, 0 + 1, none⟩ = false := by rw [f0]; simp
  have hk := Lib.hid hk
  clear c1 f1 f0 hh hA hk0
  go_wp2
  go_region
  all_goals go_wp2
  refine leaves_cons (f := 65) (args := #[.pointer (some ⟨w.heap.size, 0, none⟩), .pointer (some ⟨w.heap.size + 1, 0, none⟩)]) (by simp) (by simp [go_sem]) ?_
  refine (idleFault _ _ _).mono ?_
  rintro e u' w'' ⟨rfl, rfl, rfl⟩
  have e1 : ((((w9.setCell ⟨w.heap.size + 1, 0, none⟩ (.bool true)).setCell ⟨w.heap.size, 0, none⟩ (.int .i64 x)).setCell ⟨w.heap.size, 1, none⟩ (.int .i64 y)).setCell ⟨w.heap.size + 1, 0, none⟩ (.bool true)).cell? ⟨w.heap.size + 1, 0, none⟩ = some (.bool true) := by
    refine World.cell?_setCell_same _ _ _ (u := .bool true) ?_
    rw [World.cell?_setCell_other (a := ⟨w.heap.size, 1, none⟩) (b := ⟨w.heap.size + 1, 0, none⟩) (h := by simp)]
    rw [World.cell?_setCell_other (a := ⟨w.heap.size, 0, none⟩) (b := ⟨w.heap.size + 1, 0, none⟩) (h := by simp)]
    exact World.cell?_setCell_same _ _ _ k1
  have e20 : ((((w9.setCell ⟨w.heap.size + 1, 0, none⟩ (.bool true)).setCell ⟨w.heap.size, 0, none⟩ (.int .i64 x)).setCell ⟨w.heap.size, 1, none⟩ (.int .i64 y)).setCell ⟨w.heap.size + 1, 0, none⟩ (.bool true)).cell? ⟨w.heap.size, 0, none⟩ = some (.int .i64 x) := by
    rw [World.cell?_setCell_other (a := ⟨w.heap.size + 1, 0, none⟩) (b := ⟨w.heap.size, 0, none⟩) (h := by simp)]
    rw [World.cell?_setCell_other (a := ⟨w.heap.size, 1, none⟩) (b := ⟨w.heap.size, 0, none⟩) (h := by simp)]
    refine World.cell?_setCell_same _ _ _ (u := .int .i64 x) ?_
    rw [World.cell?_setCell_other (a := ⟨w.heap.size + 1, 0, none⟩) (b := ⟨w.heap.size, 0, none⟩) (h := by simp)]
    exact hc0
  have e21 : ((((w9.setCell ⟨w.heap.size + 1, 0, none⟩ (.bool true)).setCell ⟨w.heap.size, 0, none⟩ (.int .i64 x)).setCell ⟨w.heap.size, 1, none⟩ (.int .i64 y)).setCell ⟨w.heap.size + 1, 0, none⟩ (.bool true)).cell? ⟨w.heap.size, 1, none⟩ = some (.int .i64 y) := by
    rw [World.cell?_setCell_other (a := ⟨w.heap.size + 1, 0, none⟩) (b := ⟨w.heap.size, 1, none⟩) (h := by simp)]
    refine World.cell?_setCell_same _ _ _ (u := .int .i64 y) ?_
    rw [World.cell?_setCell_other (a := ⟨w.heap.size, 0, none⟩) (b := ⟨w.heap.size, 1, none⟩) (h := by simp)]
    rw [World.cell?_setCell_other (a := ⟨w.heap.size + 1, 0, none⟩) (b := ⟨w.heap.size, 1, none⟩) (h := by simp)]
    exact hc1
  simp [Leaves, settle, results, Tryz.results53, go_sem, e1, e20, e21]
  exact Keep.drew (Keep.set (Keep.set (Keep.set (Keep.set hk.out (Nat.le_succ _) _) (Nat.le_refl _) _) (Nat.le_refl _) _) (Nat.le_succ _) _)

set_option maxHeartbeats 4000000 in
theorem findCode_no (ks : List Int) (b : Base) (v : Value) (w : World) (hch : Chain w ks b v) (hb : isText b) (hg : ErrT w) :
    Calls Tryz.prog 52 #[v] w fun e w' => e = .returned (.tuple #[.int .i64 0, .bool false]) ∧ Keep w w' := by
  have hmf : ∀ (fn : Fn) (first cap : Array Value) (w : World), (Instr.makeFunc fn first cap).run Tryz.prog w = .ok (.func fn first cap) w := fun _ _ _ _ => rfl
  obtain ⟨tv, xv, rfl⟩ := hch.iface
  have hk0 : Keep w ((w.alloc (.cells #[.int .i64 0] 58)).alloc (.cells #[.bool false] 4)) := (Keep.one w _).trans (Keep.one _ _)
  have hA : Calls Tryz.prog 64 #[.iface tv xv, .iface 99 (.pointer (some ⟨w.heap.size, 0, none⟩))] ((w.alloc (.cells #[.int .i64 0] 58)).alloc (.cells #[.bool false] 4)) fun e w' => e = .returned (.bool false) ∧ Keep ((w.alloc (.cells #[.int .i64 0] 58)).alloc (.cells #[.bool false] 4)) w' := As_Code tv xv ⟨w.heap.size, 0, none⟩ ((w.alloc (.cells #[.int .i64 0] 58)).alloc (.cells #[.bool false] 4)) false (fun w' => Keep ((w.alloc (.cells #[.int .i64 0] 58)).alloc (.cells #[.bool false] 4)) w') (hg.keep hk0) (fun w1 aa hk _ => (as_code_no ks b (.iface tv xv) w1 aa ⟨w.heap.size, 0, none⟩ ((hch.keep hk0).keep hk) hb).mono fun e w' ⟨he, hh⟩ => ⟨he, hk.trans hh⟩)
  have hA := Lib.hid hA
  clear hch hg
  go_enter_defers Tryz.func52, Tryz.ntmps52
  go_wp2_with fail
  refine hA.out.mono ?_
  rintro e w9 ⟨rfl, hk9⟩
  have k1 : w9.cell? ⟨w.heap.size + 1, 0, none⟩ = some (.bool false) := hk9.cell (by simp)
  have g1 : w9.frozen? ⟨w.heap.size + 1, 0, none⟩ = false := by rw [Below.frozen hk9 (by simp)]; simp
  have hc0 : w9.cell? ⟨w.heap.size, 0, none⟩ = some (.int .i64 0) := hk9.cell (by rw [World.cell?_alloc_lt _ _ ⟨w.heap.size, 0, none⟩ (by simp)]; simp)
  have g00 : w9.frozen? ⟨w.heap.size, 0, none⟩ = false := by rw [Below.frozen hk9 (by simp; omega)]; simp
  have hk := Lib.hid (hk0.trans hk9)
  clear hA hk0 hk9
  go_wp2
  go_region
  all_goals go_wp2
  refine leaves_cons (f := 63) (args := #[.pointer (some ⟨w.heap.size, 0, none⟩), .pointer (some ⟨w.heap.size + 1, 0, none⟩)]) (by simp) (by simp [go_sem]) ?_
  refine (idleCode _ _ _).mono ?_
  rintro e u' w'' ⟨rfl, rfl, rfl⟩
  have e1 : (((w9.setCell ⟨w.heap.size + 1, 0, none⟩ (.bool false)).setCell ⟨w.heap.size, 0, none⟩ (.int .i64 0)).setCell ⟨w.heap.size + 1, 0, none⟩ (.bool false)).cell? ⟨w.heap.size + 1, 0, none⟩ = some (.bool false) := by
    refine World.cell?_setCell_same _ _ _ (u := .bool false) ?_
    rw [World.cell?_setCell_other (a := ⟨w.heap.size, 0, none⟩) (b := ⟨w.heap.size + 1, 0, none⟩) (h := by simp)]
    exact World.cell?_setCell_same _ _ _ k1
  have e20 : (((w9.setCell ⟨w.heap.size + 1, 0, none⟩ (.bool false)).setCell ⟨w.heap.size, 0, none⟩ (.int .i64 0)).setCell ⟨w.heap.size + 1, 0, none⟩ (.bool false)).cell? ⟨w.heap.size, 0, none⟩ = some (.int .i64 0) := by
    rw [World.cell?_setCell_other (a := ⟨w.heap.size + 1, 0, none⟩) (b := ⟨w.heap.size, 0, none⟩) (h := by simp)]
    refine World.cell?_setCell_same _ _ _ (u := .int .i64 0) ?_
    rw [World.cell?_setCell_other (a := ⟨w.heap.size + 1, 0, none⟩) (b := ⟨w.heap.size, 0, none⟩) (h := by simp)]
    exact hc0
  simp [Leaves, settle, results, Tryz.results52, go_sem, e1, e20]
  exact Keep.drew (Keep.set (Keep.set (Keep.set hk.out (Nat.le_succ _) _) (Nat.le_refl _) _) (Nat.le_succ _) _)

set_option maxHeartbeats 4000000 in
theorem findFault_no (ks : List Int) (b : Base) (v : Value) (w : World) (hch : Chain w ks b v) (hb : noFault b) (hg : ErrT w) :
    Calls Tryz.prog 53 #[v] w fun e w' => e = .returned (.tuple #[.agg #[.int .i64 0, .int .i64 0], .bool false]) ∧ Keep w w' := by
  have hmf : ∀ (fn : Fn) (first cap : Array Value) (w : World), (Instr.makeFunc fn first cap).run Tryz.prog w = .ok (.func fn first cap) w := fun _ _ _ _ => rfl
  obtain ⟨tv, xv, rfl⟩ := hch.iface
  have hk0 : Keep w ((w.alloc (.cells #[.int .i64 0, .int .i64 0] 89)).alloc (.cells #[.bool false] 4)) := (Keep.one w _).trans (Keep.one _ _)
  have hA : Calls Tryz.prog 64 #[.iface tv xv, .iface 100 (.pointer (some ⟨w.heap.size, 0, none⟩))] ((w.alloc (.cells #[.int .i64 0, .int .i64 0] 89)).alloc (.cells #[.bool false] 4)) fun e w' => e = .returned (.bool false) ∧ Keep ((w.alloc (.cells #[.int .i64 0, .int .i64 0] 89)).alloc (.cells #[.bool false] 4)) w' := As_Fault tv xv ⟨w.heap.size, 0, none⟩ ((w.alloc (.cells #[.int .i64 0, .int .i64 0] 89)).alloc (.cells #[.bool false] 4)) false (fun w' => Keep ((w.alloc (.cells #[.int .i64 0, .int .i64 0] 89)).alloc (.cells #[.bool false] 4)) w') (hg.keep hk0) (fun w1 aa hk _ => (as_fault_no ks b (.iface tv xv) w1 aa ⟨w.heap.size, 0, none⟩ ((hch.keep hk0).keep hk) hb).mono fun e w' ⟨he, hh⟩ => ⟨he, hk.trans hh⟩)
  have hA := Lib.hid hA
  clear hch hg
  go_enter_defers Tryz.func53, Tryz.ntmps53
  go_wp2_with fail
  refine hA.out.mono ?_
  rintro e w9 ⟨rfl, hk9⟩
  have k1 : w9.cell? ⟨w.heap.size + 1, 0, none⟩ = some (.bool false) := hk9.cell (by simp)
  have g1 : w9.frozen? ⟨w.heap.size + 1, 0, none⟩ = false := by rw [Below.frozen hk9 (by simp)]; simp
  have hc0 : w9.cell? ⟨w.heap.size, 0, none⟩ = some (.int .i64 0) := hk9.cell (by rw [World.cell?_alloc_lt _ _ ⟨w.heap.size, 0, none⟩ (by simp)]; simp)
  have g00 : w9.frozen? ⟨w.heap.size, 0, none⟩ = false := by rw [Below.frozen hk9 (by simp; omega)]; simp
  have hc1 : w9.cell? ⟨w.heap.size, 0 + 1, none⟩ = some (.int .i64 0) := hk9.cell (by rw [World.cell?_alloc_lt _ _ ⟨w.heap.size, 0 + 1, none⟩ (by simp)]; simp)
  have g01 : w9.frozen? ⟨w.heap.size, 0 + 1, none⟩ = false := by rw [Below.frozen hk9 (by simp; omega)]; simp
  have hk := Lib.hid (hk0.trans hk9)
  clear hA hk0 hk9
  go_wp2
  go_region
  all_goals go_wp2
  refine leaves_cons (f := 65) (args := #[.pointer (some ⟨w.heap.size, 0, none⟩), .pointer (some ⟨w.heap.size + 1, 0, none⟩)]) (by simp) (by simp [go_sem]) ?_
  refine (idleFault _ _ _).mono ?_
  rintro e u' w'' ⟨rfl, rfl, rfl⟩
  have e1 : ((((w9.setCell ⟨w.heap.size + 1, 0, none⟩ (.bool false)).setCell ⟨w.heap.size, 0, none⟩ (.int .i64 0)).setCell ⟨w.heap.size, 1, none⟩ (.int .i64 0)).setCell ⟨w.heap.size + 1, 0, none⟩ (.bool false)).cell? ⟨w.heap.size + 1, 0, none⟩ = some (.bool false) := by
    refine World.cell?_setCell_same _ _ _ (u := .bool false) ?_
    rw [World.cell?_setCell_other (a := ⟨w.heap.size, 1, none⟩) (b := ⟨w.heap.size + 1, 0, none⟩) (h := by simp)]
    rw [World.cell?_setCell_other (a := ⟨w.heap.size, 0, none⟩) (b := ⟨w.heap.size + 1, 0, none⟩) (h := by simp)]
    exact World.cell?_setCell_same _ _ _ k1
  have e20 : ((((w9.setCell ⟨w.heap.size + 1, 0, none⟩ (.bool false)).setCell ⟨w.heap.size, 0, none⟩ (.int .i64 0)).setCell ⟨w.heap.size, 1, none⟩ (.int .i64 0)).setCell ⟨w.heap.size + 1, 0, none⟩ (.bool false)).cell? ⟨w.heap.size, 0, none⟩ = some (.int .i64 0) := by
    rw [World.cell?_setCell_other (a := ⟨w.heap.size + 1, 0, none⟩) (b := ⟨w.heap.size, 0, none⟩) (h := by simp)]
    rw [World.cell?_setCell_other (a := ⟨w.heap.size, 1, none⟩) (b := ⟨w.heap.size, 0, none⟩) (h := by simp)]
    refine World.cell?_setCell_same _ _ _ (u := .int .i64 0) ?_
    rw [World.cell?_setCell_other (a := ⟨w.heap.size + 1, 0, none⟩) (b := ⟨w.heap.size, 0, none⟩) (h := by simp)]
    exact hc0
  have e21 : ((((w9.setCell ⟨w.heap.size + 1, 0, none⟩ (.bool false)).setCell ⟨w.heap.size, 0, none⟩ (.int .i64 0)).setCell ⟨w.heap.size, 1, none⟩ (.int .i64 0)).setCell ⟨w.heap.size + 1, 0, none⟩ (.bool false)).cell? ⟨w.heap.size, 1, none⟩ = some (.int .i64 0) := by
    rw [World.cell?_setCell_other (a := ⟨w.heap.size + 1, 0, none⟩) (b := ⟨w.heap.size, 1, none⟩) (h := by simp)]
    refine World.cell?_setCell_same _ _ _ (u := .int .i64 0) ?_
    rw [World.cell?_setCell_other (a := ⟨w.heap.size, 0, none⟩) (b := ⟨w.heap.size, 1, none⟩) (h := by simp)]
    rw [World.cell?_setCell_other (a := ⟨w.heap.size + 1, 0, none⟩) (b := ⟨w.heap.size, 1, none⟩) (h := by simp)]
    exact hc1
  simp [Leaves, settle, results, Tryz.results53, go_sem, e1, e20, e21]
  exact Keep.drew (Keep.set (Keep.set (Keep.set (Keep.set hk.out (Nat.le_succ _) _) (Nat.le_refl _) _) (Nat.le_refl _) _) (Nat.le_succ _) _)

set_option maxHeartbeats 4000000 in
theorem findCode_nil (w : World) :
    Calls Tryz.prog 52 #[.nilIface] w fun e w' => e = .returned (.tuple #[.int .i64 0, .bool false]) ∧ Keep w w' := by
  have hmf : ∀ (fn : Fn) (first cap : Array Value) (w : World), (Instr.makeFunc fn first cap).run Tryz.prog w = .ok (.func fn first cap) w := fun _ _ _ _ => rfl
  have hk0 : Keep w ((w.alloc (.cells #[.int .i64 0] 58)).alloc (.cells #[.bool false] 4)) := (Keep.one w _).trans (Keep.one _ _)
  have hA : Calls Tryz.prog 64 #[.nilIface, .iface 99 (.pointer (some ⟨w.heap.size, 0, none⟩))] ((w.alloc (.cells #[.int .i64 0] 58)).alloc (.cells #[.bool false] 4)) fun e w' => e = .returned (.bool false) ∧ Keep ((w.alloc (.cells #[.int .i64 0] 58)).alloc (.cells #[.bool false] 4)) w' := (As_nil _ _).mono fun e w' ⟨he, hw⟩ => ⟨he, hw ▸ Keep.refl _⟩
  have hA := Lib.hid hA
  skip
  go_enter_defers Tryz.func52, Tryz.ntmps52
  go_wp2_with fail
  refine hA.out.mono ?_
  rintro e w9 ⟨rfl, hk9⟩
  have k1 : w9.cell? ⟨w.heap.size + 1, 0, none⟩ = some (.bool false) := hk9.cell (by simp)
  have g1 : w9.frozen? ⟨w.heap.size + 1, 0, none⟩ = false := by rw [Below.frozen hk9 (by simp)]; simp
  have hc0 : w9.cell? ⟨w.heap.size, 0, none⟩ = some (.int .i64 0) := hk9.cell (by rw [World.cell?_alloc_lt _ _ ⟨w.heap.size, 0, none⟩ (by simp)]; simp)
  have g00 : w9.frozen? ⟨w.heap.size, 0, none⟩ = false := by rw [Below.frozen hk9 (by simp; omega)]; simp
  have hk := Lib.hid (hk0.trans hk9)
  clear hA hk0 hk9
  go_wp2
  go_region
  all_goals go_wp2
  refine leaves_cons (f := 63) (args := #[.pointer (some ⟨w.heap.size, 0, none⟩), .pointer (some ⟨w.heap.size + 1, 0, none⟩)]) (by simp) (by simp [go_sem]) ?_
  refine (idleCode _ _ _).mono ?_
  rintro e u' w'' ⟨rfl, rfl, rfl⟩
  have e1 : (((w9.setCell ⟨w.heap.size + 1, 0, none⟩ (.bool false)).setCell ⟨w.heap.size, 0, none⟩ (.int .i64 0)).setCell ⟨w.heap.size + 1, 0, none⟩ (.bool false)).cell? ⟨w.heap.size + 1, 0, none⟩ = some (.bool false) := by
    refine World.cell?_setCell_same _ _ _ (u := .bool false) ?_
    rw [World.cell?_setCell_other (a := ⟨w.heap.size, 0, none⟩) (b := ⟨w.heap.size + 1, 0, none⟩) (h := by simp)]
    exact World.cell?_setCell_same _ _ _ k1
  have e20 : (((w9.setCell ⟨w.heap.size + 1, 0, none⟩ (.bool false)).setCell ⟨w.heap.size, 0, none⟩ (.int .i64 0)).setCell ⟨w.heap.size + 1, 0, none⟩ (.bool false)).cell? ⟨w.heap.size, 0, none⟩ = some (.int .i64 0) := by
    rw [World.cell?_setCell_other (a := ⟨w.heap.size + 1, 0, none⟩) (b := ⟨w.heap.size, 0, none⟩) (h := by simp)]
    refine World.cell?_setCell_same _ _ _ (u := .int .i64 0) ?_
    rw [World.cell?_setCell_other (a := ⟨w.heap.size + 1, 0, none⟩) (b := ⟨w.heap.size, 0, none⟩) (h := by simp)]
    exact hc0
  simp [Leaves, settle, results, Tryz.results52, go_sem, e1, e20]
  exact Keep.drew (Keep.set (Keep.set (Keep.set hk.out (Nat.le_succ _) _) (Nat.le_refl _) _) (Nat.le_succ _) _)

set_option maxHeartbeats 4000000 in
theorem findFault_nil (w : World) :
    Calls Tryz.prog 53 #[.nilIface] w fun e w' => e = .returned (.tuple #[.agg #[.int .i64 0, .int .i64 0], .bool false]) ∧ Keep w w' := by
  have hmf : ∀ (fn : Fn) (first cap : Array Value) (w : World), (Instr.makeFunc fn first cap).run Tryz.prog w = .ok (.func fn first cap) w := fun _ _ _ _ => rfl
  have hk0 : Keep w ((w.alloc (.cells #[.int .i64 0, .int .i64 0] 89)).alloc (.cells #[.bool false] 4)) := (Keep.one w _).trans (Keep.one _ _)
  have hA : Calls Tryz.prog 64 #[.nilIface, .iface 100 (.pointer (some ⟨w.heap.size, 0, none⟩))] ((w.alloc (.cells #[.int .i64 0, .int .i64 0] 89)).alloc (.cells #[.bool false] 4)) fun e w' => e = .returned (.bool false) ∧ Keep ((w.alloc (.cells #[.int .i64 0, .int .i64 0] 89)).alloc (.cells #[.bool false] 4)) w' := (As_nil _ _).mono fun e w' ⟨he, hw⟩ => ⟨he, hw ▸ Keep.refl _⟩
  have hA := Lib.hid hA
  skip
  go_enter_defers Tryz.func53, Tryz.ntmps53
  go_wp2_with fail
  refine hA.out.mono ?_
  rintro e w9 ⟨rfl, hk9⟩
  have k1 : w9.cell? ⟨w.heap.size + 1, 0, none⟩ = some (.bool false) := hk9.cell (by simp)
  have g1 : w9.frozen? ⟨w.heap.size + 1, 0, none⟩ = false := by rw [Below.frozen hk9 (by simp)]; simp
  have hc0 : w9.cell? ⟨w.heap.size, 0, none⟩ = some (.int .i64 0) := hk9.cell (by rw [World.cell?_alloc_lt _ _ ⟨w.heap.size, 0, none⟩ (by simp)]; simp)
  have g00 : w9.frozen? ⟨w.heap.size, 0, none⟩ = false := by rw [Below.frozen hk9 (by simp; omega)]; simp
  have hc1 : w9.cell? ⟨w.heap.size, 0 + 1, none⟩ = some (.int .i64 0) := hk9.cell (by rw [World.cell?_alloc_lt _ _ ⟨w.heap.size, 0 + 1, none⟩ (by simp)]; simp)
  have g01 : w9.frozen? ⟨w.heap.size, 0 + 1, none⟩ = false := by rw [Below.frozen hk9 (by simp; omega)]; simp
  have hk := Lib.hid (hk0.trans hk9)
  clear hA hk0 hk9
  go_wp2
  go_region
  all_goals go_wp2
  refine leaves_cons (f := 65) (args := #[.pointer (some ⟨w.heap.size, 0, none⟩), .pointer (some ⟨w.heap.size + 1, 0, none⟩)]) (by simp) (by simp [go_sem]) ?_
  refine (idleFault _ _ _).mono ?_
  rintro e u' w'' ⟨rfl, rfl, rfl⟩
  have e1 : ((((w9.setCell ⟨w.heap.size + 1, 0, none⟩ (.bool false)).setCell ⟨w.heap.size, 0, none⟩ (.int .i64 0)).setCell ⟨w.heap.size, 1, none⟩ (.int .i64 0)).setCell ⟨w.heap.size + 1, 0, none⟩ (.bool false)).cell? ⟨w.heap.size + 1, 0, none⟩ = some (.bool false) := by
    refine World.cell?_setCell_same _ _ _ (u := .bool false) ?_
    rw [World.cell?_setCell_other (a := ⟨w.heap.size, 1, none⟩) (b := ⟨w.heap.size + 1, 0, none⟩) (h := by simp)]
    rw [World.cell?_setCell_other (a := ⟨w.heap.size, 0, none⟩) (b := ⟨w.heap.size + 1, 0, none⟩) (h := by simp)]
    exact World.cell?_setCell_same _ _ _ k1
  have e20 : ((((w9.setCell ⟨w.heap.size + 1, 0, none⟩ (.bool false)).setCell ⟨w.heap.size, 0, none⟩ (.int .i64 0)).setCell ⟨w.heap.size, 1, none⟩ (.int .i64 0)).setCell ⟨w.heap.size + 1, 0, none⟩ (.bool false)).cell? ⟨w.heap.size, 0, none⟩ = some (.int .i64 0) := by
    rw [World.cell?_setCell_other (a := ⟨w.heap.size + 1, 0, none⟩) (b := ⟨w.heap.size, 0, none⟩) (h := by simp)]
    rw [World.cell?_setCell_other (a := ⟨w.heap.size, 1, none⟩) (b := ⟨w.heap.size, 0, none⟩) (h := by simp)]
    refine World.cell?_setCell_same _ _ _ (u := .int .i64 0) ?_
    rw [World.cell?_setCell_other (a := ⟨w.heap.size + 1, 0, none⟩) (b := ⟨w.heap.size, 0, none⟩) (h := by simp)]
    exact hc0
  have e21 : ((((w9.setCell ⟨w.heap.size + 1, 0, none⟩ (.bool false)).setCell ⟨w.heap.size, 0, none⟩ (.int .i64 0)).setCell ⟨w.heap.size, 1, none⟩ (.int .i64 0)).setCell ⟨w.heap.size + 1, 0, none⟩ (.bool false)).cell? ⟨w.heap.size, 1, none⟩ = some (.int .i64 0) := by
    rw [World.cell?_setCell_other (a := ⟨w.heap.size + 1, 0, none⟩) (b := ⟨w.heap.size, 1, none⟩) (h := by simp)]
    refine World.cell?_setCell_same _ _ _ (u := .int .i64 0) ?_
    rw [World.cell?_setCell_other (a := ⟨w.heap.size, 0, none⟩) (b := ⟨w.heap.size, 1, none⟩) (h := by simp)]
    rw [World.cell?_setCell_other (a := ⟨w.heap.size + 1, 0, none⟩) (b := ⟨w.heap.size, 1, none⟩) (h := by simp)]
    exact hc1
  simp [Leaves, settle, results, Tryz.results53, go_sem, e1, e20, e21]
  exact Keep.drew (Keep.set (Keep.set (Keep.set (Keep.set hk.out (Nat.le_succ _) _) (Nat.le_refl _) _) (Nat.le_refl _) _) (Nat.le_succ _) _)

end Go.Proofs.YtnaeabfmgfipoaaGreatDoor
namespace Go.Proofs.YtnaeabfmgfipoaaGreatDoor
open Go.RowKit Go.Extern.Stop Go.Stop Go.Extern


def codeTbl : List ByteArray := [⟨#[]⟩, ⟨#[107, 105, 110, 100]⟩, ⟨#[105, 100]⟩, ⟨#[97, 109, 111, 117, 110, 116]⟩, ⟨#[110, 117, 109, 98, 101, 114]⟩, ⟨#[117, 110, 107, 110, 111, 119, 110]⟩, ⟨#[100, 117, 112, 108, 105, 99, 97, 116, 101]⟩, ⟨#[102, 117, 108, 108]⟩, ⟨#[112, 104, 97, 115, 101]⟩, ⟨#[115, 121, 110, 116, 97, 120]⟩, ⟨#[111, 118, 101, 114, 102, 108, 111, 119]⟩]
/-- The name of a number, or none. -/
def codeNm (c : Int) : ByteArray := if 0 ≤ c ∧ c ≤ 10 then codeTbl.getD c.toNat ⟨#[]⟩ else ⟨#[]⟩
theorem codeNm_out {c : Int} (h : c < 0 ∨ 10 < c) : codeNm c = ⟨#[]⟩ := by unfold codeNm; rw [if_neg (by omega)]
def kindTbl : List ByteArray := [⟨#[]⟩, ⟨#[99, 108, 97, 115, 115]⟩, ⟨#[110, 111, 100, 101]⟩, ⟨#[100, 114, 111, 112]⟩, ⟨#[112, 111, 100]⟩, ⟨#[100, 101, 108, 101, 116, 101]⟩, ⟨#[116, 105, 99, 107]⟩, ⟨#[99, 121, 99, 108, 101]⟩]
/-- The name of a number, or none. -/
def kindNm (c : Int) : ByteArray := if 0 ≤ c ∧ c ≤ 7 then kindTbl.getD c.toNat ⟨#[]⟩ else ⟨#[]⟩
theorem kindNm_out {c : Int} (h : c < 0 ∨ 7 < c) : kindNm c = ⟨#[]⟩ := by unfold kindNm; rw [if_neg (by omega)]
/-- The three variables hold what the program's text lays. -/
structure Vars (w : World) : Prop where
  err : ErrT w
  kinds : ∀ i, i < 8 → w.cell? ⟨1, i, none⟩ = some (.string (kindTbl.getD i ⟨#[]⟩))
theorem Vars.keep {w w' : World} (h : Vars w) (k : Keep w w') : Vars w' where
  err := h.err.keep k
  kinds := fun i hi => k.cell (h.kinds i hi)

theorem code_yes (c : Int) (ks : List Int) (b : Base) (v : Value) (w : World) (hch : Chain w ks b v) (hb : hasCode c b) (hg : ErrT w) :
    Calls Tryz.prog 28 #[v] w fun e w' => e = .returned (.tuple #[.int .i64 c, .bool true]) ∧ Keep w w' := by
  have h := Lib.hid (findCode_yes c ks b v w hch hb hg)
  clear hch hb hg
  go_enter Tryz.func28, Tryz.ntmps28
  go_wp2_with (go_at_call 52; refine h.out.mono ?_; rintro e w' ⟨rfl, hr⟩)
  go_ret2
  exact ⟨rfl, hr⟩
theorem code_no (ks : List Int) (b : Base) (v : Value) (w : World) (hch : Chain w ks b v) (hb : isText b) (hg : ErrT w) :
    Calls Tryz.prog 28 #[v] w fun e w' => e = .returned (.tuple #[.int .i64 0, .bool false]) ∧ Keep w w' := by
  have h := Lib.hid (findCode_no ks b v w hch hb hg)
  clear hch hb hg
  go_enter Tryz.func28, Tryz.ntmps28
  go_wp2_with (go_at_call 52; refine h.out.mono ?_; rintro e w' ⟨rfl, hr⟩)
  go_ret2
  exact ⟨rfl, hr⟩
theorem code_nil (w : World) : Calls Tryz.prog 28 #[.nilIface] w fun e w' => e = .returned (.tuple #[.int .i64 0, .bool false]) ∧ Keep w w' := by
  go_enter Tryz.func28, Tryz.ntmps28
  go_wp2_with (go_at_call 52; refine (findCode_nil _).mono ?_; rintro e w' ⟨rfl, hr⟩)
  go_ret2
  exact ⟨rfl, hr⟩
theorem at_yes (x y : Int) (ks : List Int) (v : Value) (w : World) (hch : Chain w ks (.fault x y) v) (hg : ErrT w) :
    Calls Tryz.prog 29 #[v] w fun e w' => e = .returned (.tuple #[.int .i64 y, .bool true]) ∧ Keep w w' := by
  have h := Lib.hid (findFault_yes x y ks v w hch hg)
  clear hch hg
  go_enter Tryz.func29, Tryz.ntmps29
  go_wp2_with (go_at_call 53; refine h.out.mono ?_; rintro e w' ⟨rfl, hr⟩)
  go_ret2
  exact ⟨rfl, hr.alloc _⟩
theorem at_no (ks : List Int) (b : Base) (v : Value) (w : World) (hch : Chain w ks b v) (hb : noFault b) (hg : ErrT w) :
    Calls Tryz.prog 29 #[v] w fun e w' => e = .returned (.tuple #[.int .i64 0, .bool false]) ∧ Keep w w' := by
  have h := Lib.hid (findFault_no ks b v w hch hb hg)
  clear hch hb hg
  go_enter Tryz.func29, Tryz.ntmps29
  go_wp2_with (go_at_call 53; refine h.out.mono ?_; rintro e w' ⟨rfl, hr⟩)
  go_ret2
  exact ⟨rfl, hr.alloc _⟩
theorem new_fn (x n : Int) (w : World) : Calls Tryz.prog 26 #[.int .i64 x, .int .i64 n] w fun e w' => e = .returned (Base.fault x n).val ∧ w = w' := by
  go_enter Tryz.func26, Tryz.ntmps26
  go_wp2
  go_ret
  exact ⟨rfl, rfl⟩
theorem enew_fn (s : ByteArray) (w : World) : Calls Tryz.prog 89 #[.string s] w fun e w' => e = .returned (Base.text ⟨w.heap.size, 0, none⟩).val ∧ w' = w.alloc (.cells #[.string s] 160) := by
  go_enter Tryz.func89, Tryz.ntmps89
  go_wp2
  go_ret
  exact ⟨rfl, rfl⟩
/-- Is a code one of those that do not fit the state? -/
def harmB (c : Int) : Bool := decide (5 ≤ c ∧ c ≤ 7)
end Go.Proofs.YtnaeabfmgfipoaaGreatDoor
namespace Go.Proofs.YtnaeabfmgfipoaaGreatDoor
open Go.RowKit Go.Extern.Stop Go.Stop Go.Extern

theorem cases11 {c : Int} (h0 : 0 ≤ c) (h1 : c ≤ 10) : c = 0 ∨ c = 1 ∨ c = 2 ∨ c = 3 ∨ c = 4 ∨ c = 5 ∨ c = 6 ∨ c = 7 ∨ c = 8 ∨ c = 9 ∨ c = 10 := by omega
theorem cases8 {c : Int} (h0 : 0 ≤ c) (h1 : c ≤ 7) : c = 0 ∨ c = 1 ∨ c = 2 ∨ c = 3 ∨ c = 4 ∨ c = 5 ∨ c = 6 ∨ c = 7 := by omega

set_option maxHeartbeats 4000000 in
theorem kind_name (c : Int) (w : World) (hv : Vars w) : Calls Tryz.prog 31 #[.int .i64 c] w fun e w' => e = .returned (.string (kindNm c)) ∧ w = w' := by
  by_cases h : c < 0
  · rw [kindNm_out (by omega)]
    clear hv
    go_enter Tryz.func31, Tryz.ntmps31
    go_wp2
    go_ret
    exact ⟨rfl, rfl⟩
  · by_cases h' : 7 < c
    · rw [kindNm_out (by omega)]
      clear hv
      go_enter Tryz.func31, Tryz.ntmps31
      go_wp2
      go_ret
      exact ⟨rfl, rfl⟩
    · have e := cases8 (c := c) (by omega) (by omega)
      rcases e with rfl | rfl | rfl | rfl | rfl | rfl | rfl | rfl
      · have hc := hv.kinds 0 (by decide)
        have e : kindTbl.getD 0 ⟨#[]⟩ = kindNm 0 := rfl
        rw [e] at hc
        clear hv e
        go_enter Tryz.func31, Tryz.ntmps31
        go_wp2
        go_ret
        exact ⟨rfl, rfl⟩
      · have hc := hv.kinds 1 (by decide)
        have e : kindTbl.getD 1 ⟨#[]⟩ = kindNm 1 := rfl
        rw [e] at hc
        clear hv e
        go_enter Tryz.func31, Tryz.ntmps31
        go_wp2
        go_ret
        exact ⟨rfl, rfl⟩
      · have hc := hv.kinds 2 (by decide)
        have e : kindTbl.getD 2 ⟨#[]⟩ = kindNm 2 := rfl
        rw [e] at hc
        clear hv e
        go_enter Tryz.func31, Tryz.ntmps31
        go_wp2
        go_ret
        exact ⟨rfl, rfl⟩
      · have hc := hv.kinds 3 (by decide)
        have e : kindTbl.getD 3 ⟨#[]⟩ = kindNm 3 := rfl
        rw [e] at hc
        clear hv e
        go_enter Tryz.func31, Tryz.ntmps31
        go_wp2
        go_ret
        exact ⟨rfl, rfl⟩
      · have hc := hv.kinds 4 (by decide)
        have e : kindTbl.getD 4 ⟨#[]⟩ = kindNm 4 := rfl
        rw [e] at hc
        clear hv e
        go_enter Tryz.func31, Tryz.ntmps31
        go_wp2
        go_ret
        exact ⟨rfl, rfl⟩
      · have hc := hv.kinds 5 (by decide)
        have e : kindTbl.getD 5 ⟨#[]⟩ = kindNm 5 := rfl
        rw [e] at hc
        clear hv e
        go_enter Tryz.func31, Tryz.ntmps31
        go_wp2
        go_ret
        exact ⟨rfl, rfl⟩
      · have hc := hv.kinds 6 (by decide)
        have e : kindTbl.getD 6 ⟨#[]⟩ = kindNm 6 := rfl
        rw [e] at hc
        clear hv e
        go_enter Tryz.func31, Tryz.ntmps31
        go_wp2
        go_ret
        exact ⟨rfl, rfl⟩
      · have hc := hv.kinds 7 (by decide)
        have e : kindTbl.getD 7 ⟨#[]⟩ = kindNm 7 := rfl
        rw [e] at hc
        clear hv e
        go_enter Tryz.func31, Tryz.ntmps31
        go_wp2
        go_ret
        exact ⟨rfl, rfl⟩

set_option maxHeartbeats 4000000 in
theorem kind_rname (c : Int) (w : World) : Calls Tryz.prog 36 #[.int .i64 c] w fun e w' => e = .returned (.string (kindNm c)) ∧ Keep w w' := by
  by_cases h : c < 1
  · have e : kindNm c = ⟨#[]⟩ := by
      by_cases h0 : c < 0
      · exact kindNm_out (by omega)
      · obtain rfl : c = 0 := by omega
        rfl
    rw [e]
    clear e
    go_enter Tryz.func36, Tryz.ntmps36
    go_wp2
    go_ret
    exact ⟨rfl, Keep.one _ _⟩
  · by_cases h' : 7 < c
    · rw [kindNm_out (by omega)]
      go_enter Tryz.func36, Tryz.ntmps36
      go_wp2
      go_ret
      exact ⟨rfl, Keep.one _ _⟩
    · have e := cases8 (c := c) (by omega) (by omega)
      rcases e with rfl | rfl | rfl | rfl | rfl | rfl | rfl | rfl
      · exact absurd (by decide) h
      · go_enter Tryz.func36, Tryz.ntmps36
        go_wp2
        go_ret
        exact ⟨rfl, Keep.one _ _⟩
      · go_enter Tryz.func36, Tryz.ntmps36
        go_wp2
        go_ret
        exact ⟨rfl, Keep.one _ _⟩
      · go_enter Tryz.func36, Tryz.ntmps36
        go_wp2
        go_ret
        exact ⟨rfl, Keep.one _ _⟩
      · go_enter Tryz.func36, Tryz.ntmps36
        go_wp2
        go_ret
        exact ⟨rfl, Keep.one _ _⟩
      · go_enter Tryz.func36, Tryz.ntmps36
        go_wp2
        go_ret
        exact ⟨rfl, Keep.one _ _⟩
      · go_enter Tryz.func36, Tryz.ntmps36
        go_wp2
        go_ret
        exact ⟨rfl, Keep.one _ _⟩
      · go_enter Tryz.func36, Tryz.ntmps36
        go_wp2
        go_ret
        exact ⟨rfl, Keep.one _ _⟩

/-- How a kind opens the text of an error. -/
def ttl (k : Int) : ByteArray := if (kindNm k).size = 0 then ⟨#[111, 112, 101, 114, 97, 116, 105, 111, 110]⟩ else kindNm k
end Go.Proofs.YtnaeabfmgfipoaaGreatDoor
namespace Go.Proofs.YtnaeabfmgfipoaaGreatDoor
open Go.RowKit

/-- The six cells of an operation in a variable of its own. -/
structure Box (w : World) (b : Nat) (c0 c1 c2 c3 c4 c5 : Value) : Prop where
  at_ : w.heap[b]? = some (.cells #[c0, c1, c2, c3, c4, c5] 34 (0, 0))
theorem Box.new (w : World) (c0 c1 c2 c3 c4 c5 : Value) : Box (w.alloc (.cells #[c0, c1, c2, c3, c4, c5] 34)) w.heap.size c0 c1 c2 c3 c4 c5 := ⟨heap_alloc_new w _⟩
/-- The second of two that were laid one behind the other. -/
theorem Box.new2 (w : World) (o : Obj) (c0 c1 c2 c3 c4 c5 : Value) : Box ((w.alloc o).alloc (.cells #[c0, c1, c2, c3, c4, c5] 34)) (w.heap.size + 1) c0 c1 c2 c3 c4 c5 := by
  have h := Box.new (w.alloc o) c0 c1 c2 c3 c4 c5
  rwa [World.size_alloc] at h
section
variable {w w' : World} {b : Nat} {c0 c1 c2 c3 c4 c5 : Value}
theorem Box.keep (h : Box w b c0 c1 c2 c3 c4 c5) (k : Keep w w') : Box w' b c0 c1 c2 c3 c4 c5 := ⟨k.block h.at_⟩

theorem Box.ce0 (h : Box w b c0 c1 c2 c3 c4 c5) : w.cell? ⟨b, 0, none⟩ = some c0 := by rw [cell_of_row w b _ _ _ _ h.at_]; rfl
theorem Box.fr0 (h : Box w b c0 c1 c2 c3 c4 c5) : w.frozen? ⟨b, 0, none⟩ = false := frozen_of_row w b _ _ _ h.at_
theorem Box.ce1 (h : Box w b c0 c1 c2 c3 c4 c5) : w.cell? ⟨b, 1, none⟩ = some c1 := by rw [cell_of_row w b _ _ _ _ h.at_]; rfl
theorem Box.fr1 (h : Box w b c0 c1 c2 c3 c4 c5) : w.frozen? ⟨b, 1, none⟩ = false := frozen_of_row w b _ _ _ h.at_
theorem Box.ce2 (h : Box w b c0 c1 c2 c3 c4 c5) : w.cell? ⟨b, 2, none⟩ = some c2 := by rw [cell_of_row w b _ _ _ _ h.at_]; rfl
theorem Box.fr2 (h : Box w b c0 c1 c2 c3 c4 c5) : w.frozen? ⟨b, 2, none⟩ = false := frozen_of_row w b _ _ _ h.at_
theorem Box.ce3 (h : Box w b c0 c1 c2 c3 c4 c5) : w.cell? ⟨b, 3, none⟩ = some c3 := by rw [cell_of_row w b _ _ _ _ h.at_]; rfl
theorem Box.fr3 (h : Box w b c0 c1 c2 c3 c4 c5) : w.frozen? ⟨b, 3, none⟩ = false := frozen_of_row w b _ _ _ h.at_
theorem Box.ce4 (h : Box w b c0 c1 c2 c3 c4 c5) : w.cell? ⟨b, 4, none⟩ = some c4 := by rw [cell_of_row w b _ _ _ _ h.at_]; rfl
theorem Box.fr4 (h : Box w b c0 c1 c2 c3 c4 c5) : w.frozen? ⟨b, 4, none⟩ = false := frozen_of_row w b _ _ _ h.at_
theorem Box.ce5 (h : Box w b c0 c1 c2 c3 c4 c5) : w.cell? ⟨b, 5, none⟩ = some c5 := by rw [cell_of_row w b _ _ _ _ h.at_]; rfl
theorem Box.fr5 (h : Box w b c0 c1 c2 c3 c4 c5) : w.frozen? ⟨b, 5, none⟩ = false := frozen_of_row w b _ _ _ h.at_
theorem Box.lt (h : Box w b c0 c1 c2 c3 c4 c5) : b < w.heap.size := by
  rcases Nat.lt_or_ge b w.heap.size with h' | h'
  · exact h'
  · have := h.at_; rw [Array.getElem?_eq_none h'] at this; cases this
end
theorem own_base {w : World} {base base' : Nat} {e : TypeId} {size : Nat} {v : Value} {n : Nat} {xs : List Value} (h : w.ownsRow base e size v n xs) (hb : base' ≤ base) : w.ownsRow base' e size v n xs := by
  rcases h with ⟨h1, h2 | ⟨g, cap, cur, h3, h4, h5⟩⟩
  · exact ⟨h1, .inl h2⟩
  · exact ⟨h1, .inr ⟨g, cap, cur, h3, by omega, h5⟩⟩
theorem own_set {w : World} {base : Nat} {e : TypeId} {size : Nat} {v : Value} {n : Nat} {xs : List Value} (h : w.ownsRow base e size v n xs) {a : Addr} (ha : a.block < base) (u : Value) : (w.setCell a u).ownsRow base e size v n xs := ownsRow_setCell_below h ha u

/-- What a copy is: its amounts lie in a row of its own. -/
def Copied (w : World) (k i c n : Int) (f : Bool) (m : Nat) (Z : Nat → Int) (e : Ending) (w' : World) : Prop :=
  ∃ A' cap, e = .returned (.agg #[.int .i64 k, .int .i64 i, .int .i64 c, .int .i64 n, .bool f, .slice A' m cap]) ∧ Keep w w' ∧ w'.ownsRow w.heap.size 2 1 (.slice A' m cap) m (rowL m Z)

set_option maxHeartbeats 1000000 in
theorem clone_fn (k i c n : Int) (f : Bool) (A : Option Addr) (m cp : Nat) (Z : Nat → Int) (w : World) (hA : Rd w A m Z) (h0 : A = none → m = 0 ∧ cp = 0) (hm : m ≤ 1048576) :
    Calls Tryz.prog 49 #[.agg #[.int .i64 k, .int .i64 i, .int .i64 c, .int .i64 n, .bool f, .slice A m cp]] w (Copied w k i c n f m Z) := by
  have hA := Lib.hid hA
  have h0 := Lib.hid h0
  have hm := Lib.hid hm
  go_enter Tryz.func49, Tryz.ntmps49
  go_wp2_with fail
  refine (sclone_own A m cp Z _ (hA.out.keep ?_) h0.out hm.out).mono ?_
  · repeat (first | exact Keep.refl _ | apply Keep.alloc)
  rintro e w1 ⟨A', cap, rfl, k1, hown⟩
  have B1 := (Box.new w (.int .i64 k) (.int .i64 i) (.int .i64 c) (.int .i64 n) (.bool f) (.slice A m cp)).keep ((Keep.one _ _).trans k1)
  have B2 := (Box.new2 w (.cells #[.int .i64 k, .int .i64 i, .int .i64 c, .int .i64 n, .bool f, .slice A m cp] 34) (.int .i64 0) (.int .i64 0) (.int .i64 0) (.int .i64 0) (.bool false) (.slice none 0 0)).keep k1
  have K1 := Lib.hid ((((Keep.refl w).alloc (.cells #[.int .i64 k, .int .i64 i, .int .i64 c, .int .i64 n, .bool f, .slice A m cp] 34)).alloc (.cells #[.int .i64 0, .int .i64 0, .int .i64 0, .int .i64 0, .bool false, .slice none 0 0] 34)).trans k1)
  have p0 := B1.ce0
  have p1 := B1.ce1
  have p2 := B1.ce2
  have p3 := B1.ce3
  have p4 := B1.ce4
  have p5 := B1.ce5
  have q5 := B1.fr5
  have r0 := B2.ce0
  have r1 := B2.ce1
  have r2 := B2.ce2
  have r3 := B2.ce3
  have r4 := B2.ce4
  have r5 := B2.ce5
  have s0 := B2.fr0
  have s1 := B2.fr1
  have s2 := B2.fr2
  have s3 := B2.fr3
  have s4 := B2.fr4
  have s5 := B2.fr5
  rw [World.size_alloc, World.size_alloc] at hown
  replace hown := Lib.hid hown
  clear B1 B2 k1
  go_wp2
  refine bodyPost_ret (v := .agg #[.int .i64 k, .int .i64 i, .int .i64 c, .int .i64 n, .bool f, .slice A' m cap]) (by simp [results, Tryz.results49, go_sem, *]) rfl ⟨A', cap, rfl, ?_, ?_⟩
  · have K1 := K1.out
    repeat (refine Keep.set ?_ (by simp) _)
    exact K1
  · refine own_base (base := w.heap.size + 1 + 1) ?_ (by omega)
    repeat (refine own_set ?_ (by first | omega | (simp; omega) | simp) _)
    exact hown.out

theorem Rd.kept {w : World} {A : Option Addr} {m : Nat} {Z : Nat → Int} (h : Rd w A m Z) (k : Int) : Rd w (kA k A) (kM k m) Z := by
  unfold kA kM
  by_cases hk : k = 2 ∨ k = 4
  · rw [if_pos hk, if_pos hk]; exact h
  · rw [if_neg hk, if_neg hk]; exact Rd.nil _ _ _
theorem kept_nil {A : Option Addr} {m cp : Nat} (h : A = none → m = 0 ∧ cp = 0) (k : Int) : kA k A = none → kM k m = 0 ∧ kM k cp = 0 := by
  unfold kA kM
  by_cases hk : k = 2 ∨ k = 4
  · rw [if_pos hk, if_pos hk, if_pos hk]; exact h
  · rw [if_neg hk, if_neg hk, if_neg hk]; exact fun _ => ⟨rfl, rfl⟩
theorem kM_le (k : Int) (m : Nat) : kM k m ≤ m := by
  unfold kM
  by_cases hk : k = 2 ∨ k = 4
  · rw [if_pos hk]; exact Nat.le_refl _
  · rw [if_neg hk]; exact Nat.zero_le _

set_option maxHeartbeats 1000000 in
theorem node_fn (i : Int) (A : Option Addr) (m cp : Nat) (Z : Nat → Int) (w : World) (hA : Rd w A m Z) (h0 : A = none → m = 0 ∧ cp = 0) (hm : m ≤ 1048576) :
    Calls Tryz.prog 24 #[.int .i64 i, .slice A m cp] w (Copied w 2 i 0 0 false m Z) := by
  have hA := Lib.hid hA
  have h0 := Lib.hid h0
  have hm := Lib.hid hm
  go_enter Tryz.func24, Tryz.ntmps24
  go_wp2_with fail
  refine (clone_fn _ _ _ _ _ A m cp Z _ (hA.out.keep (Keep.one _ _)) h0.out hm.out).mono ?_
  rintro e w2 ⟨A', cap, rfl, k2, hown⟩
  have B2 := (Box.new w (.int .i64 0) (.int .i64 0) (.int .i64 0) (.int .i64 0) (.bool false) (.slice none 0 0)).keep k2
  have K1 := Lib.hid (((Keep.refl w).alloc (.cells #[.int .i64 0, .int .i64 0, .int .i64 0, .int .i64 0, .bool false, .slice none 0 0] 34)).trans k2)
  have r0 := B2.ce0
  have r1 := B2.ce1
  have r2 := B2.ce2
  have r3 := B2.ce3
  have r4 := B2.ce4
  have r5 := B2.ce5
  have s0 := B2.fr0
  have s1 := B2.fr1
  have s2 := B2.fr2
  have s3 := B2.fr3
  have s4 := B2.fr4
  have s5 := B2.fr5
  rw [World.size_alloc] at hown
  replace hown := Lib.hid hown
  replace k2 := Lib.hid k2
  clear B2
  go_wp2
  refine bodyPost_ret (v := .agg #[.int .i64 2, .int .i64 i, .int .i64 0, .int .i64 0, .bool false, .slice A' m cap]) (by simp [results, Tryz.results24, go_sem, *]) rfl ⟨A', cap, rfl, ?_, ?_⟩
  · have K1 := K1.out
    repeat (refine Keep.set ?_ (by simp) _)
    exact K1
  · refine own_base (base := w.heap.size + 1) ?_ (by omega)
    repeat (refine own_set ?_ (by first | omega | (simp; omega) | simp) _)
    exact hown.out

set_option maxHeartbeats 1000000 in
theorem pod_fn (i c n : Int) (A : Option Addr) (m cp : Nat) (Z : Nat → Int) (w : World) (hA : Rd w A m Z) (h0 : A = none → m = 0 ∧ cp = 0) (hm : m ≤ 1048576) :
    Calls Tryz.prog 21 #[.int .i64 i, .int .i64 c, .int .i64 n, .slice A m cp] w (Copied w 4 i c n false m Z) := by
  have hA := Lib.hid hA
  have h0 := Lib.hid h0
  have hm := Lib.hid hm
  go_enter Tryz.func21, Tryz.ntmps21
  go_wp2_with fail
  refine (clone_fn _ _ _ _ _ A m cp Z _ (hA.out.keep (Keep.one _ _)) h0.out hm.out).mono ?_
  rintro e w2 ⟨A', cap, rfl, k2, hown⟩
  have B2 := (Box.new w (.int .i64 0) (.int .i64 0) (.int .i64 0) (.int .i64 0) (.bool false) (.slice none 0 0)).keep k2
  have K1 := Lib.hid (((Keep.refl w).alloc (.cells #[.int .i64 0, .int .i64 0, .int .i64 0, .int .i64 0, .bool false, .slice none 0 0] 34)).trans k2)
  have r0 := B2.ce0
  have r1 := B2.ce1
  have r2 := B2.ce2
  have r3 := B2.ce3
  have r4 := B2.ce4
  have r5 := B2.ce5
  have s0 := B2.fr0
  have s1 := B2.fr1
  have s2 := B2.fr2
  have s3 := B2.fr3
  have s4 := B2.fr4
  have s5 := B2.fr5
  rw [World.size_alloc] at hown
  replace hown := Lib.hid hown
  replace k2 := Lib.hid k2
  clear B2
  go_wp2
  refine bodyPost_ret (v := .agg #[.int .i64 4, .int .i64 i, .int .i64 c, .int .i64 n, .bool false, .slice A' m cap]) (by simp [results, Tryz.results21, go_sem, *]) rfl ⟨A', cap, rfl, ?_, ?_⟩
  · have K1 := K1.out
    repeat (refine Keep.set ?_ (by simp) _)
    exact K1
  · refine own_base (base := w.heap.size + 1) ?_ (by omega)
    repeat (refine own_set ?_ (by first | omega | (simp; omega) | simp) _)
    exact hown.out

set_option maxHeartbeats 1000000 in
theorem class_fn (i n : Int) (f : Bool) (w : World) : Calls Tryz.prog 22 #[.int .i64 i, .int .i64 n, .bool f] w fun e w' => e = .returned (.agg #[.int .i64 1, .int .i64 i, .int .i64 0, .int .i64 n, .bool f, .slice none 0 0]) ∧ Keep w w' := by
  go_enter Tryz.func22, Tryz.ntmps22
  go_wp2
  refine bodyPost_ret (v := .agg #[.int .i64 1, .int .i64 i, .int .i64 0, .int .i64 n, .bool f, .slice none 0 0]) (by simp [results, Tryz.results22, go_sem]) rfl ⟨rfl, ?_⟩
  repeat (first | exact Keep.refl _ | apply Keep.alloc | apply Keep.drew | (refine Keep.set ?_ (by simp) _))

set_option maxHeartbeats 1000000 in
theorem tick_fn (n : Int) (w : World) : Calls Tryz.prog 23 #[.int .i64 n] w fun e w' => e = .returned (.agg #[.int .i64 6, .int .i64 0, .int .i64 0, .int .i64 n, .bool false, .slice none 0 0]) ∧ Keep w w' := by
  go_enter Tryz.func23, Tryz.ntmps23
  go_wp2
  refine bodyPost_ret (v := .agg #[.int .i64 6, .int .i64 0, .int .i64 0, .int .i64 n, .bool false, .slice none 0 0]) (by simp [results, Tryz.results23, go_sem]) rfl ⟨rfl, ?_⟩
  repeat (first | exact Keep.refl _ | apply Keep.alloc | apply Keep.drew | (refine Keep.set ?_ (by simp) _))

end Go.Proofs.YtnaeabfmgfipoaaGreatDoor
namespace Go.Proofs.YtnaeabfmgfipoaaGreatDoor
open Go.RowKit

/-- All fields are the same; s says whether the amounts are. -/
def eqO (k i c n : Int) (f : Bool) (k' i' c' n' : Int) (f' : Bool) (s : Bool) : Bool := decide (k = k' ∧ i = i' ∧ c = c' ∧ n = n' ∧ f = f') && s
theorem eqO_self (k i c n : Int) (f s : Bool) : eqO k i c n f k i c n f s = s := by simp [eqO]
theorem rsame_k {A B : Option Addr} {n m c d : Nat} {Z Y : Nat → Int} {w : World} (hA : Rd w A n Z) (hB : Rd w B m Y) (b : Bool) (h : sameB n Z m Y = b) :
    Calls Tryz.prog 30 #[.slice A n c, .slice B m d] w fun e w' => e = .returned (.bool b) ∧ Keep w w' := (rsame_is A B n m c d Z Y w hA hB b h).mono fun _ _ h => ⟨h.1, h.2.keep⟩
theorem beqF {f g : Bool} (h : ¬ f = g) : (f == g) = false := by cases f <;> cases g <;> simp_all
theorem beqI {x y : Int} (h : ¬ x = y) : (x == y) = false := beq_eq_false_iff_ne.2 h

set_option maxHeartbeats 4000000 in
theorem requal_fn (k i c n : Int) (f : Bool) (A : Option Addr) (m cp : Nat) (Z : Nat → Int) (k' i' c' n' : Int) (f' : Bool) (B : Option Addr) (m' cp' : Nat) (Y : Nat → Int) (w : World) (hA : Rd w A m Z) (hB : Rd w B m' Y) (s : Bool) (hs : sameB m Z m' Y = s) :
    Calls Tryz.prog 12 #[.agg #[.int .i64 k, .int .i64 i, .int .i64 c, .int .i64 n, .bool f, .slice A m cp], .agg #[.int .i64 k', .int .i64 i', .int .i64 c', .int .i64 n', .bool f', .slice B m' cp']] w fun e w' => e = .returned (.bool (eqO k i c n f k' i' c' n' f' s)) ∧ Keep w w' := by
  replace hA := Lib.hid hA
  replace hB := Lib.hid hB
  replace hs := Lib.hid hs
  by_cases hk : k = k'
  rotate_left
  · have bk := beqI hk
    rw [show eqO k i c n f k' i' c' n' f' s = false from by simp [eqO, hk]]
    replace hk := Lib.hid hk
    go_enter Tryz.func12, Tryz.ntmps12
    go_wp2
    go_ret
    exact ⟨rfl, by repeat (first | exact Keep.refl _ | apply Keep.alloc)⟩
  subst hk
  by_cases hi : i = i'
  rotate_left
  · have bi := beqI hi
    rw [show eqO k i c n f k i' c' n' f' s = false from by simp [eqO, hi]]
    replace hi := Lib.hid hi
    go_enter Tryz.func12, Tryz.ntmps12
    go_wp2
    go_ret
    exact ⟨rfl, by repeat (first | exact Keep.refl _ | apply Keep.alloc)⟩
  subst hi
  by_cases hc : c = c'
  rotate_left
  · have bc := beqI hc
    rw [show eqO k i c n f k i c' n' f' s = false from by simp [eqO, hc]]
    replace hc := Lib.hid hc
    go_enter Tryz.func12, Tryz.ntmps12
    go_wp2
    go_ret
    exact ⟨rfl, by repeat (first | exact Keep.refl _ | apply Keep.alloc)⟩
  subst hc
  by_cases hn : n = n'
  rotate_left
  · have bn := beqI hn
    rw [show eqO k i c n f k i c n' f' s = false from by simp [eqO, hn]]
    replace hn := Lib.hid hn
    go_enter Tryz.func12, Tryz.ntmps12
    go_wp2
    go_ret
    exact ⟨rfl, by repeat (first | exact Keep.refl _ | apply Keep.alloc)⟩
  subst hn
  by_cases hf : f = f'
  rotate_left
  · have bf := beqF hf
    rw [show eqO k i c n f k i c n f' s = false from by simp [eqO, hf]]
    replace hf := Lib.hid hf
    go_enter Tryz.func12, Tryz.ntmps12
    go_wp2
    go_ret
    exact ⟨rfl, by repeat (first | exact Keep.refl _ | apply Keep.alloc)⟩
  subst hf
  rw [eqO_self]
  go_enter Tryz.func12, Tryz.ntmps12
  go_wp2_with fail
  have k0 : Keep w ((w.alloc (.cells #[.int .i64 k, .int .i64 i, .int .i64 c, .int .i64 n, .bool f, .slice A m cp] 34)).alloc (.cells #[.int .i64 k, .int .i64 i, .int .i64 c, .int .i64 n, .bool f, .slice B m' cp'] 34)) := ((Keep.refl w).alloc _).alloc _
  refine (rsame_k (hA.out.keep k0) (hB.out.keep k0) s hs.out).mono ?_
  rintro e w1 ⟨rfl, h⟩
  replace k0 := Lib.hid (k0.trans h)
  replace h := Lib.hid h
  go_wp2
  go_ret
  exact ⟨rfl, k0.out⟩

/-- What the two keep is the same. -/
def sameO (k i c n : Int) (f : Bool) (k' i' c' n' : Int) (f' : Bool) (s : Bool) : Bool := eqO k (kI k i) (kC k c) (kN k n) (kF k f) k' (kI k' i') (kC k' c') (kN k' n') (kF k' f') s
end Go.Proofs.YtnaeabfmgfipoaaGreatDoor
namespace Go.Proofs.YtnaeabfmgfipoaaGreatDoor
open Go.RowKit

end Go.Proofs.YtnaeabfmgfipoaaGreatDoor
namespace Go.Proofs.YtnaeabfmgfipoaaGreatDoor
open Go.RowKit

/-- What the six cells of an operation hold. -/
structure Cel (w : World) (b : Nat) (c0 c1 c2 c3 c4 c5 : Value) : Prop where
  e0 : w.cell? ⟨b, 0, none⟩ = some c0
  e1 : w.cell? ⟨b, 1, none⟩ = some c1
  e2 : w.cell? ⟨b, 2, none⟩ = some c2
  e3 : w.cell? ⟨b, 3, none⟩ = some c3
  e4 : w.cell? ⟨b, 4, none⟩ = some c4
  e5 : w.cell? ⟨b, 5, none⟩ = some c5
theorem Cel.keep {w w' : World} {b : Nat} {c0 c1 c2 c3 c4 c5 : Value} (h : Cel w b c0 c1 c2 c3 c4 c5) (k : Keep w w') : Cel w' b c0 c1 c2 c3 c4 c5 := ⟨k.cell h.e0, k.cell h.e1, k.cell h.e2, k.cell h.e3, k.cell h.e4, k.cell h.e5⟩
theorem Box.cel {w : World} {b : Nat} {c0 c1 c2 c3 c4 c5 : Value} (h : Box w b c0 c1 c2 c3 c4 c5) : Cel w b c0 c1 c2 c3 c4 c5 := ⟨h.ce0, h.ce1, h.ce2, h.ce3, h.ce4, h.ce5⟩
theorem Keep.drewN {w w' : World} (h : Keep w w') (q : Nat) : Keep w (w'.drewN q) := below_drewN h q

end Go.Proofs.YtnaeabfmgfipoaaGreatDoor
namespace Go.Proofs.YtnaeabfmgfipoaaGreatDoor
open Go.RowKit Go.Extern.Stop Go.Stop Go.Extern

theorem Tryz.infoInt : (Tryz.prog.info? 3).map (fun i => (i.zero, i.size, i.bytes)) = some (some (.int .i64 0), 1, 8) := by kernel_rfl
/-- The numbers of an operation's line. -/
def allN (k i c n : Int) (m : Nat) (Z : Nat → Int) : List Int := numsOf k i c n ++ (if k = 2 ∨ k = 4 then (List.range m).map Z else [])
def inN (x : Int) : Prop := -4611686018427387904 ≤ x ∧ x ≤ 4611686018427387904
def joinN (s : ByteArray) : List Int → ByteArray
  | [] => s
  | x :: l => joinN ((s ++ ⟨#[32]⟩) ++ decB x) l
theorem joinN_snoc (x : Int) : ∀ (l : List Int) (s : ByteArray), joinN s (l ++ [x]) = (joinN s l ++ ⟨#[32]⟩) ++ decB x
  | [], _ => rfl
  | _ :: l, _ => joinN_snoc x l _
theorem joinN_size : ∀ (l : List Int) (s : ByteArray), (∀ x ∈ l, inN x) → (joinN s l).size ≤ s.size + 21 * l.length
  | [], s, _ => Nat.le_refl _
  | x :: l, s, h => by
    have h1 := joinN_size l ((s ++ ⟨#[32]⟩) ++ decB x) (fun y hy => h y (List.mem_cons_of_mem _ hy))
    have h2 := h x (List.mem_cons_self ..)
    unfold inN at h2
    have h3 := decB_size (n := x) (by omega) (by omega)
    have h4 : (⟨#[32]⟩ : ByteArray).size = 1 := rfl
    rw [ByteArray.size_append, ByteArray.size_append] at h1
    unfold joinN
    rw [List.length_cons]
    omega
theorem numsOf_len (k i c n : Int) : (numsOf k i c n).length ≤ 3 := by unfold numsOf; repeat (first | (split) | (simp))
theorem allN_len (k i c n : Int) (m : Nat) (Z : Nat → Int) : (allN k i c n m Z).length ≤ 3 + m := by
  unfold allN
  have := numsOf_len k i c n
  rw [List.length_append]
  split
  · simp; omega
  · simp; omega
theorem ints_at {w : World} {base : Nat} {v : Value} {l : List Int} (h : Ints w base v l) {j : Nat} (hj : j < l.length) : ∃ g cap, v = .slice (some ⟨g, 0, none⟩) l.length cap ∧ w.cell? ⟨g, j, none⟩ = some (.int .i64 l[j]) := by
  obtain ⟨g, cap, rfl, _⟩ := World.ownsRow.form h (by omega)
  refine ⟨g, cap, rfl, ?_⟩
  rw [World.ownsRow.cellAt h j (by omega)]
  simp [hj]
theorem ints_form {w : World} {base : Nat} {v : Value} {l : List Int} (h : Ints w base v l) : ∃ A cap, v = .slice A l.length cap := by
  rcases h.2 with ⟨rfl, h0⟩ | ⟨g, cap, cur, rfl, _⟩
  · exact ⟨none, 0, by rw [h0]⟩
  · exact ⟨_, cap, rfl⟩
theorem ints_keep {w w' : World} {base : Nat} {v : Value} {l : List Int} (h : Ints w base v l) (k : Keep w w') : Ints w' base v l := own_keep h k
theorem Drawn.keep_ {w w' : World} (h : Drawn w w') : Keep w w' := h.keep

set_option maxHeartbeats 1000000 in
theorem rline_kind (k i c n : Int) (f : Bool) (A : Option Addr) (m cp : Nat) (w : World) (hk : k < 1 ∨ 7 < k) :
    Calls Tryz.prog 14 #[.agg #[.int .i64 k, .int .i64 i, .int .i64 c, .int .i64 n, .bool f, .slice A m cp]] w fun e w' => e = .returned (.tuple #[.string ⟨#[]⟩, .int .i64 1]) ∧ Keep w w' := by
  have hn : Hid (kindNm k = ⟨#[]⟩) := by
    show _ = _
    by_cases h0 : k = 0
    · subst h0; rfl
    · exact kindNm_out (by omega)
  replace hk := Lib.hid hk
  go_enter Tryz.func14, Tryz.ntmps14
  go_wp2_with fail
  refine (kind_rname k _).mono ?_
  rintro e w1 ⟨rfl, h⟩
  have k1 := Lib.hid ((Keep.one _ _).trans h)
  replace h := Lib.hid h
  rw [hn.out]
  go_wp2
  go_ret2
  exact ⟨rfl, k1.out⟩

theorem kindNm_ne4 {k : Int} (h : ¬ (k < 1 ∨ 7 < k)) : (kindNm k).toList.isEmpty = false := by
  rcases kinds_or k with rfl | rfl | rfl | rfl | rfl | rfl | rfl | h'
  iterate 7 decide +kernel
  exact absurd h' h
theorem kindNm_size4 (k : Int) : (kindNm k).size ≤ 100 := by
  rcases kinds_or k with rfl | rfl | rfl | rfl | rfl | rfl | rfl | h
  iterate 7 decide +kernel
  by_cases h0 : k = 0
  · subst h0; decide +kernel
  · rw [kindNm_out (by omega)]; decide +kernel

def okL (l : List Int) : Bool := l.all fun x => decide (-4611686018427387904 ≤ x ∧ x ≤ 4611686018427387904)
theorem okL_in {l : List Int} (h : okL l = true) : ∀ x ∈ l, inN x := fun x hx => by have := List.all_eq_true.1 h x hx; unfold inN; simpa using this
theorem take_snoc {l : List Int} {j : Nat} (h : j < l.length) : l.take (j + 1) = l.take j ++ [l[j]] := by rw [List.take_add_one, List.getElem?_eq_getElem h]; rfl
theorem okL_snoc {l : List Int} {j : Nat} (h : j < l.length) (h1 : okL (l.take j) = true) (h2 : -4611686018427387904 ≤ l[j] ∧ l[j] ≤ 4611686018427387904) : okL (l.take (j + 1)) = true := by
  rw [take_snoc h]
  unfold okL at h1 ⊢
  rw [List.all_append, h1, Bool.true_and]
  simp [h2.1, h2.2]
theorem okL_bad {l : List Int} {j : Nat} (h : j < l.length) (h2 : ¬ (-4611686018427387904 ≤ l[j] ∧ l[j] ≤ 4611686018427387904)) : okL l = false := by
  cases ho : okL l
  · rfl
  · exact absurd (okL_in ho _ (List.getElem_mem h)) h2
/-- The text of a line, and the code. -/
def lineT (k : Int) (f : Bool) (K : ByteArray) (l : List Int) : ByteArray := if okL l then (if k = 1 then joinN K l ++ (if f then ⟨#[32, 121, 101, 115]⟩ else ⟨#[32, 110, 111]⟩) else joinN K l) else ⟨#[]⟩
def lineC (l : List Int) : Int := if okL l then 0 else 4
theorem line_bad {k : Int} {f : Bool} {K : ByteArray} {l : List Int} (h : okL l = false) : lineT k f K l = ⟨#[]⟩ ∧ lineC l = 4 := by unfold lineT lineC; rw [h]; exact ⟨rfl, rfl⟩
theorem line_ok {k : Int} {f : Bool} {K : ByteArray} {l : List Int} (h : okL l = true) (hk : ¬ k = 1) : lineT k f K l = joinN K l ∧ lineC l = 0 := by unfold lineT lineC; rw [h, if_pos rfl, if_neg hk]; exact ⟨rfl, rfl⟩
theorem line_one {f : Bool} {K : ByteArray} {l : List Int} (h : okL l = true) : lineT 1 f K l = joinN K l ++ (if f then ⟨#[32, 121, 101, 115]⟩ else ⟨#[32, 110, 111]⟩) ∧ lineC l = 0 := by unfold lineT lineC; rw [h, if_pos rfl, if_pos rfl]; exact ⟨rfl, rfl⟩
theorem ret_line {a b : ByteArray} {x y : Int} (h : a = b) (h2 : x = y) : Ending.returned (.tuple #[.string a, .int .i64 x]) = .returned (.tuple #[.string b, .int .i64 y]) := by rw [h, h2]

set_option maxRecDepth 100000 in
set_option maxHeartbeats 4000000 in
theorem rline_plain (k i c n : Int) (f : Bool) (A : Option Addr) (m cp : Nat) (Z : Nat → Int) (w : World) (hA : Rd w A m Z) (hm : m ≤ 100) (hk : ¬ (k < 1 ∨ 7 < k)) (h2 : ¬ k = 2) (h4 : ¬ k = 4) :
    Calls Tryz.prog 14 #[.agg #[.int .i64 k, .int .i64 i, .int .i64 c, .int .i64 n, .bool f, .slice A m cp]] w fun e w' => e = .returned (.tuple #[.string (lineT k f (kindNm k) (allN k i c n m Z)), .int .i64 (lineC (allN k i c n m Z))]) ∧ Keep w w' := by
  replace hA := Lib.hid hA
  have hn := Lib.hid (kindNm_ne4 hk)
  have hsz0 := kindNm_size4 k
  go_enter Tryz.func14, Tryz.ntmps14
  go_wp2_with fail
  have k0 : Keep w (w.alloc (.cells #[.int .i64 k, .int .i64 i, .int .i64 c, .int .i64 n, .bool f, .slice A m cp] 34)) := Keep.one _ _
  have X := (Box.new w (.int .i64 k) (.int .i64 i) (.int .i64 c) (.int .i64 n) (.bool f) (.slice A m cp)).cel
  obtain ⟨w0, hw0⟩ : ∃ w0, w0 = w.alloc (.cells #[.int .i64 k, .int .i64 i, .int .i64 c, .int .i64 n, .bool f, .slice A m cp] 34) := ⟨_, rfl⟩
  rw [← hw0] at k0 X ⊢
  obtain ⟨s1, hs1⟩ : ∃ s1, s1 = w.heap.size := ⟨_, rfl⟩
  rw [← hs1] at X ⊢
  replace X := Lib.hid X
  replace hA := Lib.hid (hA.out.keep k0)
  replace k0 := Lib.hid k0
  clear hw0 hs1
  refine (kind_rname k _).mono ?_
  rintro e w1 ⟨rfl, h⟩
  have k1 := Lib.hid h
  replace h := Lib.hid h
  obtain ⟨K, hK⟩ : ∃ K, K = kindNm k := ⟨_, rfl⟩
  have hn1 := hn.out
  rw [← hK] at hn1 hsz0 ⊢
  replace hK := Lib.hid hK
  have e0 := (X.out.keep k1.out).e0
  have e1 := (X.out.keep k1.out).e1
  have e2 := (X.out.keep k1.out).e2
  have e3 := (X.out.keep k1.out).e3
  have e4 := (X.out.keep k1.out).e4
  have e5 := (X.out.keep k1.out).e5
  go_wp2_with fail
  refine (numbers_fn k i c n f A m cp _).mono ?_
  rintro e w2 ⟨v, rfl, h, hI⟩
  have k2 := Lib.hid (k1.out.trans h)
  replace h := Lib.hid h
  replace hI := Lib.hid hI
  clear e0 e1 e2 e3 e4 e5
  have e0 := (X.out.keep k2.out).e0
  obtain ⟨L, hL⟩ : ∃ L, L = allN k i c n m Z := ⟨_, rfl⟩
  have hl1 := allN_len k i c n m Z
  rw [show numsOf k i c n = L from by rw [hL]; unfold allN; rw [if_neg (by omega), List.append_nil]] at hI
  rw [← hL] at hl1
  replace hL := Lib.hid hL
  have g2 := beqI h2
  have g4 := beqI h4
  have KX := k2
  have KW := Lib.hid (k0.out.trans k2.out)
  have hkk := Lib.hid hk
  clear hk
  replace h2 := Lib.hid h2
  replace h4 := Lib.hid h4
  obtain ⟨Av, cv, rfl⟩ := ints_form hI.out
  go_wp2
  go_loopg [4, 7] L.length (fun g sv i wr => ∃ (j : Nat) (T : ByteArray), j ≤ L.length ∧ g = L.length - j ∧ i = .int .i64 j ∧ sv = .string T ∧ Hid (T = joinN K (L.take j)) ∧ Hid (okL (L.take j) = true) ∧ Hid (Keep w2 wr))
  case atStart => exact ⟨0, K, Nat.zero_le _, rfl, rfl, rfl, rfl, rfl, Keep.refl _⟩
  case round =>
    obtain ⟨j, T, hj, rfl, rfl, rfl, hT, hok, hk⟩ := hrel
    by_cases hlt : j < L.length
    · obtain ⟨gg, cap, e, hcell⟩ := ints_at (ints_keep hI.out hk.out) hlt
      simp only [Value.slice.injEq] at e
      obtain ⟨rfl, _, rfl⟩ := e
      obtain ⟨x, hx⟩ : ∃ x, x = L[j] := ⟨_, rfl⟩
      rw [← hx] at hcell
      have hTs : T.size ≤ 3000 := by
        have a := joinN_size (L.take j) K (okL_in hok.out)
        rw [← hT.out, List.length_take] at a
        omega
      by_cases c1 : x < -4611686018427387904
      · have hb := Lib.hid (line_bad (k := k) (f := f) (K := K) (okL_bad hlt (by rw [← hx]; omega)))
        clear hx
        go_wp2
        go_ret2
        exact ⟨by rw [← hK.out, ← hL.out]; exact ret_line hb.out.1.symm hb.out.2.symm, KW.out.trans hk.out⟩
      by_cases c2 : 4611686018427387904 < x
      · have hb := Lib.hid (line_bad (k := k) (f := f) (K := K) (okL_bad hlt (by rw [← hx]; omega)))
        clear hx
        go_wp2
        go_ret2
        exact ⟨by rw [← hK.out, ← hL.out]; exact ret_line hb.out.1.symm hb.out.2.symm, KW.out.trans hk.out⟩
      have ho1 := Lib.hid (okL_snoc hlt hok.out (by rw [← hx]; omega))
      have hT1 : Hid ((T ++ ⟨#[32]⟩) ++ decB x = joinN K (L.take (j + 1))) := by show _ = _; rw [take_snoc hlt, joinN_snoc, ← hT.out, ← hx]
      have hd1 := decB_size (n := x) (by omega) (by omega)
      have hdec := Lib.hid (fun w => rdecimal_fn x w (by omega) (by omega))
      replace hx := Lib.hid hx
      obtain ⟨D, hD⟩ : ∃ D, D = decB x := ⟨_, rfl⟩
      rw [← hD] at hT1 hd1 hdec
      have hs1 : ∀ w : World, (Op.stringOp .add T ⟨#[32]⟩).run Tryz.prog w = .ok (.string (T ++ ⟨#[32]⟩)) w := fun w => run_string_add_sum w _ _ (by
        have b : (⟨#[32]⟩ : ByteArray).size = 1 := rfl
        omega)
      have hs2 : ∀ w : World, (Op.stringOp .add (T ++ ⟨#[32]⟩) D).run Tryz.prog w = .ok (.string ((T ++ ⟨#[32]⟩) ++ D)) w := fun w => run_string_add_sum w _ _ (by
        have b : (⟨#[32]⟩ : ByteArray).size = 1 := rfl
        rw [ByteArray.size_append]
        omega)
      clear hD hTs hd1
      go_wp2_with fail
      refine (hdec.out _).mono ?_
      rintro e w5 ⟨rfl, hd⟩
      have hk5 := Lib.hid (hk.out.trans hd.keep)
      replace hd := Lib.hid hd
      go_wp2
      go_roundg (L.length - (j + 1))
      case measure => omega
      case rel => exact ⟨j + 1, _, hlt, rfl, by go_num, rfl, hT1, ho1, hk5⟩
    · have hje : j = L.length := by omega
      have hTL : Hid (T = joinN K L) := by have a := hT.out; rw [hje, List.take_length] at a; exact a
      have hoL : Hid (okL L = true) := by have a := hok.out; rw [hje, List.take_length] at a; exact a
      have hTs : T.size ≤ 3000 := by
        have a := joinN_size L K (okL_in hoL.out)
        rw [← hTL.out] at a
        omega
      clear hje
      have e0 := (X.out.keep (KX.out.trans hk.out)).e0
      have e4 := (X.out.keep (KX.out.trans hk.out)).e4
      by_cases hk1 : k = 1
      · subst hk1
        have hb := Lib.hid (line_one (f := f) (K := K) hoL.out)
        have hs3 : ∀ w : World, (Op.stringOp .add T ⟨#[32, 121, 101, 115]⟩).run Tryz.prog w = .ok (.string (T ++ ⟨#[32, 121, 101, 115]⟩)) w := fun w => run_string_add_sum w _ _ (by
          have b : (⟨#[32, 121, 101, 115]⟩ : ByteArray).size = 4 := rfl
          omega)
        have hs4 : ∀ w : World, (Op.stringOp .add T ⟨#[32, 110, 111]⟩).run Tryz.prog w = .ok (.string (T ++ ⟨#[32, 110, 111]⟩)) w := fun w => run_string_add_sum w _ _ (by
          have b : (⟨#[32, 110, 111]⟩ : ByteArray).size = 3 := rfl
          omega)
        cases f
        · go_wp2
          go_ret2
          exact ⟨by rw [← hK.out, ← hL.out]; exact ret_line (by rw [hb.out.1, hTL.out]; rfl) hb.out.2.symm, KW.out.trans hk.out⟩
        · go_wp2
          go_ret2
          exact ⟨by rw [← hK.out, ← hL.out]; exact ret_line (by rw [hb.out.1, hTL.out]; rfl) hb.out.2.symm, KW.out.trans hk.out⟩
      · have hb := Lib.hid (line_ok (f := f) (K := K) hoL.out hk1)
        have g1 := beqI hk1
        replace hk1 := Lib.hid hk1
        go_wp2
        go_ret2
        exact ⟨by rw [← hK.out, ← hL.out]; exact ret_line (by rw [hb.out.1, hTL.out]) hb.out.2.symm, KW.out.trans hk.out⟩

theorem ints_snoc {w : World} {base : Nat} {v : Value} {l : List Int} {Z : Nat → Int} {j : Nat} (h : w.ownsRow base 3 1 v ((l ++ (List.range j).map Z).length + 1) ((l ++ (List.range j).map Z).map (.int .i64) ++ [.int .i64 (Z j)])) :
    Ints w base v (l ++ (List.range (j + 1)).map Z) := by
  unfold Ints
  rw [List.range_succ, List.map_append, ← List.append_assoc, List.length_append, List.map_append]
  exact h

set_option maxRecDepth 100000 in
set_option maxHeartbeats 4000000 in
theorem rline_2 (i c n : Int) (f : Bool) (A : Option Addr) (m cp : Nat) (Z : Nat → Int) (w : World) (hA : Rd w A m Z) (hm : m ≤ 100) :
    Calls Tryz.prog 14 #[.agg #[.int .i64 2, .int .i64 i, .int .i64 c, .int .i64 n, .bool f, .slice A m cp]] w fun e w' => e = .returned (.tuple #[.string (lineT 2 f (kindNm 2) (allN 2 i c n m Z)), .int .i64 (lineC (allN 2 i c n m Z))]) ∧ Keep w w' := by
  obtain ⟨i0, hi0, hz0, hz1, hz2⟩ := info_parts Tryz.infoInt
  replace hA := Lib.hid hA
  have hn := Lib.hid (kindNm_ne4 (k := 2) (by omega))
  have hsz0 := kindNm_size4 2
  go_enter Tryz.func14, Tryz.ntmps14
  go_wp2_with fail
  have k0 : Keep w (w.alloc (.cells #[.int .i64 2, .int .i64 i, .int .i64 c, .int .i64 n, .bool f, .slice A m cp] 34)) := Keep.one _ _
  have X := (Box.new w (.int .i64 2) (.int .i64 i) (.int .i64 c) (.int .i64 n) (.bool f) (.slice A m cp)).cel
  obtain ⟨w0, hw0⟩ : ∃ w0, w0 = w.alloc (.cells #[.int .i64 2, .int .i64 i, .int .i64 c, .int .i64 n, .bool f, .slice A m cp] 34) := ⟨_, rfl⟩
  rw [← hw0] at k0 X ⊢
  obtain ⟨s1, hs1⟩ : ∃ s1, s1 = w.heap.size := ⟨_, rfl⟩
  rw [← hs1] at X ⊢
  replace X := Lib.hid X
  replace hA := Lib.hid (hA.out.keep k0)
  replace k0 := Lib.hid k0
  clear hw0 hs1
  refine (kind_rname 2 _).mono ?_
  rintro e w1 ⟨rfl, h⟩
  have k1 := Lib.hid h
  replace h := Lib.hid h
  obtain ⟨K, hK⟩ : ∃ K, K = kindNm 2 := ⟨_, rfl⟩
  have hn1 := hn.out
  rw [← hK] at hn1 hsz0 ⊢
  replace hK := Lib.hid hK
  have e0 := (X.out.keep k1.out).e0
  have e1 := (X.out.keep k1.out).e1
  have e2 := (X.out.keep k1.out).e2
  have e3 := (X.out.keep k1.out).e3
  have e4 := (X.out.keep k1.out).e4
  have e5 := (X.out.keep k1.out).e5
  go_wp2_with fail
  refine (numbers_fn 2 i c n f A m cp _).mono ?_
  rintro e w2 ⟨v, rfl, h, hI⟩
  have k2 := Lib.hid (k1.out.trans h)
  replace h := Lib.hid h
  replace hI := Lib.hid hI
  clear e0 e1 e2 e3 e4 e5
  have e0 := (X.out.keep k2.out).e0
  obtain ⟨N0, hN⟩ : ∃ N0, N0 = numsOf 2 i c n := ⟨_, rfl⟩
  have hn3 := numsOf_len 2 i c n
  rw [← hN] at hI hn3
  have hL1 : Hid (allN 2 i c n m Z = N0 ++ (List.range m).map Z) := by show _ = _; rw [hN]; unfold allN; rw [if_pos (by omega)]
  clear hN
  go_wp2
  go_loopg [5, 6] m (fun g ov i1 wq => ∃ j : Nat, j ≤ m ∧ g = m - j ∧ i1 = .int .i64 j ∧ Hid (Keep w1 wq) ∧ Hid (Ints wq w1.heap.size ov (N0 ++ (List.range j).map Z)))
  case atStart => exact ⟨0, Nat.zero_le _, rfl, rfl, h.out, by rw [List.range_zero, List.map_nil, List.append_nil]; exact hI⟩
  case round =>
    obtain ⟨j, hj, rfl, rfl, hq, hJ⟩ := hrel
    obtain ⟨wq, hwq⟩ : ∃ x, x = wr := ⟨_, rfl⟩
    subst hwq
    clear e0
    by_cases hlt : j < m
    · have e5 := (X.out.keep (k1.out.trans hq.out)).e5
      obtain ⟨b, off, rfl, ca⟩ := (hA.out.keep (k1.out.trans hq.out)).adr (by omega)
      have g0 := ca j hlt
      clear ca
      have hJ0 := hJ.out
      have hsz := hq.out.size
      have hln : (N0 ++ (List.range j).map Z).length ≤ 103 := by rw [List.length_append]; simp; omega
      go_wp2_with (at_builtin; refine wpList_append_own _ rfl _ _ 71 rfl w1.heap.size 3 i0 (.int .i64 0) 1 8 Tryz.underlying71 hi0 hz0 hz1 hz2 rfl (by decide) _ _ _ rfl (own_keep hJ0 (Keep.one _ _)) ⟨wq.heap.size, 0, none⟩ 1 1 [.int .i64 (Z j)] rfl rfl (cell_one_new _ _ _) (by intro u hu; simp at hu; subst hu; rfl) (by unfold maxLen; omega) (by omega) (by simp; omega) ?_; intro v' w2 hown2 hgrow hnil)
      go_roundg (m - (j + 1))
      case measure => omega
      case rel => exact ⟨j + 1, hlt, rfl, by go_num, keep_grown (hq.out.alloc _) hgrow (fun q hq => (World.ownsRow.lt hJ0 q hq).1), ints_snoc hown2⟩
    · have hje : j = m := by omega
      have e5 := (X.out.keep (k1.out.trans hq.out)).e5
      have hgt : ¬ (j : Int) < (m : Int) := by omega
      replace hI := hJ
      rw [hje, ← hL1.out] at hI
      obtain ⟨L, hL⟩ : ∃ L, L = allN 2 i c n m Z := ⟨_, rfl⟩
      have hl1 := allN_len 2 i c n m Z
      rw [← hL] at hl1 hI
      replace hL := Lib.hid hL
      have KX := Lib.hid (k1.out.trans hq.out)
      have KW := Lib.hid (k0.out.trans KX.out)
      clear hlt hje hj
      obtain ⟨Av, cv, rfl⟩ := ints_form hI.out
      go_wp2
      go_loopg [4, 7] L.length (fun g sv i wr => ∃ (j : Nat) (T : ByteArray), j ≤ L.length ∧ g = L.length - j ∧ i = .int .i64 j ∧ sv = .string T ∧ Hid (T = joinN K (L.take j)) ∧ Hid (okL (L.take j) = true) ∧ Hid (Keep wq wr))
      case atStart => exact ⟨0, K, Nat.zero_le _, rfl, rfl, rfl, rfl, rfl, Keep.refl _⟩
      case round =>
        obtain ⟨j, T, hj, rfl, rfl, rfl, hT, hok, hk⟩ := hrel
        by_cases hlt : j < L.length
        · obtain ⟨gg, cap, e, hcell⟩ := ints_at (ints_keep hI.out hk.out) hlt
          simp only [Value.slice.injEq] at e
          obtain ⟨rfl, _, rfl⟩ := e
          obtain ⟨x, hx⟩ : ∃ x, x = L[j] := ⟨_, rfl⟩
          rw [← hx] at hcell
          have hTs : T.size ≤ 3000 := by
            have a := joinN_size (L.take j) K (okL_in hok.out)
            rw [← hT.out, List.length_take] at a
            omega
          by_cases c1 : x < -4611686018427387904
          · have hb := Lib.hid (line_bad (k := 2) (f := f) (K := K) (okL_bad hlt (by rw [← hx]; omega)))
            clear hx
            go_wp2
            go_ret2
            exact ⟨by rw [← hK.out, ← hL.out]; exact ret_line hb.out.1.symm hb.out.2.symm, KW.out.trans hk.out⟩
          by_cases c2 : 4611686018427387904 < x
          · have hb := Lib.hid (line_bad (k := 2) (f := f) (K := K) (okL_bad hlt (by rw [← hx]; omega)))
            clear hx
            go_wp2
            go_ret2
            exact ⟨by rw [← hK.out, ← hL.out]; exact ret_line hb.out.1.symm hb.out.2.symm, KW.out.trans hk.out⟩
          have ho1 := Lib.hid (okL_snoc hlt hok.out (by rw [← hx]; omega))
          have hT1 : Hid ((T ++ ⟨#[32]⟩) ++ decB x = joinN K (L.take (j + 1))) := by show _ = _; rw [take_snoc hlt, joinN_snoc, ← hT.out, ← hx]
          have hd1 := decB_size (n := x) (by omega) (by omega)
          have hdec := Lib.hid (fun w => rdecimal_fn x w (by omega) (by omega))
          replace hx := Lib.hid hx
          obtain ⟨D, hD⟩ : ∃ D, D = decB x := ⟨_, rfl⟩
          rw [← hD] at hT1 hd1 hdec
          have hs1 : ∀ w : World, (Op.stringOp .add T ⟨#[32]⟩).run Tryz.prog w = .ok (.string (T ++ ⟨#[32]⟩)) w := fun w => run_string_add_sum w _ _ (by
            have b : (⟨#[32]⟩ : ByteArray).size = 1 := rfl
            omega)
          have hs2 : ∀ w : World, (Op.stringOp .add (T ++ ⟨#[32]⟩) D).run Tryz.prog w = .ok (.string ((T ++ ⟨#[32]⟩) ++ D)) w := fun w => run_string_add_sum w _ _ (by
            have b : (⟨#[32]⟩ : ByteArray).size = 1 := rfl
            rw [ByteArray.size_append]
            omega)
          clear hD hTs hd1
          go_wp2_with fail
          refine (hdec.out _).mono ?_
          rintro e w5 ⟨rfl, hd⟩
          have hk5 := Lib.hid (hk.out.trans hd.keep)
          replace hd := Lib.hid hd
          go_wp2
          go_roundg (L.length - (j + 1))
          case measure => omega
          case rel => exact ⟨j + 1, _, hlt, rfl, by go_num, rfl, hT1, ho1, hk5⟩
        · have hje : j = L.length := by omega
          have hTL : Hid (T = joinN K L) := by have a := hT.out; rw [hje, List.take_length] at a; exact a
          have hoL : Hid (okL L = true) := by have a := hok.out; rw [hje, List.take_length] at a; exact a
          have hTs : T.size ≤ 3000 := by
            have a := joinN_size L K (okL_in hoL.out)
            rw [← hTL.out] at a
            omega
          clear hje
          have e0 := (X.out.keep (KX.out.trans hk.out)).e0
          have e4 := (X.out.keep (KX.out.trans hk.out)).e4
          have hb := Lib.hid (line_ok (k := 2) (f := f) (K := K) hoL.out (by omega))
          go_wp2
          go_ret2
          exact ⟨by rw [← hK.out, ← hL.out]; exact ret_line (by rw [hb.out.1, hTL.out]) hb.out.2.symm, KW.out.trans hk.out⟩

set_option maxRecDepth 100000 in
set_option maxHeartbeats 4000000 in
theorem rline_4 (i c n : Int) (f : Bool) (A : Option Addr) (m cp : Nat) (Z : Nat → Int) (w : World) (hA : Rd w A m Z) (hm : m ≤ 100) :
    Calls Tryz.prog 14 #[.agg #[.int .i64 4, .int .i64 i, .int .i64 c, .int .i64 n, .bool f, .slice A m cp]] w fun e w' => e = .returned (.tuple #[.string (lineT 4 f (kindNm 4) (allN 4 i c n m Z)), .int .i64 (lineC (allN 4 i c n m Z))]) ∧ Keep w w' := by
  obtain ⟨i0, hi0, hz0, hz1, hz2⟩ := info_parts Tryz.infoInt
  replace hA := Lib.hid hA
  have hn := Lib.hid (kindNm_ne4 (k := 4) (by omega))
  have hsz0 := kindNm_size4 4
  go_enter Tryz.func14, Tryz.ntmps14
  go_wp2_with fail
  have k0 : Keep w (w.alloc (.cells #[.int .i64 4, .int .i64 i, .int .i64 c, .int .i64 n, .bool f, .slice A m cp] 34)) := Keep.one _ _
  have X := (Box.new w (.int .i64 4) (.int .i64 i) (.int .i64 c) (.int .i64 n) (.bool f) (.slice A m cp)).cel
  obtain ⟨w0, hw0⟩ : ∃ w0, w0 = w.alloc (.cells #[.int .i64 4, .int .i64 i, .int .i64 c, .int .i64 n, .bool f, .slice A m cp] 34) := ⟨_, rfl⟩
  rw [← hw0] at k0 X ⊢
  obtain ⟨s1, hs1⟩ : ∃ s1, s1 = w.heap.size := ⟨_, rfl⟩
  rw [← hs1] at X ⊢
  replace X := Lib.hid X
  replace hA := Lib.hid (hA.out.keep k0)
  replace k0 := Lib.hid k0
  clear hw0 hs1
  refine (kind_rname 4 _).mono ?_
  rintro e w1 ⟨rfl, h⟩
  have k1 := Lib.hid h
  replace h := Lib.hid h
  obtain ⟨K, hK⟩ : ∃ K, K = kindNm 4 := ⟨_, rfl⟩
  have hn1 := hn.out
  rw [← hK] at hn1 hsz0 ⊢
  replace hK := Lib.hid hK
  have e0 := (X.out.keep k1.out).e0
  have e1 := (X.out.keep k1.out).e1
  have e2 := (X.out.keep k1.out).e2
  have e3 := (X.out.keep k1.out).e3
  have e4 := (X.out.keep k1.out).e4
  have e5 := (X.out.keep k1.out).e5
  go_wp2_with fail
  refine (numbers_fn 4 i c n f A m cp _).mono ?_
  rintro e w2 ⟨v, rfl, h, hI⟩
  have k2 := Lib.hid (k1.out.trans h)
  replace h := Lib.hid h
  replace hI := Lib.hid hI
  clear e0 e1 e2 e3 e4 e5
  have e0 := (X.out.keep k2.out).e0
  obtain ⟨N0, hN⟩ : ∃ N0, N0 = numsOf 4 i c n := ⟨_, rfl⟩
  have hn3 := numsOf_len 4 i c n
  rw [← hN] at hI hn3
  have hL1 : Hid (allN 4 i c n m Z = N0 ++ (List.range m).map Z) := by show _ = _; rw [hN]; unfold allN; rw [if_pos (by omega)]
  clear hN
  go_wp2
  go_loopg [5, 6] m (fun g ov i1 wq => ∃ j : Nat, j ≤ m ∧ g = m - j ∧ i1 = .int .i64 j ∧ Hid (Keep w1 wq) ∧ Hid (Ints wq w1.heap.size ov (N0 ++ (List.range j).map Z)))
  case atStart => exact ⟨0, Nat.zero_le _, rfl, rfl, h.out, by rw [List.range_zero, List.map_nil, List.append_nil]; exact hI⟩
  case round =>
    obtain ⟨j, hj, rfl, rfl, hq, hJ⟩ := hrel
    obtain ⟨wq, hwq⟩ : ∃ x, x = wr := ⟨_, rfl⟩
    subst hwq
    clear e0
    by_cases hlt : j < m
    · have e5 := (X.out.keep (k1.out.trans hq.out)).e5
      obtain ⟨b, off, rfl, ca⟩ := (hA.out.keep (k1.out.trans hq.out)).adr (by omega)
      have g0 := ca j hlt
      clear ca
      have hJ0 := hJ.out
      have hsz := hq.out.size
      have hln : (N0 ++ (List.range j).map Z).length ≤ 103 := by rw [List.length_append]; simp; omega
      go_wp2_with (at_builtin; refine wpList_append_own _ rfl _ _ 71 rfl w1.heap.size 3 i0 (.int .i64 0) 1 8 Tryz.underlying71 hi0 hz0 hz1 hz2 rfl (by decide) _ _ _ rfl (own_keep hJ0 (Keep.one _ _)) ⟨wq.heap.size, 0, none⟩ 1 1 [.int .i64 (Z j)] rfl rfl (cell_one_new _ _ _) (by intro u hu; simp at hu; subst hu; rfl) (by unfold maxLen; omega) (by omega) (by simp; omega) ?_; intro v' w2 hown2 hgrow hnil)
      go_roundg (m - (j + 1))
      case measure => omega
      case rel => exact ⟨j + 1, hlt, rfl, by go_num, keep_grown (hq.out.alloc _) hgrow (fun q hq => (World.ownsRow.lt hJ0 q hq).1), ints_snoc hown2⟩
    · have hje : j = m := by omega
      have e5 := (X.out.keep (k1.out.trans hq.out)).e5
      have hgt : ¬ (j : Int) < (m : Int) := by omega
      replace hI := hJ
      rw [hje, ← hL1.out] at hI
      obtain ⟨L, hL⟩ : ∃ L, L = allN 4 i c n m Z := ⟨_, rfl⟩
      have hl1 := allN_len 4 i c n m Z
      rw [← hL] at hl1 hI
      replace hL := Lib.hid hL
      have KX := Lib.hid (k1.out.trans hq.out)
      have KW := Lib.hid (k0.out.trans KX.out)
      clear hlt hje hj
      obtain ⟨Av, cv, rfl⟩ := ints_form hI.out
      go_wp2
      go_loopg [4, 7] L.length (fun g sv i wr => ∃ (j : Nat) (T : ByteArray), j ≤ L.length ∧ g = L.length - j ∧ i = .int .i64 j ∧ sv = .string T ∧ Hid (T = joinN K (L.take j)) ∧ Hid (okL (L.take j) = true) ∧ Hid (Keep wq wr))
      case atStart => exact ⟨0, K, Nat.zero_le _, rfl, rfl, rfl, rfl, rfl, Keep.refl _⟩
      case round =>
        obtain ⟨j, T, hj, rfl, rfl, rfl, hT, hok, hk⟩ := hrel
        by_cases hlt : j < L.length
        · obtain ⟨gg, cap, e, hcell⟩ := ints_at (ints_keep hI.out hk.out) hlt
          simp only [Value.slice.injEq] at e
          obtain ⟨rfl, _, rfl⟩ := e
          obtain ⟨x, hx⟩ : ∃ x, x = L[j] := ⟨_, rfl⟩
          rw [← hx] at hcell
          have hTs : T.size ≤ 3000 := by
            have a := joinN_size (L.take j) K (okL_in hok.out)
            rw [← hT.out, List.length_take] at a
            omega
          by_cases c1 : x < -4611686018427387904
          · have hb := Lib.hid (line_bad (k := 4) (f := f) (K := K) (okL_bad hlt (by rw [← hx]; omega)))
            clear hx
            go_wp2
            go_ret2
            exact ⟨by rw [← hK.out, ← hL.out]; exact ret_line hb.out.1.symm hb.out.2.symm, KW.out.trans hk.out⟩
          by_cases c2 : 4611686018427387904 < x
          · have hb := Lib.hid (line_bad (k := 4) (f := f) (K := K) (okL_bad hlt (by rw [← hx]; omega)))
            clear hx
            go_wp2
            go_ret2
            exact ⟨by rw [← hK.out, ← hL.out]; exact ret_line hb.out.1.symm hb.out.2.symm, KW.out.trans hk.out⟩
          have ho1 := Lib.hid (okL_snoc hlt hok.out (by rw [← hx]; omega))
          have hT1 : Hid ((T ++ ⟨#[32]⟩) ++ decB x = joinN K (L.take (j + 1))) := by show _ = _; rw [take_snoc hlt, joinN_snoc, ← hT.out, ← hx]
          have hd1 := decB_size (n := x) (by omega) (by omega)
          have hdec := Lib.hid (fun w => rdecimal_fn x w (by omega) (by omega))
          replace hx := Lib.hid hx
          obtain ⟨D, hD⟩ : ∃ D, D = decB x := ⟨_, rfl⟩
          rw [← hD] at hT1 hd1 hdec
          have hs1 : ∀ w : World, (Op.stringOp .add T ⟨#[32]⟩).run Tryz.prog w = .ok (.string (T ++ ⟨#[32]⟩)) w := fun w => run_string_add_sum w _ _ (by
            have b : (⟨#[32]⟩ : ByteArray).size = 1 := rfl
            omega)
          have hs2 : ∀ w : World, (Op.stringOp .add (T ++ ⟨#[32]⟩) D).run Tryz.prog w = .ok (.string ((T ++ ⟨#[32]⟩) ++ D)) w := fun w => run_string_add_sum w _ _ (by
            have b : (⟨#[32]⟩ : ByteArray).size = 1 := rfl
            rw [ByteArray.size_append]
            omega)
          clear hD hTs hd1
          go_wp2_with fail
          refine (hdec.out _).mono ?_
          rintro e w5 ⟨rfl, hd⟩
          have hk5 := Lib.hid (hk.out.trans hd.keep)
          replace hd := Lib.hid hd
          go_wp2
          go_roundg (L.length - (j + 1))
          case measure => omega
          case rel => exact ⟨j + 1, _, hlt, rfl, by go_num, rfl, hT1, ho1, hk5⟩
        · have hje : j = L.length := by omega
          have hTL : Hid (T = joinN K L) := by have a := hT.out; rw [hje, List.take_length] at a; exact a
          have hoL : Hid (okL L = true) := by have a := hok.out; rw [hje, List.take_length] at a; exact a
          have hTs : T.size ≤ 3000 := by
            have a := joinN_size L K (okL_in hoL.out)
            rw [← hTL.out] at a
            omega
          clear hje
          have e0 := (X.out.keep (KX.out.trans hk.out)).e0
          have e4 := (X.out.keep (KX.out.trans hk.out)).e4
          have hb := Lib.hid (line_ok (k := 4) (f := f) (K := K) hoL.out (by omega))
          go_wp2
          go_ret2
          exact ⟨by rw [← hK.out, ← hL.out]; exact ret_line (by rw [hb.out.1, hTL.out]) hb.out.2.symm, KW.out.trans hk.out⟩

/-- The reference's Line. -/
theorem rline_fn (k i c n : Int) (f : Bool) (A : Option Addr) (m cp : Nat) (Z : Nat → Int) (w : World) (hA : Rd w A m Z) (hm : m ≤ 100) :
    (k < 1 ∨ 7 < k → Calls Tryz.prog 14 #[.agg #[.int .i64 k, .int .i64 i, .int .i64 c, .int .i64 n, .bool f, .slice A m cp]] w fun e w' => e = .returned (.tuple #[.string ⟨#[]⟩, .int .i64 1]) ∧ Keep w w') ∧
    (¬ (k < 1 ∨ 7 < k) → Calls Tryz.prog 14 #[.agg #[.int .i64 k, .int .i64 i, .int .i64 c, .int .i64 n, .bool f, .slice A m cp]] w fun e w' => e = .returned (.tuple #[.string (lineT k f (kindNm k) (allN k i c n m Z)), .int .i64 (lineC (allN k i c n m Z))]) ∧ Keep w w') := by
  refine ⟨rline_kind k i c n f A m cp w, fun hk => ?_⟩
  by_cases h2 : k = 2
  · subst h2; exact rline_2 i c n f A m cp Z w hA hm
  by_cases h4 : k = 4
  · subst h4; exact rline_4 i c n f A m cp Z w hA hm
  exact rline_plain k i c n f A m cp Z w hA hm hk h2 h4

end Go.Proofs.YtnaeabfmgfipoaaGreatDoor
namespace Go.Proofs.YtnaeabfmgfipoaaGreatDoor
open Go.RowKit

theorem noSp_add {x y : ByteArray} (h : noSp x) (h' : noSp y) : noSp (x ++ y) := by
  intro j hj
  rw [ByteArray.size_append] at hj
  by_cases hx : j < x.size
  · rw [byteAt_left _ _ hx]; exact h j hx
  · have := byteAt_right x y (j - x.size)
    rw [show x.size + (j - x.size) = j by omega] at this
    rw [this]
    exact h' _ (by omega)
theorem noSp_digit (d : Nat) (h : d < 10) : noSp ⟨#[(48 + d).toUInt8]⟩ := by
  intro j hj
  rw [size_one] at hj
  obtain rfl : j = 0 := by omega
  have h0 : byteAt ⟨#[(48 + d).toUInt8]⟩ 0 = 48 + d := digit_byte h
  rw [h0]
  omega
theorem noSp_decN : ∀ (b n : Nat), n < b → noSp (decN n)
  | 0, n, h => absurd h (Nat.not_lt_zero _)
  | b + 1, n, h => by
    by_cases h10 : n < 10
    · rw [decN_lt h10]; exact noSp_digit n h10
    · rw [decN_ge h10]; exact noSp_add (noSp_decN b (n / 10) (by omega)) (noSp_digit _ (by omega))
theorem noSp_minus : noSp ⟨#[45]⟩ := by
  intro j hj
  rw [size_one] at hj
  obtain rfl : j = 0 := by omega
  decide
theorem noSp_decB (n : Int) : noSp (decB n) := by
  unfold decB
  split
  · exact noSp_add noSp_minus (noSp_decN _ _ (Nat.lt_succ_self _))
  · exact noSp_decN _ _ (Nat.lt_succ_self _)
/-- A closed text without a space. -/
theorem noSp_of {s : ByteArray} (h : (List.range s.size).all (fun j => decide (byteAt s j ≠ 32)) = true) : noSp s := fun j hj => of_decide_eq_true (List.all_eq_true.1 h j (List.mem_range.2 hj))
theorem noSp_kind (k : Int) : noSp (kindNm k) := by
  rcases kinds_or k with rfl | rfl | rfl | rfl | rfl | rfl | rfl | h
  iterate 7 exact noSp_of (by decide +kernel)
  by_cases h0 : k = 0
  · subst h0; exact noSp_of (by decide +kernel)
  · rw [kindNm_out (by omega)]; exact noSp_of (by decide +kernel)
theorem noSp_yes : noSp ⟨#[121, 101, 115]⟩ := noSp_of (by decide +kernel)
theorem noSp_no : noSp ⟨#[110, 111]⟩ := noSp_of (by decide +kernel)
theorem words_joinN : ∀ (l : List Int) (s : ByteArray), wordsOf (joinN s l) = wordsOf s ++ l.map decB
  | [], s => by rw [joinN, List.map_nil, List.append_nil]
  | x :: l, s => by rw [joinN, words_joinN l, words_more s _ (noSp_decB x), List.map_cons, List.append_assoc]; rfl
/-- The words of a line without a flag. -/
theorem words_line {k : Int} (l : List Int) : wordsOf (joinN (kindNm k) l) = kindNm k :: l.map decB := by rw [words_joinN, words_one (noSp_kind k)]; rfl
/-- The words of a class's line. -/
theorem words_class (f : Bool) (l : List Int) : wordsOf (joinN (kindNm 1) l ++ (if f then ⟨#[32, 121, 101, 115]⟩ else ⟨#[32, 110, 111]⟩)) = (kindNm 1 :: l.map decB) ++ [if f then ⟨#[121, 101, 115]⟩ else ⟨#[110, 111]⟩] := by
  cases f
  · have e : joinN (kindNm 1) l ++ (⟨#[32, 110, 111]⟩ : ByteArray) = (joinN (kindNm 1) l ++ ⟨#[32]⟩) ++ ⟨#[110, 111]⟩ := by rw [ByteArray.append_assoc]; rfl
    show wordsOf (joinN (kindNm 1) l ++ (⟨#[32, 110, 111]⟩ : ByteArray)) = _
    rw [e, words_more _ _ noSp_no, words_line]
    rfl
  · have e : joinN (kindNm 1) l ++ (⟨#[32, 121, 101, 115]⟩ : ByteArray) = (joinN (kindNm 1) l ++ ⟨#[32]⟩) ++ ⟨#[121, 101, 115]⟩ := by rw [ByteArray.append_assoc]; rfl
    show wordsOf (joinN (kindNm 1) l ++ (⟨#[32, 121, 101, 115]⟩ : ByteArray)) = _
    rw [e, words_more _ _ noSp_yes, words_line]
    rfl
end Go.Proofs.YtnaeabfmgfipoaaGreatDoor
namespace Go.Proofs.YtnaeabfmgfipoaaGreatDoor
open Go.RowKit

/-- The kind with this name; 0: there is none. -/
def kindOf (w : ByteArray) : Int := if w = kindNm 1 then 1 else if w = kindNm 2 then 2 else if w = kindNm 3 then 3 else if w = kindNm 4 then 4 else if w = kindNm 5 then 5 else if w = kindNm 6 then 6 else if w = kindNm 7 then 7 else 0
theorem kindOf_name {k : Int} (h : ¬ (k < 1 ∨ 7 < k)) : kindOf (kindNm k) = k := by
  rcases kinds_or k with rfl | rfl | rfl | rfl | rfl | rfl | rfl | h'
  iterate 7 decide +kernel
  exact absurd h' h
def numsRead : List ByteArray → Option (List Int)
  | [] => some []
  | w :: r => match numOf w, numsRead r with
    | some x, some l => some (x :: l)
    | _, _ => none
theorem numsRead_decB : ∀ (l : List Int), okL l = true → numsRead (l.map decB) = some l
  | [], _ => rfl
  | x :: l, h => by
    have hx := okL_in h x (List.mem_cons_self ..)
    have hl : okL l = true := by unfold okL at h ⊢; rw [List.all_cons, Bool.and_eq_true] at h; exact h.2
    rw [List.map_cons, numsRead, numOf_decB x hx.1 hx.2, numsRead_decB l hl]
/-- The fields of an operation: kind, ID, class, N, flag, amounts. -/
structure OpD where
  kind : Int
  id : Int
  cls : Int
  n : Int
  flag : Bool
  amounts : List Int
/-- How many numbers stand ahead of the amounts. -/
def need (k : Int) : Nat := if k = 1 then 2 else if k = 4 then 3 else if k = 7 ∨ k = 0 then 0 else 1
def buildOp (k : Int) (f : Bool) (l : List Int) : Option OpD :=
  if l.length < need k ∨ (need k < l.length ∧ k ≠ 2 ∧ k ≠ 4) then none
  else some ⟨k, if k ≤ 5 then l.getD 0 0 else 0, if k = 4 then l.getD 1 0 else 0, if k = 1 then l.getD 1 0 else if k = 4 then l.getD 2 0 else if k = 6 then l.getD 0 0 else 0, f, l.drop (need k)⟩
def yesW : ByteArray := ⟨#[121, 101, 115]⟩
def noW : ByteArray := ⟨#[110, 111]⟩
/-- What the words of a line say. -/
def parseOf : List ByteArray → Option OpD
  | [] => none
  | w0 :: r =>
    if kindOf w0 = 0 then none
    else if kindOf w0 = 1 then
      (if r.length ≠ 3 ∨ (r.getD 2 ⟨#[]⟩ ≠ yesW ∧ r.getD 2 ⟨#[]⟩ ≠ noW) then none else (numsRead (r.take 2)).bind (buildOp 1 (decide (r.getD 2 ⟨#[]⟩ = yesW))))
    else (numsRead r).bind (buildOp (kindOf w0) false)
theorem allN_1 (i c n : Int) (m : Nat) (Z : Nat → Int) : allN 1 i c n m Z = [i, n] := by unfold allN numsOf; rfl
/-- A class's line. -/
theorem parse_class (i c n : Int) (f : Bool) (m : Nat) (Z : Nat → Int) (h : okL (allN 1 i c n m Z) = true) :
    parseOf ((kindNm 1 :: (allN 1 i c n m Z).map decB) ++ [if f then yesW else noW]) = some ⟨1, i, 0, n, f, []⟩ := by
  have hk : kindOf (kindNm 1) = 1 := kindOf_name (by omega)
  have hr := numsRead_decB _ h
  rw [allN_1] at hr ⊢
  rw [List.cons_append, parseOf, hk, if_neg (by omega), if_pos rfl]
  have hy : ¬ noW = yesW := by decide +kernel
  cases f
  · rw [if_neg (by
      rintro (e | e)
      · exact e rfl
      · exact e.2 rfl)]
    show (numsRead ([i, n].map decB)).bind (buildOp 1 (decide (noW = yesW))) = _
    rw [hr, decide_eq_false hy]
    rfl
  · rw [if_neg (by
      rintro (e | e)
      · exact e rfl
      · exact e.1 rfl)]
    show (numsRead ([i, n].map decB)).bind (buildOp 1 (decide (yesW = yesW))) = _
    rw [hr, decide_eq_true rfl]
    rfl
/-- The line of any other kind. -/
theorem parse_other (k i c n : Int) (m : Nat) (Z : Nat → Int) (hk : ¬ (k < 1 ∨ 7 < k)) (h1 : ¬ k = 1) (h : okL (allN k i c n m Z) = true) :
    parseOf (kindNm k :: (allN k i c n m Z).map decB) = some ⟨k, kI k i, kC k c, kN k n, false, if k = 2 ∨ k = 4 then (List.range m).map Z else []⟩ := by
  rw [parseOf, kindOf_name hk, if_neg (by omega), if_neg h1, numsRead_decB _ h]
  rcases kinds_or k with rfl | rfl | rfl | rfl | rfl | rfl | rfl | h'
  · exact absurd rfl h1
  · show buildOp 2 false (i :: (List.range m).map Z) = _
    unfold buildOp
    rw [if_neg (by rintro (e | e); simp [need] at e; exact e.2.1 rfl)]
    rfl
  · rfl
  · show buildOp 4 false (i :: c :: n :: (List.range m).map Z) = _
    unfold buildOp
    rw [if_neg (by rintro (e | e); simp [need] at e; omega; exact e.2.2 rfl)]
    rfl
  · rfl
  · rfl
  · rfl
  · exact absurd h' hk
end Go.Proofs.YtnaeabfmgfipoaaGreatDoor
