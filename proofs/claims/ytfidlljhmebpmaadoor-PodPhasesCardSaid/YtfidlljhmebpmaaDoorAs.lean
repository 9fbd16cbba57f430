/-
  errors.As at the targets *api.Code, *api.Fault and **fault.located: what errors.as answers; nil. Condition: errors.errorType holds the handle of the type 'error'.
-/
import Derived.Test.YtfidlljhmebpmaaDoorAsMore
namespace Go.Proofs.YtfidlljhmebpmaaDoor
open Go.RowKit Go.Extern.Stop Go.Stop Go.Extern

/-- The variable errors.errorType holds its own. -/
def ErrT (w : World) : Prop := w.cell? ⟨0, 0, none⟩ = some (.iface 115 (.agg #[.pointer (some ⟨1, 48, none⟩)]))
theorem ErrT.keep {w w' : World} (h : ErrT w) (k : Keep w w') : ErrT w' := k.cell h
theorem As_nil (t : Value) (w : World) : Calls Tryd.prog 57 #[.nilIface, t] w fun e w' => e = .returned (.bool false) ∧ w = w' := by
  go_enter Tryd.func57, Tryd.ntmps57
  go_wp2
  go_ret
  exact ⟨rfl, rfl⟩

set_option maxRecDepth 100000 in
set_option maxHeartbeats 4000000 in
theorem As_Code (tv : TypeId) (xv : Value) (t : Addr) (w : World) (b : Bool) (R : World → Prop) (hg : ErrT w)
    (h : ∀ w1 a, Keep w w1 → w1.cell? a = some (.pointer (some t)) → Calls Tryd.prog 62 #[.iface tv xv, .iface 101 (.pointer (some t)), .agg #[.pointer (some ⟨1, 101, none⟩), .pointer (some a), .int .u64 150], .iface 115 (.agg #[.pointer (some ⟨1, 77, none⟩)])] w1
      fun e w' => e = .returned (.bool b) ∧ R w') :
    Calls Tryd.prog 57 #[.iface tv xv, .iface 101 (.pointer (some t))] w fun e w' => e = .returned (.bool b) ∧ R w' := by
  have h6 := @run_callFunc_extern Tryd.prog 59 _ (fun args => ReflectliteValue.unpack (args.getD 0 (.tuple #[]))) Tryd.func59 (by kernel_rfl) (by kernel_rfl) (by kernel_rfl) (by kernel_rfl)
  have h7 := @run_callFunc_extern Tryd.prog 60 _ (ReflectliteValue.methodAny (ReflectliteValue.valueError "reflectlite.Value.Type" 0) (fun t _ _ _ => ReflectliteType.toType t)) Tryd.func60 (by kernel_rfl) (by kernel_rfl) (by kernel_rfl) (by kernel_rfl)
  have h8 := @run_callFunc_extern Tryd.prog 61 _ (ReflectliteValue.method (ReflectliteValue.valueError "reflectlite.Value.IsNil" 0) ReflectliteValue.isNil) Tryd.func61 (by kernel_rfl) (by kernel_rfl) (by kernel_rfl) (by kernel_rfl)
  have h27 := @run_callFunc_extern Tryd.prog 80 _ (ReflectliteType.abiMethod fun t => do pure (.int .u8 (← Rtype.kind t))) Tryd.func80 (by kernel_rfl) (by kernel_rfl) (by kernel_rfl) (by kernel_rfl)
  have h37 := @run_callFunc_extern Tryd.prog 93 _ (ReflectliteType.method ReflectliteType.elem) Tryd.func93 (by kernel_rfl) (by kernel_rfl) (by kernel_rfl) (by kernel_rfl)
  have h38 := @run_callFunc_extern Tryd.prog 94 _ (ReflectliteType.relation "Implements" ReflectliteType.implements_) Tryd.func94 (by kernel_rfl) (by kernel_rfl) (by kernel_rfl) (by kernel_rfl)
  have f6 := Tryd.rUnpackPCode
  have f7 := Tryd.rTypePCode
  have mK := Tryd.rMethodKind
  have mE := Tryd.rMethodElem
  have mI := Tryd.rMethodImplements
  have k27 := Tryd.rKindPCode
  have k25 := Tryd.rKindCode
  have e27 := Tryd.rElemPCode
  have i25 := Tryd.rImplCode
  have n8 := Tryd.rIsNilPCode ⟨w.heap.size, 0, none⟩ t ((w.alloc (.cells #[.pointer (some t)] 101)).alloc (.cells #[.pointer (some ⟨1, 101, none⟩), .pointer (some ⟨w.heap.size, 0, none⟩), .int .u64 150] 105)) (by rw [World.cell?_alloc_lt _ _ ⟨w.heap.size, 0, none⟩ (by simp)]; simp)
  have hkk : Keep w ((w.alloc (.cells #[.pointer (some t)] 101)).alloc (.cells #[.pointer (some ⟨1, 101, none⟩), .pointer (some ⟨w.heap.size, 0, none⟩), .int .u64 150] 105)) := (Keep.one w _).trans (Keep.one _ _)
  have hg2 : ((w.alloc (.cells #[.pointer (some t)] 101)).alloc (.cells #[.pointer (some ⟨1, 101, none⟩), .pointer (some ⟨w.heap.size, 0, none⟩), .int .u64 150] 105)).cell? ⟨0, 0, none⟩ = some (.iface 115 (.agg #[.pointer (some ⟨1, 48, none⟩)])) := hg.keep hkk
  have hc := h ((w.alloc (.cells #[.pointer (some t)] 101)).alloc (.cells #[.pointer (some ⟨1, 101, none⟩), .pointer (some ⟨w.heap.size, 0, none⟩), .int .u64 150] 105)) ⟨w.heap.size, 0, none⟩ hkk (by rw [World.cell?_alloc_lt _ _ ⟨w.heap.size, 0, none⟩ (by simp)]; simp)
  have hc := Lib.hid hc
  clear h hg hkk
  go_enter Tryd.func57, Tryd.ntmps57
  go_wp2_with (go_at_call 62; refine hc.out.mono ?_; rintro e w' ⟨rfl, hr⟩)
  go_ret
  exact ⟨rfl, hr⟩

set_option maxRecDepth 100000 in
set_option maxHeartbeats 4000000 in
theorem As_Fault (tv : TypeId) (xv : Value) (t : Addr) (w : World) (b : Bool) (R : World → Prop) (hg : ErrT w)
    (h : ∀ w1 a, Keep w w1 → w1.cell? a = some (.pointer (some t)) → Calls Tryd.prog 62 #[.iface tv xv, .iface 99 (.pointer (some t)), .agg #[.pointer (some ⟨1, 99, none⟩), .pointer (some a), .int .u64 150], .iface 115 (.agg #[.pointer (some ⟨1, 88, none⟩)])] w1
      fun e w' => e = .returned (.bool b) ∧ R w') :
    Calls Tryd.prog 57 #[.iface tv xv, .iface 99 (.pointer (some t))] w fun e w' => e = .returned (.bool b) ∧ R w' := by
  have h6 := @run_callFunc_extern Tryd.prog 59 _ (fun args => ReflectliteValue.unpack (args.getD 0 (.tuple #[]))) Tryd.func59 (by kernel_rfl) (by kernel_rfl) (by kernel_rfl) (by kernel_rfl)
  have h7 := @run_callFunc_extern Tryd.prog 60 _ (ReflectliteValue.methodAny (ReflectliteValue.valueError "reflectlite.Value.Type" 0) (fun t _ _ _ => ReflectliteType.toType t)) Tryd.func60 (by kernel_rfl) (by kernel_rfl) (by kernel_rfl) (by kernel_rfl)
  have h8 := @run_callFunc_extern Tryd.prog 61 _ (ReflectliteValue.method (ReflectliteValue.valueError "reflectlite.Value.IsNil" 0) ReflectliteValue.isNil) Tryd.func61 (by kernel_rfl) (by kernel_rfl) (by kernel_rfl) (by kernel_rfl)
  have h27 := @run_callFunc_extern Tryd.prog 80 _ (ReflectliteType.abiMethod fun t => do pure (.int .u8 (← Rtype.kind t))) Tryd.func80 (by kernel_rfl) (by kernel_rfl) (by kernel_rfl) (by kernel_rfl)
  have h37 := @run_callFunc_extern Tryd.prog 93 _ (ReflectliteType.method ReflectliteType.elem) Tryd.func93 (by kernel_rfl) (by kernel_rfl) (by kernel_rfl) (by kernel_rfl)
  have h38 := @run_callFunc_extern Tryd.prog 94 _ (ReflectliteType.relation "Implements" ReflectliteType.implements_) Tryd.func94 (by kernel_rfl) (by kernel_rfl) (by kernel_rfl) (by kernel_rfl)
  have f6 := Tryd.rUnpackPFault
  have f7 := Tryd.rTypePFault
  have mK := Tryd.rMethodKind
  have mE := Tryd.rMethodElem
  have mI := Tryd.rMethodImplements
  have k27 := Tryd.rKindPFault
  have k25 := Tryd.rKindFault
  have e27 := Tryd.rElemPFault
  have i25 := Tryd.rImplFault
  have n8 := Tryd.rIsNilPFault ⟨w.heap.size, 0, none⟩ t ((w.alloc (.cells #[.pointer (some t)] 99)).alloc (.cells #[.pointer (some ⟨1, 99, none⟩), .pointer (some ⟨w.heap.size, 0, none⟩), .int .u64 150] 105)) (by rw [World.cell?_alloc_lt _ _ ⟨w.heap.size, 0, none⟩ (by simp)]; simp)
  have hkk : Keep w ((w.alloc (.cells #[.pointer (some t)] 99)).alloc (.cells #[.pointer (some ⟨1, 99, none⟩), .pointer (some ⟨w.heap.size, 0, none⟩), .int .u64 150] 105)) := (Keep.one w _).trans (Keep.one _ _)
  have hg2 : ((w.alloc (.cells #[.pointer (some t)] 99)).alloc (.cells #[.pointer (some ⟨1, 99, none⟩), .pointer (some ⟨w.heap.size, 0, none⟩), .int .u64 150] 105)).cell? ⟨0, 0, none⟩ = some (.iface 115 (.agg #[.pointer (some ⟨1, 48, none⟩)])) := hg.keep hkk
  have hc := h ((w.alloc (.cells #[.pointer (some t)] 99)).alloc (.cells #[.pointer (some ⟨1, 99, none⟩), .pointer (some ⟨w.heap.size, 0, none⟩), .int .u64 150] 105)) ⟨w.heap.size, 0, none⟩ hkk (by rw [World.cell?_alloc_lt _ _ ⟨w.heap.size, 0, none⟩ (by simp)]; simp)
  have hc := Lib.hid hc
  clear h hg hkk
  go_enter Tryd.func57, Tryd.ntmps57
  go_wp2_with (go_at_call 62; refine hc.out.mono ?_; rintro e w' ⟨rfl, hr⟩)
  go_ret
  exact ⟨rfl, hr⟩

end Go.Proofs.YtfidlljhmebpmaaDoor
