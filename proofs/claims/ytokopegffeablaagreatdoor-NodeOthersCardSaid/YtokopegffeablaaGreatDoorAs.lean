/-
  errors.As at the targets *api.Code, *api.Fault and **fault.located: what errors.as answers; nil. Condition: errors.errorType holds the handle of the type 'error'.
-/
import Derived.Test.YtokopegffeablaaGreatDoorAsMore
namespace Go.Proofs.YtokopegffeablaaGreatDoor
open Go.RowKit Go.Extern.Stop Go.Stop Go.Extern

/-- The variable errors.errorType holds its own. -/
def ErrT (w : World) : Prop := w.cell? ⟨0, 0, none⟩ = some (.iface 143 (.agg #[.pointer (some ⟨1, 50, none⟩)]))
theorem ErrT.keep {w w' : World} (h : ErrT w) (k : Keep w w') : ErrT w' := k.cell h
theorem As_nil (t : Value) (w : World) : Calls Tryz.prog 63 #[.nilIface, t] w fun e w' => e = .returned (.bool false) ∧ w = w' := by
  go_enter Tryz.func63, Tryz.ntmps63
  go_wp2
  go_ret
  exact ⟨rfl, rfl⟩

set_option maxRecDepth 100000 in
set_option maxHeartbeats 4000000 in
theorem As_Code (tv : TypeId) (xv : Value) (t : Addr) (w : World) (b : Bool) (R : World → Prop) (hg : ErrT w)
    (h : ∀ w1 a, Keep w w1 → w1.cell? a = some (.pointer (some t)) → Calls Tryz.prog 80 #[.iface tv xv, .iface 108 (.pointer (some t)), .agg #[.pointer (some ⟨1, 108, none⟩), .pointer (some a), .int .u64 150], .iface 143 (.agg #[.pointer (some ⟨1, 73, none⟩)])] w1
      fun e w' => e = .returned (.bool b) ∧ R w') :
    Calls Tryz.prog 63 #[.iface tv xv, .iface 108 (.pointer (some t))] w fun e w' => e = .returned (.bool b) ∧ R w' := by
  have h6 := @run_callFunc_extern Tryz.prog 77 _ (fun args => ReflectliteValue.unpack (args.getD 0 (.tuple #[]))) Tryz.func77 (by kernel_rfl) (by kernel_rfl) (by kernel_rfl) (by kernel_rfl)
  have h7 := @run_callFunc_extern Tryz.prog 78 _ (ReflectliteValue.methodAny (ReflectliteValue.valueError "reflectlite.Value.Type" 0) (fun t _ _ _ => ReflectliteType.toType t)) Tryz.func78 (by kernel_rfl) (by kernel_rfl) (by kernel_rfl) (by kernel_rfl)
  have h8 := @run_callFunc_extern Tryz.prog 79 _ (ReflectliteValue.method (ReflectliteValue.valueError "reflectlite.Value.IsNil" 0) ReflectliteValue.isNil) Tryz.func79 (by kernel_rfl) (by kernel_rfl) (by kernel_rfl) (by kernel_rfl)
  have h27 := @run_callFunc_extern Tryz.prog 105 _ (ReflectliteType.abiMethod fun t => do pure (.int .u8 (← Rtype.kind t))) Tryz.func105 (by kernel_rfl) (by kernel_rfl) (by kernel_rfl) (by kernel_rfl)
  have h37 := @run_callFunc_extern Tryz.prog 117 _ (ReflectliteType.method ReflectliteType.elem) Tryz.func117 (by kernel_rfl) (by kernel_rfl) (by kernel_rfl) (by kernel_rfl)
  have h38 := @run_callFunc_extern Tryz.prog 118 _ (ReflectliteType.relation "Implements" ReflectliteType.implements_) Tryz.func118 (by kernel_rfl) (by kernel_rfl) (by kernel_rfl) (by kernel_rfl)
  have f6 := Tryz.rUnpackPCode
  have f7 := Tryz.rTypePCode
  have mK := Tryz.rMethodKind
  have mE := Tryz.rMethodElem
  have mI := Tryz.rMethodImplements
  have k27 := Tryz.rKindPCode
  have k25 := Tryz.rKindCode
  have e27 := Tryz.rElemPCode
  have i25 := Tryz.rImplCode
  have n8 := Tryz.rIsNilPCode ⟨w.heap.size, 0, none⟩ t ((w.alloc (.cells #[.pointer (some t)] 108)).alloc (.cells #[.pointer (some ⟨1, 108, none⟩), .pointer (some ⟨w.heap.size, 0, none⟩), .int .u64 150] 127)) (by rw [World.cell?_alloc_lt _ _ ⟨w.heap.size, 0, none⟩ (by simp)]; simp)
  have hkk : Keep w ((w.alloc (.cells #[.pointer (some t)] 108)).alloc (.cells #[.pointer (some ⟨1, 108, none⟩), .pointer (some ⟨w.heap.size, 0, none⟩), .int .u64 150] 127)) := (Keep.one w _).trans (Keep.one _ _)
  have hg2 : ((w.alloc (.cells #[.pointer (some t)] 108)).alloc (.cells #[.pointer (some ⟨1, 108, none⟩), .pointer (some ⟨w.heap.size, 0, none⟩), .int .u64 150] 127)).cell? ⟨0, 0, none⟩ = some (.iface 143 (.agg #[.pointer (some ⟨1, 50, none⟩)])) := hg.keep hkk
  have hc := h ((w.alloc (.cells #[.pointer (some t)] 108)).alloc (.cells #[.pointer (some ⟨1, 108, none⟩), .pointer (some ⟨w.heap.size, 0, none⟩), .int .u64 150] 127)) ⟨w.heap.size, 0, none⟩ hkk (by rw [World.cell?_alloc_lt _ _ ⟨w.heap.size, 0, none⟩ (by simp)]; simp)
  have hc := Lib.hid hc
  clear h hg hkk
  go_enter Tryz.func63, Tryz.ntmps63
  go_wp2_with (go_at_call 80; refine hc.out.mono ?_; rintro e w' ⟨rfl, hr⟩)
  go_ret
  exact ⟨rfl, hr⟩

set_option maxRecDepth 100000 in
set_option maxHeartbeats 4000000 in
theorem As_Fault (tv : TypeId) (xv : Value) (t : Addr) (w : World) (b : Bool) (R : World → Prop) (hg : ErrT w)
    (h : ∀ w1 a, Keep w w1 → w1.cell? a = some (.pointer (some t)) → Calls Tryz.prog 80 #[.iface tv xv, .iface 109 (.pointer (some t)), .agg #[.pointer (some ⟨1, 109, none⟩), .pointer (some a), .int .u64 150], .iface 143 (.agg #[.pointer (some ⟨1, 91, none⟩)])] w1
      fun e w' => e = .returned (.bool b) ∧ R w') :
    Calls Tryz.prog 63 #[.iface tv xv, .iface 109 (.pointer (some t))] w fun e w' => e = .returned (.bool b) ∧ R w' := by
  have h6 := @run_callFunc_extern Tryz.prog 77 _ (fun args => ReflectliteValue.unpack (args.getD 0 (.tuple #[]))) Tryz.func77 (by kernel_rfl) (by kernel_rfl) (by kernel_rfl) (by kernel_rfl)
  have h7 := @run_callFunc_extern Tryz.prog 78 _ (ReflectliteValue.methodAny (ReflectliteValue.valueError "reflectlite.Value.Type" 0) (fun t _ _ _ => ReflectliteType.toType t)) Tryz.func78 (by kernel_rfl) (by kernel_rfl) (by kernel_rfl) (by kernel_rfl)
  have h8 := @run_callFunc_extern Tryz.prog 79 _ (ReflectliteValue.method (ReflectliteValue.valueError "reflectlite.Value.IsNil" 0) ReflectliteValue.isNil) Tryz.func79 (by kernel_rfl) (by kernel_rfl) (by kernel_rfl) (by kernel_rfl)
  have h27 := @run_callFunc_extern Tryz.prog 105 _ (ReflectliteType.abiMethod fun t => do pure (.int .u8 (← Rtype.kind t))) Tryz.func105 (by kernel_rfl) (by kernel_rfl) (by kernel_rfl) (by kernel_rfl)
  have h37 := @run_callFunc_extern Tryz.prog 117 _ (ReflectliteType.method ReflectliteType.elem) Tryz.func117 (by kernel_rfl) (by kernel_rfl) (by kernel_rfl) (by kernel_rfl)
  have h38 := @run_callFunc_extern Tryz.prog 118 _ (ReflectliteType.relation "Implements" ReflectliteType.implements_) Tryz.func118 (by kernel_rfl) (by kernel_rfl) (by kernel_rfl) (by kernel_rfl)
  have f6 := Tryz.rUnpackPFault
  have f7 := Tryz.rTypePFault
  have mK := Tryz.rMethodKind
  have mE := Tryz.rMethodElem
  have mI := Tryz.rMethodImplements
  have k27 := Tryz.rKindPFault
  have k25 := Tryz.rKindFault
  have e27 := Tryz.rElemPFault
  have i25 := Tryz.rImplFault
  have n8 := Tryz.rIsNilPFault ⟨w.heap.size, 0, none⟩ t ((w.alloc (.cells #[.pointer (some t)] 109)).alloc (.cells #[.pointer (some ⟨1, 109, none⟩), .pointer (some ⟨w.heap.size, 0, none⟩), .int .u64 150] 127)) (by rw [World.cell?_alloc_lt _ _ ⟨w.heap.size, 0, none⟩ (by simp)]; simp)
  have hkk : Keep w ((w.alloc (.cells #[.pointer (some t)] 109)).alloc (.cells #[.pointer (some ⟨1, 109, none⟩), .pointer (some ⟨w.heap.size, 0, none⟩), .int .u64 150] 127)) := (Keep.one w _).trans (Keep.one _ _)
  have hg2 : ((w.alloc (.cells #[.pointer (some t)] 109)).alloc (.cells #[.pointer (some ⟨1, 109, none⟩), .pointer (some ⟨w.heap.size, 0, none⟩), .int .u64 150] 127)).cell? ⟨0, 0, none⟩ = some (.iface 143 (.agg #[.pointer (some ⟨1, 50, none⟩)])) := hg.keep hkk
  have hc := h ((w.alloc (.cells #[.pointer (some t)] 109)).alloc (.cells #[.pointer (some ⟨1, 109, none⟩), .pointer (some ⟨w.heap.size, 0, none⟩), .int .u64 150] 127)) ⟨w.heap.size, 0, none⟩ hkk (by rw [World.cell?_alloc_lt _ _ ⟨w.heap.size, 0, none⟩ (by simp)]; simp)
  have hc := Lib.hid hc
  clear h hg hkk
  go_enter Tryz.func63, Tryz.ntmps63
  go_wp2_with (go_at_call 80; refine hc.out.mono ?_; rintro e w' ⟨rfl, hr⟩)
  go_ret
  exact ⟨rfl, hr⟩

end Go.Proofs.YtokopegffeablaaGreatDoor
