/-
  errors.As at the targets *api.Code, *api.Fault and **fault.located: what errors.as answers; nil. Condition: errors.errorType holds the handle of the type 'error'.
-/
import Derived.Test.YtellekfpkdnioaaDoorAsMore
namespace Go.Proofs.YtellekfpkdnioaaDoor
open Go.RowKit Go.Extern.Stop Go.Stop Go.Extern

/-- The variable errors.errorType holds its own. -/
def ErrT (w : World) : Prop := w.cell? ⟨0, 0, none⟩ = some (.iface 86 (.agg #[.pointer (some ⟨6, 27, none⟩)]))
theorem ErrT.keep {w w' : World} (h : ErrT w) (k : Keep w w') : ErrT w' := k.cell h
theorem As_nil (t : Value) (w : World) : Calls Tryd.prog 16 #[.nilIface, t] w fun e w' => e = .returned (.bool false) ∧ w = w' := by
  go_enter Tryd.func16, Tryd.ntmps16
  go_wp2
  go_ret
  exact ⟨rfl, rfl⟩

set_option maxRecDepth 100000 in
set_option maxHeartbeats 4000000 in
theorem As_Code (tv : TypeId) (xv : Value) (t : Addr) (w : World) (b : Bool) (R : World → Prop) (hg : ErrT w)
    (h : ∀ w1 a, Keep w w1 → w1.cell? a = some (.pointer (some t)) → Calls Tryd.prog 32 #[.iface tv xv, .iface 83 (.pointer (some t)), .agg #[.pointer (some ⟨6, 83, none⟩), .pointer (some a), .int .u64 150], .iface 86 (.agg #[.pointer (some ⟨6, 29, none⟩)])] w1
      fun e w' => e = .returned (.bool b) ∧ R w') :
    Calls Tryd.prog 16 #[.iface tv xv, .iface 83 (.pointer (some t))] w fun e w' => e = .returned (.bool b) ∧ R w' := by
  have h6 := @run_callFunc_extern Tryd.prog 29 _ (fun args => ReflectliteValue.unpack (args.getD 0 (.tuple #[]))) Tryd.func29 (by kernel_rfl) (by kernel_rfl) (by kernel_rfl) (by kernel_rfl)
  have h7 := @run_callFunc_extern Tryd.prog 30 _ (ReflectliteValue.methodAny (ReflectliteValue.valueError "reflectlite.Value.Type" 0) (fun t _ _ _ => ReflectliteType.toType t)) Tryd.func30 (by kernel_rfl) (by kernel_rfl) (by kernel_rfl) (by kernel_rfl)
  have h8 := @run_callFunc_extern Tryd.prog 31 _ (ReflectliteValue.method (ReflectliteValue.valueError "reflectlite.Value.IsNil" 0) ReflectliteValue.isNil) Tryd.func31 (by kernel_rfl) (by kernel_rfl) (by kernel_rfl) (by kernel_rfl)
  have h27 := @run_callFunc_extern Tryd.prog 54 _ (ReflectliteType.abiMethod fun t => do pure (.int .u8 (← Rtype.kind t))) Tryd.func54 (by kernel_rfl) (by kernel_rfl) (by kernel_rfl) (by kernel_rfl)
  have h37 := @run_callFunc_extern Tryd.prog 88 _ (ReflectliteType.method ReflectliteType.elem) Tryd.func88 (by kernel_rfl) (by kernel_rfl) (by kernel_rfl) (by kernel_rfl)
  have h38 := @run_callFunc_extern Tryd.prog 89 _ (ReflectliteType.relation "Implements" ReflectliteType.implements_) Tryd.func89 (by kernel_rfl) (by kernel_rfl) (by kernel_rfl) (by kernel_rfl)
  have f6 := Tryd.rUnpackPCode
  have f7 := Tryd.rTypePCode
  have mK := Tryd.rMethodKind
  have mE := Tryd.rMethodElem
  have mI := Tryd.rMethodImplements
  have k27 := Tryd.rKindPCode
  have k25 := Tryd.rKindCode
  have e27 := Tryd.rElemPCode
  have i25 := Tryd.rImplCode
  have n8 := Tryd.rIsNilPCode ⟨w.heap.size, 0, none⟩ t ((w.alloc (.cells #[.pointer (some t)] 83)).alloc (.cells #[.pointer (some ⟨6, 83, none⟩), .pointer (some ⟨w.heap.size, 0, none⟩), .int .u64 150] 63)) (by rw [World.cell?_alloc_lt _ _ ⟨w.heap.size, 0, none⟩ (by simp)]; simp)
  have hkk : Keep w ((w.alloc (.cells #[.pointer (some t)] 83)).alloc (.cells #[.pointer (some ⟨6, 83, none⟩), .pointer (some ⟨w.heap.size, 0, none⟩), .int .u64 150] 63)) := (Keep.one w _).trans (Keep.one _ _)
  have hg2 : ((w.alloc (.cells #[.pointer (some t)] 83)).alloc (.cells #[.pointer (some ⟨6, 83, none⟩), .pointer (some ⟨w.heap.size, 0, none⟩), .int .u64 150] 63)).cell? ⟨0, 0, none⟩ = some (.iface 86 (.agg #[.pointer (some ⟨6, 27, none⟩)])) := hg.keep hkk
  have hc := h ((w.alloc (.cells #[.pointer (some t)] 83)).alloc (.cells #[.pointer (some ⟨6, 83, none⟩), .pointer (some ⟨w.heap.size, 0, none⟩), .int .u64 150] 63)) ⟨w.heap.size, 0, none⟩ hkk (by rw [World.cell?_alloc_lt _ _ ⟨w.heap.size, 0, none⟩ (by simp)]; simp)
  have hc := Lib.hid hc
  clear h hg hkk
  go_enter Tryd.func16, Tryd.ntmps16
  go_wp2_with (go_at_call 32; refine hc.out.mono ?_; rintro e w' ⟨rfl, hr⟩)
  go_ret
  exact ⟨rfl, hr⟩

set_option maxRecDepth 100000 in
set_option maxHeartbeats 4000000 in
theorem As_Fault (tv : TypeId) (xv : Value) (t : Addr) (w : World) (b : Bool) (R : World → Prop) (hg : ErrT w)
    (h : ∀ w1 a, Keep w w1 → w1.cell? a = some (.pointer (some t)) → Calls Tryd.prog 32 #[.iface tv xv, .iface 42 (.pointer (some t)), .agg #[.pointer (some ⟨6, 42, none⟩), .pointer (some a), .int .u64 150], .iface 86 (.agg #[.pointer (some ⟨6, 40, none⟩)])] w1
      fun e w' => e = .returned (.bool b) ∧ R w') :
    Calls Tryd.prog 16 #[.iface tv xv, .iface 42 (.pointer (some t))] w fun e w' => e = .returned (.bool b) ∧ R w' := by
  have h6 := @run_callFunc_extern Tryd.prog 29 _ (fun args => ReflectliteValue.unpack (args.getD 0 (.tuple #[]))) Tryd.func29 (by kernel_rfl) (by kernel_rfl) (by kernel_rfl) (by kernel_rfl)
  have h7 := @run_callFunc_extern Tryd.prog 30 _ (ReflectliteValue.methodAny (ReflectliteValue.valueError "reflectlite.Value.Type" 0) (fun t _ _ _ => ReflectliteType.toType t)) Tryd.func30 (by kernel_rfl) (by kernel_rfl) (by kernel_rfl) (by kernel_rfl)
  have h8 := @run_callFunc_extern Tryd.prog 31 _ (ReflectliteValue.method (ReflectliteValue.valueError "reflectlite.Value.IsNil" 0) ReflectliteValue.isNil) Tryd.func31 (by kernel_rfl) (by kernel_rfl) (by kernel_rfl) (by kernel_rfl)
  have h27 := @run_callFunc_extern Tryd.prog 54 _ (ReflectliteType.abiMethod fun t => do pure (.int .u8 (← Rtype.kind t))) Tryd.func54 (by kernel_rfl) (by kernel_rfl) (by kernel_rfl) (by kernel_rfl)
  have h37 := @run_callFunc_extern Tryd.prog 88 _ (ReflectliteType.method ReflectliteType.elem) Tryd.func88 (by kernel_rfl) (by kernel_rfl) (by kernel_rfl) (by kernel_rfl)
  have h38 := @run_callFunc_extern Tryd.prog 89 _ (ReflectliteType.relation "Implements" ReflectliteType.implements_) Tryd.func89 (by kernel_rfl) (by kernel_rfl) (by kernel_rfl) (by kernel_rfl)
  have f6 := Tryd.rUnpackPFault
  have f7 := Tryd.rTypePFault
  have mK := Tryd.rMethodKind
  have mE := Tryd.rMethodElem
  have mI := Tryd.rMethodImplements
  have k27 := Tryd.rKindPFault
  have k25 := Tryd.rKindFault
  have e27 := Tryd.rElemPFault
  have i25 := Tryd.rImplFault
  have n8 := Tryd.rIsNilPFault ⟨w.heap.size, 0, none⟩ t ((w.alloc (.cells #[.pointer (some t)] 42)).alloc (.cells #[.pointer (some ⟨6, 42, none⟩), .pointer (some ⟨w.heap.size, 0, none⟩), .int .u64 150] 63)) (by rw [World.cell?_alloc_lt _ _ ⟨w.heap.size, 0, none⟩ (by simp)]; simp)
  have hkk : Keep w ((w.alloc (.cells #[.pointer (some t)] 42)).alloc (.cells #[.pointer (some ⟨6, 42, none⟩), .pointer (some ⟨w.heap.size, 0, none⟩), .int .u64 150] 63)) := (Keep.one w _).trans (Keep.one _ _)
  have hg2 : ((w.alloc (.cells #[.pointer (some t)] 42)).alloc (.cells #[.pointer (some ⟨6, 42, none⟩), .pointer (some ⟨w.heap.size, 0, none⟩), .int .u64 150] 63)).cell? ⟨0, 0, none⟩ = some (.iface 86 (.agg #[.pointer (some ⟨6, 27, none⟩)])) := hg.keep hkk
  have hc := h ((w.alloc (.cells #[.pointer (some t)] 42)).alloc (.cells #[.pointer (some ⟨6, 42, none⟩), .pointer (some ⟨w.heap.size, 0, none⟩), .int .u64 150] 63)) ⟨w.heap.size, 0, none⟩ hkk (by rw [World.cell?_alloc_lt _ _ ⟨w.heap.size, 0, none⟩ (by simp)]; simp)
  have hc := Lib.hid hc
  clear h hg hkk
  go_enter Tryd.func16, Tryd.ntmps16
  go_wp2_with (go_at_call 32; refine hc.out.mono ?_; rintro e w' ⟨rfl, hr⟩)
  go_ret
  exact ⟨rfl, hr⟩

set_option maxRecDepth 100000 in
set_option maxHeartbeats 4000000 in
theorem As_Loc (tv : TypeId) (xv : Value) (t : Addr) (w : World) (b : Bool) (R : World → Prop) (hg : ErrT w)
    (h : ∀ w1 a, Keep w w1 → w1.cell? a = some (.pointer (some t)) → Calls Tryd.prog 32 #[.iface tv xv, .iface 84 (.pointer (some t)), .agg #[.pointer (some ⟨6, 84, none⟩), .pointer (some a), .int .u64 150], .iface 86 (.agg #[.pointer (some ⟨6, 55, none⟩)])] w1
      fun e w' => e = .returned (.bool b) ∧ R w') :
    Calls Tryd.prog 16 #[.iface tv xv, .iface 84 (.pointer (some t))] w fun e w' => e = .returned (.bool b) ∧ R w' := by
  have h6 := @run_callFunc_extern Tryd.prog 29 _ (fun args => ReflectliteValue.unpack (args.getD 0 (.tuple #[]))) Tryd.func29 (by kernel_rfl) (by kernel_rfl) (by kernel_rfl) (by kernel_rfl)
  have h7 := @run_callFunc_extern Tryd.prog 30 _ (ReflectliteValue.methodAny (ReflectliteValue.valueError "reflectlite.Value.Type" 0) (fun t _ _ _ => ReflectliteType.toType t)) Tryd.func30 (by kernel_rfl) (by kernel_rfl) (by kernel_rfl) (by kernel_rfl)
  have h8 := @run_callFunc_extern Tryd.prog 31 _ (ReflectliteValue.method (ReflectliteValue.valueError "reflectlite.Value.IsNil" 0) ReflectliteValue.isNil) Tryd.func31 (by kernel_rfl) (by kernel_rfl) (by kernel_rfl) (by kernel_rfl)
  have h27 := @run_callFunc_extern Tryd.prog 54 _ (ReflectliteType.abiMethod fun t => do pure (.int .u8 (← Rtype.kind t))) Tryd.func54 (by kernel_rfl) (by kernel_rfl) (by kernel_rfl) (by kernel_rfl)
  have h37 := @run_callFunc_extern Tryd.prog 88 _ (ReflectliteType.method ReflectliteType.elem) Tryd.func88 (by kernel_rfl) (by kernel_rfl) (by kernel_rfl) (by kernel_rfl)
  have h38 := @run_callFunc_extern Tryd.prog 89 _ (ReflectliteType.relation "Implements" ReflectliteType.implements_) Tryd.func89 (by kernel_rfl) (by kernel_rfl) (by kernel_rfl) (by kernel_rfl)
  have f6 := Tryd.rUnpackPLoc
  have f7 := Tryd.rTypePLoc
  have mK := Tryd.rMethodKind
  have mE := Tryd.rMethodElem
  have mI := Tryd.rMethodImplements
  have k27 := Tryd.rKindPLoc
  have k25 := Tryd.rKindLoc
  have e27 := Tryd.rElemPLoc
  have i25 := Tryd.rImplLoc
  have n8 := Tryd.rIsNilPLoc ⟨w.heap.size, 0, none⟩ t ((w.alloc (.cells #[.pointer (some t)] 84)).alloc (.cells #[.pointer (some ⟨6, 84, none⟩), .pointer (some ⟨w.heap.size, 0, none⟩), .int .u64 150] 63)) (by rw [World.cell?_alloc_lt _ _ ⟨w.heap.size, 0, none⟩ (by simp)]; simp)
  have hkk : Keep w ((w.alloc (.cells #[.pointer (some t)] 84)).alloc (.cells #[.pointer (some ⟨6, 84, none⟩), .pointer (some ⟨w.heap.size, 0, none⟩), .int .u64 150] 63)) := (Keep.one w _).trans (Keep.one _ _)
  have hg2 : ((w.alloc (.cells #[.pointer (some t)] 84)).alloc (.cells #[.pointer (some ⟨6, 84, none⟩), .pointer (some ⟨w.heap.size, 0, none⟩), .int .u64 150] 63)).cell? ⟨0, 0, none⟩ = some (.iface 86 (.agg #[.pointer (some ⟨6, 27, none⟩)])) := hg.keep hkk
  have hc := h ((w.alloc (.cells #[.pointer (some t)] 84)).alloc (.cells #[.pointer (some ⟨6, 84, none⟩), .pointer (some ⟨w.heap.size, 0, none⟩), .int .u64 150] 63)) ⟨w.heap.size, 0, none⟩ hkk (by rw [World.cell?_alloc_lt _ _ ⟨w.heap.size, 0, none⟩ (by simp)]; simp)
  have hc := Lib.hid hc
  clear h hg hkk
  go_enter Tryd.func16, Tryd.ntmps16
  go_wp2_with (go_at_call 32; refine hc.out.mono ?_; rintro e w' ⟨rfl, hr⟩)
  go_ret
  exact ⟨rfl, hr⟩

end Go.Proofs.YtellekfpkdnioaaDoor
