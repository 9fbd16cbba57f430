/-
  errors.as at the targets *api.Code, *api.Fault and **fault.located, for every chain: what is not found; a fault; the outermost located error. No condition but that the target's cells may be written.
-/
import Derived.Test.YtfidlljhmebpmaaDoorAsCode
import Derived.Test.YtfidlljhmebpmaaDoorSetFault
namespace Go.Proofs.YtfidlljhmebpmaaDoor
open Go.RowKit Go.Extern.Stop Go.Stop Go.Extern


def isText : Base → Prop
  | .text _ => True
  | _ => False
def noFault : Base → Prop
  | .fault _ _ => False
  | _ => True

set_option maxRecDepth 100000 in
set_option maxHeartbeats 4000000 in
theorem as_code_no (ks0 : List Int) (b0 : Base) (v0 : Value) (w : World) (a t : Addr) (hch : Chain w ks0 b0 v0) (hb0 : isText b0) :
    Calls Tryd.prog 62 #[v0, .iface 101 (.pointer (some t)), .agg #[.pointer (some ⟨1, 101, none⟩), .pointer (some a), .int .u64 150], .iface 115 (.agg #[.pointer (some ⟨1, 77, none⟩)])] w fun e w' => e = .returned (.bool false) ∧ Keep w w' := by
  have hT := @run_callFunc_extern Tryd.prog 63 _ ReflectliteType.typeOf Tryd.func63 (by kernel_rfl) (by kernel_rfl) (by kernel_rfl) (by kernel_rfl)
  have hA := @run_callFunc_extern Tryd.prog 91 _ (ReflectliteType.relation "AssignableTo" ReflectliteType.assignableTo) Tryd.func91 (by kernel_rfl) (by kernel_rfl) (by kernel_rfl) (by kernel_rfl)
  have mA := Tryd.rMethodAssignableTo
  have t4 := Tryd.rTypeOfErrS
  have a4 := Tryd.rAssignErrSToCode
  have n4 := Tryd.noAsText
  have u4 := Tryd.noUnText
  have v4 := Tryd.noUnsText
  replace hch := Lib.hid hch
  go_enter Tryd.func62, Tryd.ntmps62
  go_wp2
  go_loopg [0] (depth ks0 b0) (fun g v wr => ∃ ks b, Chain w ks b v ∧ isText b ∧ g = depth ks b ∧ Keep w wr)
  case atStart => exact ⟨ks0, b0, hch.out, hb0, rfl, Keep.one _ _⟩
  case round =>
    obtain ⟨ks, b, hc1, hb, rfl, hk⟩ := hrel
    clear hb0
    rcases hc1.open with ⟨rfl, rfl⟩ | ⟨k, ks, o, v, rfl, rfl, h1, h2, hc2⟩
    · clear hc1
      have hk1 := Lib.hid hk
      clear hk
      cases b with
      | code x => exact absurd hb (by simp [isText])
      | fault x n => exact absurd hb (by simp [isText])
      | text x =>
        clear hb
        unfold Base.val
        go_wp2
        go_ret
        exact ⟨rfl, hk1.out⟩
    · exact h1.elim

set_option maxRecDepth 100000 in
set_option maxHeartbeats 4000000 in
theorem as_fault_no (ks0 : List Int) (b0 : Base) (v0 : Value) (w : World) (a t : Addr) (hch : Chain w ks0 b0 v0) (hb0 : noFault b0) :
    Calls Tryd.prog 62 #[v0, .iface 99 (.pointer (some t)), .agg #[.pointer (some ⟨1, 99, none⟩), .pointer (some a), .int .u64 150], .iface 115 (.agg #[.pointer (some ⟨1, 88, none⟩)])] w fun e w' => e = .returned (.bool false) ∧ Keep w w' := by
  have hT := @run_callFunc_extern Tryd.prog 63 _ ReflectliteType.typeOf Tryd.func63 (by kernel_rfl) (by kernel_rfl) (by kernel_rfl) (by kernel_rfl)
  have hA := @run_callFunc_extern Tryd.prog 91 _ (ReflectliteType.relation "AssignableTo" ReflectliteType.assignableTo) Tryd.func91 (by kernel_rfl) (by kernel_rfl) (by kernel_rfl) (by kernel_rfl)
  have mA := Tryd.rMethodAssignableTo
  have t1 := Tryd.rTypeOfCode
  have a1 := Tryd.rAssignCodeToFault
  have n3 := Tryd.noAsCode
  have u3 := Tryd.noUnCode
  have v3 := Tryd.noUnsCode
  have t4 := Tryd.rTypeOfErrS
  have a4 := Tryd.rAssignErrSToFault
  have n4 := Tryd.noAsText
  have u4 := Tryd.noUnText
  have v4 := Tryd.noUnsText
  replace hch := Lib.hid hch
  go_enter Tryd.func62, Tryd.ntmps62
  go_wp2
  go_loopg [0] (depth ks0 b0) (fun g v wr => ∃ ks b, Chain w ks b v ∧ noFault b ∧ g = depth ks b ∧ Keep w wr)
  case atStart => exact ⟨ks0, b0, hch.out, hb0, rfl, Keep.one _ _⟩
  case round =>
    obtain ⟨ks, b, hc1, hb, rfl, hk⟩ := hrel
    clear hb0
    rcases hc1.open with ⟨rfl, rfl⟩ | ⟨k, ks, o, v, rfl, rfl, h1, h2, hc2⟩
    · clear hc1
      have hk1 := Lib.hid hk
      clear hk
      cases b with
      | code x =>
        clear hb
        unfold Base.val
        go_wp2
        go_ret
        exact ⟨rfl, hk1.out⟩
      | fault x n => exact absurd hb (by simp [noFault])
      | text x =>
        clear hb
        unfold Base.val
        go_wp2
        go_ret
        exact ⟨rfl, hk1.out⟩
    · exact h1.elim

theorem Hit.of_keep2 {tb : Nat} {w wr : World} (h : Keep w wr) (ht : tb < w.heap.size) (o : Obj) (x y : Value) : Hit ⟨tb, 0, none⟩ w (((wr.alloc o).setCell ⟨tb, 0, none⟩ x).setCell ⟨tb, 0 + 1, none⟩ y) := by
  have hk := h.alloc o
  refine ⟨⟨hk.os, hk.tape, hk.output, ?_, fun k hk2 hne => ?_⟩, fun i => ?_⟩
  · have := hk.size; simpa [World.setCell] using this
  · rw [Below.heap_setCell _ _ _ _ (by intro e; apply hne; rw [e]), Below.heap_setCell _ _ _ _ (by intro e; apply hne; rw [e]), Below.block hk k hk2]
  · rw [World.frozen?_setCell, World.frozen?_setCell, Below.frozen hk (p := ⟨tb, i, none⟩) ht]

set_option maxRecDepth 100000 in
set_option maxHeartbeats 4000000 in
theorem as_fault_yes (x y : Int) (ks0 : List Int) (v0 : Value) (w : World) (a : Addr) (tb : Nat) (o1 o2 : Value) (hch : Chain w ks0 (.fault x y) v0)
    (ht : w.cell? ⟨tb, 0, none⟩ = some o1) (ht' : w.cell? ⟨tb, 0 + 1, none⟩ = some o2) (hf : w.frozen? ⟨tb, 0, none⟩ = false) (hf' : w.frozen? ⟨tb, 0 + 1, none⟩ = false) (ha : w.cell? a = some (.pointer (some ⟨tb, 0, none⟩))) :
    Calls Tryd.prog 62 #[v0, .iface 99 (.pointer (some ⟨tb, 0, none⟩)), .agg #[.pointer (some ⟨1, 99, none⟩), .pointer (some a), .int .u64 150], .iface 115 (.agg #[.pointer (some ⟨1, 88, none⟩)])] w fun e w' => e = .returned (.bool true) ∧ Hit ⟨tb, 0, none⟩ w w' ∧ w'.cell? ⟨tb, 0, none⟩ = some (.int .i64 x) ∧ w'.cell? ⟨tb, 0 + 1, none⟩ = some (.int .i64 y) := by
  have hT := @run_callFunc_extern Tryd.prog 63 _ ReflectliteType.typeOf Tryd.func63 (by kernel_rfl) (by kernel_rfl) (by kernel_rfl) (by kernel_rfl)
  have hA := @run_callFunc_extern Tryd.prog 91 _ (ReflectliteType.relation "AssignableTo" ReflectliteType.assignableTo) Tryd.func91 (by kernel_rfl) (by kernel_rfl) (by kernel_rfl) (by kernel_rfl)
  have mA := Tryd.rMethodAssignableTo
  have t2 := Tryd.rTypeOfFault
  have a2 := Tryd.rAssignFaultToFault
  have hv := @run_callFunc_extern Tryd.prog 59 _ (fun args => ReflectliteValue.unpack (args.getD 0 (.tuple #[]))) Tryd.func59 (by kernel_rfl) (by kernel_rfl) (by kernel_rfl) (by kernel_rfl)
  have hE := @run_callFunc_extern Tryd.prog 64 _ (ReflectliteValue.method (ReflectliteValue.valueError "reflectlite.Value.Elem" 0) ReflectliteValue.elem) Tryd.func64 (by kernel_rfl) (by kernel_rfl) (by kernel_rfl) (by kernel_rfl)
  have hS := @run_callFunc_extern Tryd.prog 65 _ ReflectliteValue.set Tryd.func65 (by kernel_rfl) (by kernel_rfl) (by kernel_rfl) (by kernel_rfl)
  have hvc := Tryd.rUnpackFault
  go_enter Tryd.func62, Tryd.ntmps62
  go_wp2
  go_loopg [0] ks0.length (fun g v wr => ∃ ks, Chain w ks (.fault x y) v ∧ g = ks.length ∧ Keep (w.alloc (.cells #[.pointer (some ⟨1, 99, none⟩), .pointer (some a), .int .u64 150] 105)) wr)
  case atStart => exact ⟨ks0, hch, rfl, Keep.refl _⟩
  case round =>
    obtain ⟨ks, hc1, rfl, hk⟩ := hrel
    have hk0 : Keep w wr := (Keep.one w _).trans hk
    have k0 := hk.cell (a := ⟨w.heap.size, 0, none⟩) (v := .pointer (some ⟨1, 99, none⟩)) (by simp)
    have k1 := hk.cell (a := ⟨w.heap.size, 0 + 1, none⟩) (v := .pointer (some a)) (by simp)
    have k2 := hk.cell (a := ⟨w.heap.size, 0 + 2, none⟩) (v := .int .u64 150) (by simp)
    have hE2 := Tryd.rElemVFault a ⟨tb, 0, none⟩ wr (hk0.cell ha)
    have hlt : tb < w.heap.size := cell_lt ht
    have hkw := hk0.trans (Keep.one wr (.cells #[.int .i64 x, .int .i64 y] 88))
    have hkt := hkw.cell ht
    have hkt' := hkw.cell ht'
    have hkf : (wr.alloc (.cells #[.int .i64 x, .int .i64 y] 88)).frozen? ⟨tb, 0, none⟩ = false := by rw [frozen_keep hkw hlt]; exact hf
    have hkf' : (wr.alloc (.cells #[.int .i64 x, .int .i64 y] 88)).frozen? ⟨tb, 0 + 1, none⟩ = false := by rw [frozen_keep hkw hlt]; exact hf'
    have hs2 := Tryd.rSetFault tb wr.heap.size x y o1 o2 (wr.alloc (.cells #[.int .i64 x, .int .i64 y] 88)) (by simp) (by simp) hkt hkt' hkf hkf'
    have hfin := Lib.hid (show (((wr.alloc (.cells #[.int .i64 x, .int .i64 y] 88)).setCell ⟨tb, 0, none⟩ (.int .i64 x)).setCell ⟨tb, 0 + 1, none⟩ (.int .i64 y)).cell? ⟨tb, 0, none⟩ = some (.int .i64 x) by
      rw [World.cell?_setCell_other (a := ⟨tb, 0 + 1, none⟩) (b := ⟨tb, 0, none⟩) (h := by simp)]; exact World.cell?_setCell_same _ _ _ (u := o1) hkt)
    have hfin' := Lib.hid (show (((wr.alloc (.cells #[.int .i64 x, .int .i64 y] 88)).setCell ⟨tb, 0, none⟩ (.int .i64 x)).setCell ⟨tb, 0 + 1, none⟩ (.int .i64 y)).cell? ⟨tb, 0 + 1, none⟩ = some (.int .i64 y) from
      World.cell?_setCell_same _ _ _ (u := o2) (by rw [World.cell?_setCell_other (a := ⟨tb, 0, none⟩) (b := ⟨tb, 0 + 1, none⟩) (h := by simp)]; exact hkt'))
    have hk1 := Lib.hid hk
    have hk2 := Lib.hid hk0
    have hlt0 := Lib.hid hlt
    clear hk0 hch ht hf ha hkt hkf hlt hkw hkt' hkf' ht' hf'
    rcases hc1.open with ⟨rfl, rfl⟩ | ⟨k, ks, o, v, rfl, rfl, h1, h2, hc2⟩
    · clear hk hc1
      unfold Base.val
      go_wp2
      go_ret
      exact ⟨rfl, Hit.of_keep2 hk2.out hlt0.out _ _ _, hfin.out, hfin'.out⟩
    · exact h1.elim

end Go.Proofs.YtfidlljhmebpmaaDoor
