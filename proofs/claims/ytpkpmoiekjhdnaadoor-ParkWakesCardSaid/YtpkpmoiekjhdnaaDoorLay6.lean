/-
  What the walks of the stable sort ask of the program. No condition.
-/
import Derived.Test.YtpkpmoiekjhdnaaDoorBase5
import Derived.Shelf.SlSortCmp.KitK
import Derived.Sort.WalkB2
import Derived.Sort.WalkB12
import Derived.Deep.LoopGhost
namespace Go.Proofs.YtpkpmoiekjhdnaaDoor
open Go.Shelf Go.RowKit Go.Lib Go.Sort

/-- The five bodies, and the types that they name; an element has k cells. -/
structure SLy (P : Program) (k : Nat) : Prop where
  mixed : P.follows .mixedOrders = true
  fStable : P.funcs[38]? = some Tryd.f38
  fIns : P.funcs[45]? = some Tryd.f45
  fMerge : P.funcs[46]? = some Tryd.f46
  fRotate : P.funcs[48]? = some Tryd.f48
  fSwap : P.funcs[50]? = some Tryd.f50
  t0 : P.underlying 0 = some (TypeDesc.tuple #[])
  a0 : ∀ w, (isAgg 0).run P w = .ok false w
  z0 : ∀ w, (Go.sizeOf 0).run P w = .ok 1 w
  v0 : ∀ w, (zeroValue 0).run P w = .ok (Value.tuple #[]) w
  t3 : P.underlying 3 = some (TypeDesc.int IntKind.i64)
  a3 : ∀ w, (isAgg 3).run P w = .ok false w
  z3 : ∀ w, (Go.sizeOf 3).run P w = .ok 1 w
  v3 : ∀ w, (zeroValue 3).run P w = .ok (Value.int IntKind.i64 0) w
  t4 : P.underlying 4 = some (TypeDesc.bool)
  a4 : ∀ w, (isAgg 4).run P w = .ok false w
  z4 : ∀ w, (Go.sizeOf 4).run P w = .ok 1 w
  v4 : ∀ w, (zeroValue 4).run P w = .ok (Value.bool false) w
  t54 : P.underlying 79 = some (TypeDesc.int IntKind.u64)
  a54 : ∀ w, (isAgg 79).run P w = .ok false w
  z54 : ∀ w, (Go.sizeOf 79).run P w = .ok 1 w
  v54 : ∀ w, (zeroValue 79).run P w = .ok (Value.int IntKind.u64 0) w
  t22 : P.underlying 27 = some (TypeDesc.slice 35)
  a22 : ∀ w, (isAgg 27).run P w = .ok false w
  z22 : ∀ w, (Go.sizeOf 27).run P w = .ok 1 w
  v22 : ∀ w, (zeroValue 27).run P w = .ok (Value.slice none 0 0) w
  t25 : P.underlying 70 = some (TypeDesc.func #[35, 35] #[3] false)
  a25 : ∀ w, (isAgg 70).run P w = .ok false w
  z25 : ∀ w, (Go.sizeOf 70).run P w = .ok 1 w
  v25 : ∀ w, (zeroValue 70).run P w = .ok (Value.nilFunc) w
  aE : ∀ w, (isAgg 35).run P w = .ok true w
  zE : ∀ w, (Go.sizeOf 35).run P w = .ok k w
theorem Tryd.sly : SLy Tryd.prog 9 where
  mixed := by kernel_rfl
  fStable := Tryd.func38
  fIns := Tryd.func45
  fMerge := Tryd.func46
  fRotate := Tryd.func48
  fSwap := Tryd.func50
  t0 := Tryd.underlying0
  a0 := Tryd.isAgg0
  z0 := Tryd.sizeOf0
  v0 := Tryd.zeroValue0
  t3 := Tryd.underlying3
  a3 := Tryd.isAgg3
  z3 := Tryd.sizeOf3
  v3 := Tryd.zeroValue3
  t4 := Tryd.underlying4
  a4 := Tryd.isAgg4
  z4 := Tryd.sizeOf4
  v4 := Tryd.zeroValue4
  t54 := Tryd.underlying79
  a54 := Tryd.isAgg79
  z54 := Tryd.sizeOf79
  v54 := Tryd.zeroValue79
  t22 := Tryd.underlying27
  a22 := Tryd.isAgg27
  z22 := Tryd.sizeOf27
  v22 := Tryd.zeroValue27
  t25 := Tryd.underlying70
  a25 := Tryd.isAgg70
  z25 := Tryd.sizeOf70
  v25 := Tryd.zeroValue70
  aE := Tryd.isAgg35
  zE := Tryd.sizeOf35
/-- The insertion sort's own structure, over this program. -/
def insRen : Ren := ⟨fun n => if n = 20 then 45 else n, fun n => if n = 0 then 0 else if n = 3 then 3 else if n = 4 then 4 else if n = 22 then 27 else if n = 24 then 35 else if n = 25 then 70 else n, fun n => n⟩
theorem Tryd.ins : SlLaysF0.n20 Tryd.prog insRen where
  mixed := by kernel_rfl
  f20 := ⟨"slices.insertionSortCmpFunc[hammock/api.Pod]", by decide, by kernel_rfl⟩
  t0 := Tryd.underlying0
  a0 := Tryd.isAgg0
  z0 := Tryd.sizeOf0
  v0 := Tryd.zeroValue0
  t3 := Tryd.underlying3
  a3 := Tryd.isAgg3
  z3 := Tryd.sizeOf3
  v3 := Tryd.zeroValue3
  t4 := Tryd.underlying4
  a4 := Tryd.isAgg4
  z4 := Tryd.sizeOf4
  v4 := Tryd.zeroValue4
  t22 := Tryd.underlying27
  a22 := Tryd.isAgg27
  z22 := Tryd.sizeOf27
  v22 := Tryd.zeroValue27
  t25 := Tryd.underlying70
  a25 := Tryd.isAgg70
  z25 := Tryd.sizeOf70
  v25 := Tryd.zeroValue70
end Go.Proofs.YtpkpmoiekjhdnaaDoor
