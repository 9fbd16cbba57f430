/-
  What the walks of the stable sort ask of the program. No condition.
-/
import Derived.Test.YtmmpmpdjcmilkaaBase5
import Derived.Shelf.SlSortCmp.KitK
import Derived.Sort.WalkB2
import Derived.Sort.WalkB12
import Derived.Deep.LoopGhost
namespace Go.Proofs.Ytmmpmpdjcmilkaa
open Go.Shelf Go.RowKit Go.Lib Go.Sort

/-- The five bodies, and the types that they name; an element has k cells. -/
structure SLy (P : Program) (k : Nat) : Prop where
  mixed : P.follows .mixedOrders = true
  fStable : P.funcs[43]? = some Try.f43
  fIns : P.funcs[50]? = some Try.f50
  fMerge : P.funcs[51]? = some Try.f51
  fRotate : P.funcs[53]? = some Try.f53
  fSwap : P.funcs[55]? = some Try.f55
  t0 : P.underlying 0 = some (TypeDesc.tuple #[])
  a0 : ∀ w, (isAgg 0).run P w = .ok false w
  z0 : ∀ w, (Go.sizeOf 0).run P w = .ok 1 w
  v0 : ∀ w, (zeroValue 0).run P w = .ok (Value.tuple #[]) w
  t3 : P.underlying 3 = some (TypeDesc.int IntKind.i64)
  a3 : ∀ w, (isAgg 3).run P w = .ok false w
  z3 : ∀ w, (Go.sizeOf 3).run P w = .ok 1 w
  v3 : ∀ w, (zeroValue 3).run P w = .ok (Value.int IntKind.i64 0) w
  t4 : P.underlying 4 = some (TypeDesc.bool)
  a4 : ∀ w, (isAgg 4).run P w = .ok false w
  z4 : ∀ w, (Go.sizeOf 4).run P w = .ok 1 w
  v4 : ∀ w, (zeroValue 4).run P w = .ok (Value.bool false) w
  t54 : P.underlying 84 = some (TypeDesc.int IntKind.u64)
  a54 : ∀ w, (isAgg 84).run P w = .ok false w
  z54 : ∀ w, (Go.sizeOf 84).run P w = .ok 1 w
  v54 : ∀ w, (zeroValue 84).run P w = .ok (Value.int IntKind.u64 0) w
  t22 : P.underlying 27 = some (TypeDesc.slice 32)
  a22 : ∀ w, (isAgg 27).run P w = .ok false w
  z22 : ∀ w, (Go.sizeOf 27).run P w = .ok 1 w
  v22 : ∀ w, (zeroValue 27).run P w = .ok (Value.slice none 0 0) w
  t25 : P.underlying 65 = some (TypeDesc.func #[32, 32] #[3] false)
  a25 : ∀ w, (isAgg 65).run P w = .ok false w
  z25 : ∀ w, (Go.sizeOf 65).run P w = .ok 1 w
  v25 : ∀ w, (zeroValue 65).run P w = .ok (Value.nilFunc) w
  aE : ∀ w, (isAgg 32).run P w = .ok true w
  zE : ∀ w, (Go.sizeOf 32).run P w = .ok k w
theorem Try.sly : SLy Try.prog 9 where
  mixed := by kernel_rfl
  fStable := Try.func43
  fIns := Try.func50
  fMerge := Try.func51
  fRotate := Try.func53
  fSwap := Try.func55
  t0 := Try.underlying0
  a0 := Try.isAgg0
  z0 := Try.sizeOf0
  v0 := Try.zeroValue0
  t3 := Try.underlying3
  a3 := Try.isAgg3
  z3 := Try.sizeOf3
  v3 := Try.zeroValue3
  t4 := Try.underlying4
  a4 := Try.isAgg4
  z4 := Try.sizeOf4
  v4 := Try.zeroValue4
  t54 := Try.underlying84
  a54 := Try.isAgg84
  z54 := Try.sizeOf84
  v54 := Try.zeroValue84
  t22 := Try.underlying27
  a22 := Try.isAgg27
  z22 := Try.sizeOf27
  v22 := Try.zeroValue27
  t25 := Try.underlying65
  a25 := Try.isAgg65
  z25 := Try.sizeOf65
  v25 := Try.zeroValue65
  aE := Try.isAgg32
  zE := Try.sizeOf32
/-- The insertion sort's own structure, over this program. -/
def insRen : Ren := ⟨fun n => if n = 20 then 50 else n, fun n => if n = 0 then 0 else if n = 3 then 3 else if n = 4 then 4 else if n = 22 then 27 else if n = 24 then 32 else if n = 25 then 65 else n, fun n => n⟩
theorem Try.ins : SlLaysF0.n20 Try.prog insRen where
  mixed := by kernel_rfl
  f20 := ⟨"slices.insertionSortCmpFunc[hammock/api.Pod]", by decide, by kernel_rfl⟩
  t0 := Try.underlying0
  a0 := Try.isAgg0
  z0 := Try.sizeOf0
  v0 := Try.zeroValue0
  t3 := Try.underlying3
  a3 := Try.isAgg3
  z3 := Try.sizeOf3
  v3 := Try.zeroValue3
  t4 := Try.underlying4
  a4 := Try.isAgg4
  z4 := Try.sizeOf4
  v4 := Try.zeroValue4
  t22 := Try.underlying27
  a22 := Try.isAgg27
  z22 := Try.sizeOf27
  v22 := Try.zeroValue27
  t25 := Try.underlying65
  a25 := Try.isAgg65
  z25 := Try.sizeOf65
  v25 := Try.zeroValue65
end Go.Proofs.Ytmmpmpdjcmilkaa
