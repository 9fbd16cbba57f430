/-
  Closed facts on the entries of internal/reflectlite at this program's types of errors and targets. No condition.
  Errors as values: chains of located errors round a base; what the assertions and the methods of errors answer. No condition.
  Slices of int64: how they read; the comparisons and the check of stage 1's functions in this cut. No condition.
  The reference's Decimal at every number. No condition but that the number is one of 64 bits.
  The reference's Number: what a word says. No condition.
  A number's own text reads as the number. No condition.
  Operations as values: the fields that are kept, the reference's and the program's; copies. Condition: at most 1048576 amounts.
  Copies of slices of int64. Condition: at most 1048576 elements.
  The reference's Words: the parts of a line between single spaces. Condition: at most 1048576 bytes.
  The words of a text to which a word was added. No condition but that the word holds no space.
  The reference's numbers of an operation. No condition.
  errors.as at the target *api.Code, for every chain. No condition but that the target is a cell that may be written.
  (Value).Set at the target *api.Fault: two cells. No condition.
-/
import Derived.Test.YtnaeabfmgfipoaaGreatDoorProg
import Derived.WalkKit
import Derived.LaidEql
import Derived.Stop.Asserts
import Derived.RowKitTokens
import Derived.WalkSpells
import Derived.WalkLawsBesides
import Derived.BigQuiet
import Derived.Deep.QuietTactic
import Derived.Deep.LoopGhost
import Derived.Deep.OwnRows
import Derived.Below
import Derived.Lib.Hide
import Derived.WideShapes
import Derived.Deep.AppendLies
import Derived.Deep.Draws
import Derived.Deep.RegionHeld3
import Derived.Laws.Concat
import Derived.Laws.DeepStrings4
import Derived.Laws.AppendOwnNone
import Derived.Laws.OwnMore
namespace Go.Proofs.YtnaeabfmgfipoaaGreatDoor
open Go.RowKit Go.Extern.Stop Go.Stop Go.Extern

theorem rlm (z : Sem Value) (f : TypeId → Addr → Nat → Nat → Sem Value) (v : Value) :
    ReflectliteValue.method z f #[v] = (do match ← ReflectliteValue.parts v with | none => z | some (t, a, fl) => f t a fl (fl % 32)) := rfl
theorem rls (v x : Value) : ReflectliteValue.set #[v, x] = (do
    let (some (dst, a, fl), some (src, b, _)) := (← ReflectliteValue.parts v, ← ReflectliteValue.parts x)
      | unsupported (.noEntry "extern/(internal/reflectlite.Value).Set.zeroValue")
    if fl / ReflectliteValue.flagAddr % 2 == 0 then unsupported (.noEntry "extern/(internal/reflectlite.Value).Set.unaddressable")
    let val ← loadVar src b
    if ← Rtype.directlyAssignable dst src then storeVar dst a val
    else if ← Rtype.implements dst src then
      if (← Rtype.kind src) == 20 then
        match val with
        | .nilIface => unsupported (.noEntry "extern/reflectlite: a nil value of one interface type handed on as a value of another")
        | _ => storeVar dst a val
      else storeVar dst a (.iface src val)
    else panicString ("reflectlite.Set: value of type " ++ (← Rtype.spelt src) ++ " is not assignable to type " ++ (← Rtype.spelt dst))
    pure (.tuple #[])) := rfl
theorem Tryz.rMethodElem (h : Value) (w : World) : (Go.method 292 140 (.agg #[h]) "Elem").run Tryz.prog w = .ok (135, .agg #[h]) w := by kernel_rfl
theorem Tryz.rMethodImplements (h : Value) (w : World) : (Go.method 292 140 (.agg #[h]) "Implements").run Tryz.prog w = .ok (136, .agg #[h]) w := by kernel_rfl
theorem Tryz.rMethodAssignableTo (h : Value) (w : World) : (Go.method 292 140 (.agg #[h]) "AssignableTo").run Tryz.prog w = .ok (133, .agg #[h]) w := by kernel_rfl
theorem Tryz.rMethodComparable (h : Value) (w : World) : (Go.method 292 140 (.agg #[h]) "Comparable").run Tryz.prog w = .ok (134, .agg #[h]) w := by kernel_rfl
theorem Tryz.rMethodKind (h : Value) (w : World) : (Go.method 292 140 (.agg #[h]) "Kind").run Tryz.prog w = .ok (119, h) w := by kernel_rfl

/-! ### Code as an error's own type -/
theorem Tryz.rTypeOfCode (v : Value) (w : World) : (ReflectliteType.typeOf #[.iface 58 v]).run Tryz.prog w = .ok (.iface 140 (.agg #[.pointer (some ⟨9, 58, none⟩)])) w := by kernel_rfl

/-! ### Fault as an error's own type -/
theorem Tryz.rTypeOfFault (v : Value) (w : World) : (ReflectliteType.typeOf #[.iface 89 v]).run Tryz.prog w = .ok (.iface 140 (.agg #[.pointer (some ⟨9, 89, none⟩)])) w := by kernel_rfl

/-! ### Loc as an error's own type -/
/-! ### ErrS as an error's own type -/
theorem Tryz.rTypeOfErrS (v : Value) (w : World) : (ReflectliteType.typeOf #[.iface 158 v]).run Tryz.prog w = .ok (.iface 140 (.agg #[.pointer (some ⟨9, 158, none⟩)])) w := by kernel_rfl

/-! ### Code as a target's element -/
theorem Tryz.rUnpackPCode (t : Addr) (w : World) : (ReflectliteValue.unpack (.iface 99 (.pointer (some t)))).run Tryz.prog w
    = .ok (.agg #[.pointer (some ⟨9, 99, none⟩), .pointer (some ⟨w.heap.size, 0, none⟩), .int .u64 150]) (w.alloc (.cells #[.pointer (some t)] 99)) := by kernel_rfl
theorem Tryz.rTypePCode (a : Addr) (w : World) : (ReflectliteValue.methodAny (ReflectliteValue.valueError "reflectlite.Value.Type" 0) (fun t _ _ _ => ReflectliteType.toType t) #[.agg #[.pointer (some ⟨9, 99, none⟩), .pointer (some a), .int .u64 150]]).run Tryz.prog w
    = .ok (.iface 140 (.agg #[.pointer (some ⟨9, 99, none⟩)])) w := by kernel_rfl
theorem Tryz.rKindPCode (w : World) : ((ReflectliteType.abiMethod fun t => (fun a : Nat => Value.int IntKind.u8 (a : Int)) <$> Rtype.kind t) #[.pointer (some ⟨9, 99, none⟩)]).run Tryz.prog w = .ok (.int .u8 22) w := by kernel_rfl
theorem Tryz.rKindCode (w : World) : ((ReflectliteType.abiMethod fun t => (fun a : Nat => Value.int IntKind.u8 (a : Int)) <$> Rtype.kind t) #[.pointer (some ⟨9, 58, none⟩)]).run Tryz.prog w = .ok (.int .u8 2) w := by kernel_rfl
theorem Tryz.rPartsPCode (a : Addr) (w : World) : (ReflectliteValue.parts (.agg #[.pointer (some ⟨9, 99, none⟩), .pointer (some a), .int .u64 150])).run Tryz.prog w = .ok (some (99, a, 150)) w := by kernel_rfl
theorem Tryz.rIsNilPCode (a p : Addr) (W : World) (ha : W.cell? a = some (.pointer (some p))) :
    (ReflectliteValue.method (ReflectliteValue.valueError "reflectlite.Value.IsNil" 0) ReflectliteValue.isNil #[.agg #[.pointer (some ⟨9, 99, none⟩), .pointer (some a), .int .u64 150]]).run Tryz.prog W = .ok (.bool false) W := by
  rw [rlm]
  simp only [Sem.run_bind, Tryz.rPartsPCode, Result.andThen]
  simp [ReflectliteValue.isNil, loadVar, isAgg, underlying, Tryz.underlying99, ha, Result.andThen]
theorem Tryz.rElemPCode (w : World) : (ReflectliteType.method ReflectliteType.elem #[.agg #[.pointer (some ⟨9, 99, none⟩)]]).run Tryz.prog w = .ok (.iface 140 (.agg #[.pointer (some ⟨9, 58, none⟩)])) w := by kernel_rfl
theorem Tryz.rImplCode (w : World) : (ReflectliteType.relation "Implements" ReflectliteType.implements_ #[.agg #[.pointer (some ⟨9, 58, none⟩)], .iface 140 (.agg #[.pointer (some ⟨9, 25, none⟩)])]).run Tryz.prog w = .ok (.bool true) w := by kernel_rfl
theorem Tryz.rUnpackCode (x : Int) (w : World) : (ReflectliteValue.unpack (.iface 58 (.int .i64 x))).run Tryz.prog w
    = .ok (.agg #[.pointer (some ⟨9, 58, none⟩), .pointer (some ⟨w.heap.size, 0, none⟩), .int .u64 130]) (w.alloc (.cells #[.int .i64 x] 58)) := by kernel_rfl
theorem Tryz.rElemOfCode (w : World) : (Rtype.elem? 99).run Tryz.prog w = .ok (some 58) w := by kernel_rfl
theorem Tryz.rMkCode (p : Addr) (w : World) : (ReflectliteValue.mk 58 p ReflectliteValue.flagAddr).run Tryz.prog w = .ok (.agg #[.pointer (some ⟨9, 58, none⟩), .pointer (some p), .int .u64 386]) w := by kernel_rfl
theorem Tryz.rElemVCode (a p : Addr) (W : World) (ha : W.cell? a = some (.pointer (some p))) :
    (ReflectliteValue.method (ReflectliteValue.valueError "reflectlite.Value.Elem" 0) ReflectliteValue.elem #[.agg #[.pointer (some ⟨9, 99, none⟩), .pointer (some a), .int .u64 150]]).run Tryz.prog W
      = .ok (.agg #[.pointer (some ⟨9, 58, none⟩), .pointer (some p), .int .u64 386]) W := by
  rw [rlm]
  simp only [Sem.run_bind, Tryz.rPartsPCode, Result.andThen]
  simp [ReflectliteValue.elem, loadVar, isAgg, underlying, Tryz.underlying99, ha, Result.andThen, Tryz.rElemOfCode, Tryz.rMkCode]
theorem Tryz.rPartsACode (a : Addr) (w : World) : (ReflectliteValue.parts (.agg #[.pointer (some ⟨9, 58, none⟩), .pointer (some a), .int .u64 386])).run Tryz.prog w = .ok (some (58, a, 386)) w := by kernel_rfl
theorem Tryz.rPartsCode (a : Addr) (w : World) : (ReflectliteValue.parts (.agg #[.pointer (some ⟨9, 58, none⟩), .pointer (some a), .int .u64 130])).run Tryz.prog w = .ok (some (58, a, 130)) w := by kernel_rfl
theorem Tryz.rDirectCode (w : World) : (Rtype.directlyAssignable 58 58).run Tryz.prog w = .ok true w := by kernel_rfl

theorem Tryz.rAssignCodeToCode (w : World) : (ReflectliteType.relation "AssignableTo" ReflectliteType.assignableTo #[.agg #[.pointer (some ⟨9, 58, none⟩)], .iface 140 (.agg #[.pointer (some ⟨9, 58, none⟩)])]).run Tryz.prog w = .ok (.bool true) w := by kernel_rfl

theorem Tryz.rAssignFaultToCode (w : World) : (ReflectliteType.relation "AssignableTo" ReflectliteType.assignableTo #[.agg #[.pointer (some ⟨9, 89, none⟩)], .iface 140 (.agg #[.pointer (some ⟨9, 58, none⟩)])]).run Tryz.prog w = .ok (.bool false) w := by kernel_rfl

theorem Tryz.rAssignErrSToCode (w : World) : (ReflectliteType.relation "AssignableTo" ReflectliteType.assignableTo #[.agg #[.pointer (some ⟨9, 158, none⟩)], .iface 140 (.agg #[.pointer (some ⟨9, 58, none⟩)])]).run Tryz.prog w = .ok (.bool false) w := by kernel_rfl

theorem Tryz.rSetCode (ta b : Addr) (x : Int) (old : Value) (W : World) (hb : W.cell? b = some (.int .i64 x)) (ht : W.cell? ta = some old) (hf : W.frozen? ta = false) :
    (ReflectliteValue.set #[.agg #[.pointer (some ⟨9, 58, none⟩), .pointer (some ta), .int .u64 386], .agg #[.pointer (some ⟨9, 58, none⟩), .pointer (some b), .int .u64 130]]).run Tryz.prog W
      = .ok (.tuple #[]) (W.setCell ta (.int .i64 x)) := by
  rw [rls]
  simp only [Sem.run_bind, Tryz.rPartsACode, Tryz.rPartsCode, Result.andThen]
  simp [ReflectliteValue.flagAddr, loadVar, isAgg, underlying, Tryz.underlying58, hb, Result.andThen, Tryz.rDirectCode, storeVar, Value.cells, storeCells, Addr.add]
  rw [run_store Tryz.prog W ta _ _ (by rfl)]
  simp [ht, hf]

/-! ### Fault as a target's element -/
theorem Tryz.rUnpackPFault (t : Addr) (w : World) : (ReflectliteValue.unpack (.iface 100 (.pointer (some t)))).run Tryz.prog w
    = .ok (.agg #[.pointer (some ⟨9, 100, none⟩), .pointer (some ⟨w.heap.size, 0, none⟩), .int .u64 150]) (w.alloc (.cells #[.pointer (some t)] 100)) := by kernel_rfl
theorem Tryz.rTypePFault (a : Addr) (w : World) : (ReflectliteValue.methodAny (ReflectliteValue.valueError "reflectlite.Value.Type" 0) (fun t _ _ _ => ReflectliteType.toType t) #[.agg #[.pointer (some ⟨9, 100, none⟩), .pointer (some a), .int .u64 150]]).run Tryz.prog w
    = .ok (.iface 140 (.agg #[.pointer (some ⟨9, 100, none⟩)])) w := by kernel_rfl
theorem Tryz.rKindPFault (w : World) : ((ReflectliteType.abiMethod fun t => (fun a : Nat => Value.int IntKind.u8 (a : Int)) <$> Rtype.kind t) #[.pointer (some ⟨9, 100, none⟩)]).run Tryz.prog w = .ok (.int .u8 22) w := by kernel_rfl
theorem Tryz.rKindFault (w : World) : ((ReflectliteType.abiMethod fun t => (fun a : Nat => Value.int IntKind.u8 (a : Int)) <$> Rtype.kind t) #[.pointer (some ⟨9, 89, none⟩)]).run Tryz.prog w = .ok (.int .u8 25) w := by kernel_rfl
theorem Tryz.rPartsPFault (a : Addr) (w : World) : (ReflectliteValue.parts (.agg #[.pointer (some ⟨9, 100, none⟩), .pointer (some a), .int .u64 150])).run Tryz.prog w = .ok (some (100, a, 150)) w := by kernel_rfl
theorem Tryz.rIsNilPFault (a p : Addr) (W : World) (ha : W.cell? a = some (.pointer (some p))) :
    (ReflectliteValue.method (ReflectliteValue.valueError "reflectlite.Value.IsNil" 0) ReflectliteValue.isNil #[.agg #[.pointer (some ⟨9, 100, none⟩), .pointer (some a), .int .u64 150]]).run Tryz.prog W = .ok (.bool false) W := by
  rw [rlm]
  simp only [Sem.run_bind, Tryz.rPartsPFault, Result.andThen]
  simp [ReflectliteValue.isNil, loadVar, isAgg, underlying, Tryz.underlying100, ha, Result.andThen]
theorem Tryz.rElemPFault (w : World) : (ReflectliteType.method ReflectliteType.elem #[.agg #[.pointer (some ⟨9, 100, none⟩)]]).run Tryz.prog w = .ok (.iface 140 (.agg #[.pointer (some ⟨9, 89, none⟩)])) w := by kernel_rfl
theorem Tryz.rImplFault (w : World) : (ReflectliteType.relation "Implements" ReflectliteType.implements_ #[.agg #[.pointer (some ⟨9, 89, none⟩)], .iface 140 (.agg #[.pointer (some ⟨9, 25, none⟩)])]).run Tryz.prog w = .ok (.bool true) w := by kernel_rfl
theorem Tryz.rUnpackFault (x y : Int) (w : World) : (ReflectliteValue.unpack (.iface 89 (.agg #[.int .i64 x, .int .i64 y]))).run Tryz.prog w
    = .ok (.agg #[.pointer (some ⟨9, 89, none⟩), .pointer (some ⟨w.heap.size, 0, none⟩), .int .u64 153]) (w.alloc (.cells #[.int .i64 x, .int .i64 y] 89)) := by kernel_rfl
theorem Tryz.rElemOfFault (w : World) : (Rtype.elem? 100).run Tryz.prog w = .ok (some 89) w := by kernel_rfl
theorem Tryz.rMkFault (p : Addr) (w : World) : (ReflectliteValue.mk 89 p ReflectliteValue.flagAddr).run Tryz.prog w = .ok (.agg #[.pointer (some ⟨9, 89, none⟩), .pointer (some p), .int .u64 409]) w := by kernel_rfl
theorem Tryz.rElemVFault (a p : Addr) (W : World) (ha : W.cell? a = some (.pointer (some p))) :
    (ReflectliteValue.method (ReflectliteValue.valueError "reflectlite.Value.Elem" 0) ReflectliteValue.elem #[.agg #[.pointer (some ⟨9, 100, none⟩), .pointer (some a), .int .u64 150]]).run Tryz.prog W
      = .ok (.agg #[.pointer (some ⟨9, 89, none⟩), .pointer (some p), .int .u64 409]) W := by
  rw [rlm]
  simp only [Sem.run_bind, Tryz.rPartsPFault, Result.andThen]
  simp [ReflectliteValue.elem, loadVar, isAgg, underlying, Tryz.underlying100, ha, Result.andThen, Tryz.rElemOfFault, Tryz.rMkFault]
theorem Tryz.rPartsAFault (a : Addr) (w : World) : (ReflectliteValue.parts (.agg #[.pointer (some ⟨9, 89, none⟩), .pointer (some a), .int .u64 409])).run Tryz.prog w = .ok (some (89, a, 409)) w := by kernel_rfl
theorem Tryz.rPartsFault (a : Addr) (w : World) : (ReflectliteValue.parts (.agg #[.pointer (some ⟨9, 89, none⟩), .pointer (some a), .int .u64 153])).run Tryz.prog w = .ok (some (89, a, 153)) w := by kernel_rfl
theorem Tryz.rDirectFault (w : World) : (Rtype.directlyAssignable 89 89).run Tryz.prog w = .ok true w := by kernel_rfl

theorem Tryz.rAssignCodeToFault (w : World) : (ReflectliteType.relation "AssignableTo" ReflectliteType.assignableTo #[.agg #[.pointer (some ⟨9, 58, none⟩)], .iface 140 (.agg #[.pointer (some ⟨9, 89, none⟩)])]).run Tryz.prog w = .ok (.bool false) w := by kernel_rfl

theorem Tryz.rAssignFaultToFault (w : World) : (ReflectliteType.relation "AssignableTo" ReflectliteType.assignableTo #[.agg #[.pointer (some ⟨9, 89, none⟩)], .iface 140 (.agg #[.pointer (some ⟨9, 89, none⟩)])]).run Tryz.prog w = .ok (.bool true) w := by kernel_rfl

theorem Tryz.rAssignErrSToFault (w : World) : (ReflectliteType.relation "AssignableTo" ReflectliteType.assignableTo #[.agg #[.pointer (some ⟨9, 158, none⟩)], .iface 140 (.agg #[.pointer (some ⟨9, 89, none⟩)])]).run Tryz.prog w = .ok (.bool false) w := by kernel_rfl

/-! ### Loc as a target's element -/
end Go.Proofs.YtnaeabfmgfipoaaGreatDoor
namespace Go.Proofs.YtnaeabfmgfipoaaGreatDoor
open Go.RowKit Go.Extern.Stop Go.Stop Go.Extern

/-- What was there is as it was. -/
def Keep (w w' : World) : Prop := Below w.heap.size w w'
theorem Keep.refl (w : World) : Keep w w := Below.refl _ _
theorem Keep.trans {a b c : World} (h : Keep a b) (k : Keep b c) : Keep a c := Below.trans h (Below.mono k h.size)
theorem Keep.alloc {a b : World} (h : Keep a b) (o : Obj) : Keep a (b.alloc o) := Below.alloc h h.size o
theorem Keep.one (w : World) (o : Obj) : Keep w (w.alloc o) := (Keep.refl w).alloc o
theorem Keep.grown {w w' : World} (h : Keep w w') : w.grownBy w' none := ⟨h.os, h.tape, h.output, h.size, fun k hk _ => h.block k hk⟩
theorem Keep.ofDrew {w w' : World} (h : Keep w.drew w') : Keep w w' := ⟨h.os, h.tape, h.output, h.size, h.block⟩
theorem Keep.drew {w w' : World} (h : Keep w w') : Keep w w'.drew := Below.drew h
theorem cell_lt {w : World} {a : Addr} {v : Value} (hc : w.cell? a = some v) : a.block < w.heap.size := by
  rcases Nat.lt_or_ge a.block w.heap.size with h | h
  · exact h
  · simp [World.cell?, Array.getElem?_eq_none h] at hc
theorem Keep.cell {w w' : World} {a : Addr} {v : Value} (h : Keep w w') (hc : w.cell? a = some v) : w'.cell? a = some v := by
  rw [Below.cell h (cell_lt hc)]; exact hc
theorem Keep.block {w w' : World} {k : Nat} {o : Obj} (h : Keep w w') (hc : w.heap[k]? = some o) : w'.heap[k]? = some o := by
  have hk : k < w.heap.size := by
    rcases Nat.lt_or_ge k w.heap.size with h | h
    · exact h
    · simp [Array.getElem?_eq_none h] at hc
  rw [Below.block h k hk]; exact hc

/-- What an error is made of, inside all that locates it. -/
inductive Base where
  | code (c : Int)
  | fault (c at_ : Int)
  | text (a : Addr)
def Base.val : Base → Value
  | .code c => .iface 58 (.int .i64 c)
  | .fault c n => .iface 89 (.agg #[.int .i64 c, .int .i64 n])
  | .text a => .iface 158 (.pointer (some a))
/-- 'v' is the base 'b', located by the kinds 'ks' (the outermost first). -/
inductive Chain (w : World) : List Int → Base → Value → Prop
  | base (b : Base) : Chain w [] b b.val
theorem Chain.keep {w w' : World} (h : Keep w w') {ks : List Int} {b : Base} {v : Value} (c : Chain w ks b v) : Chain w' ks b v := by
  induction c with
  | base b => have _ := h; exact .base b
theorem Chain.iface {w : World} {ks : List Int} {b : Base} {v : Value} (c : Chain w ks b v) : ∃ t x, v = .iface t x := by
  cases c with
  | base b => cases b <;> exact ⟨_, _, rfl⟩
theorem Chain.open {w : World} {ks : List Int} {b : Base} {v : Value} (c : Chain w ks b v) :
    (ks = [] ∧ v = b.val) ∨ ∃ (k : Int) (ks' : List Int) (a : Nat) (v' : Value), ks = k :: ks' ∧ v = v' ∧ False ∧ a = 0 ∧ Chain w ks' b v' := by
  cases c with
  | base b => exact .inl ⟨rfl, rfl⟩

/-! ### What the assertions answer -/
theorem Tryz.noAsFault (v : Value) (xT : TypeId) (w : World) : (Instr.typeAssert (.iface 89 v) xT 145 true).run Tryz.prog w = .ok (.tuple #[.nilIface, .bool false]) w := run_typeAssert_lacksB Tryz.underlying145 (by kernel_rfl) (by kernel_rfl) v xT w
theorem Tryz.noAsCode (v : Value) (xT : TypeId) (w : World) : (Instr.typeAssert (.iface 58 v) xT 145 true).run Tryz.prog w = .ok (.tuple #[.nilIface, .bool false]) w := run_typeAssert_lacksB Tryz.underlying145 (by kernel_rfl) (by kernel_rfl) v xT w
theorem Tryz.noAsText (v : Value) (xT : TypeId) (w : World) : (Instr.typeAssert (.iface 158 v) xT 145 true).run Tryz.prog w = .ok (.tuple #[.nilIface, .bool false]) w := run_typeAssert_lacksB Tryz.underlying145 (by kernel_rfl) (by kernel_rfl) v xT w
theorem Tryz.unFault (v : Value) (xT : TypeId) (w : World) : (Instr.typeAssert (.iface 89 v) xT 148 true).run Tryz.prog w = .ok (.tuple #[.iface 89 v, .bool true]) w := run_typeAssert_hasB Tryz.underlying148 (by kernel_rfl) v xT w
theorem Tryz.noUnCode (v : Value) (xT : TypeId) (w : World) : (Instr.typeAssert (.iface 58 v) xT 148 true).run Tryz.prog w = .ok (.tuple #[.nilIface, .bool false]) w := run_typeAssert_lacksB Tryz.underlying148 (by kernel_rfl) (by kernel_rfl) v xT w
theorem Tryz.noUnText (v : Value) (xT : TypeId) (w : World) : (Instr.typeAssert (.iface 158 v) xT 148 true).run Tryz.prog w = .ok (.tuple #[.nilIface, .bool false]) w := run_typeAssert_lacksB Tryz.underlying148 (by kernel_rfl) (by kernel_rfl) v xT w
theorem Tryz.noUnsCode (v : Value) (xT : TypeId) (w : World) : (Instr.typeAssert (.iface 58 v) xT 150 true).run Tryz.prog w = .ok (.tuple #[.nilIface, .bool false]) w := run_typeAssert_lacksB Tryz.underlying150 (by kernel_rfl) (by kernel_rfl) v xT w
theorem Tryz.noUnsText (v : Value) (xT : TypeId) (w : World) : (Instr.typeAssert (.iface 158 v) xT 150 true).run Tryz.prog w = .ok (.tuple #[.nilIface, .bool false]) w := run_typeAssert_lacksB Tryz.underlying150 (by kernel_rfl) (by kernel_rfl) v xT w

/-! ### The methods -/
theorem Tryz.mUnFault (x y : Int) (w : World) : (Go.method 292 89 (.agg #[.int .i64 x, .int .i64 y]) "Unwrap").run Tryz.prog w = .ok (125, .agg #[.int .i64 x, .int .i64 y]) w := by kernel_rfl
theorem unwrap_fault (x y : Int) (w : World) : Calls Tryz.prog 125 #[.agg #[.int .i64 x, .int .i64 y]] w fun e w' => e = .returned (Base.val (.code x)) ∧ Keep w w' := by
  go_enter Tryz.func125, Tryz.ntmps125
  go_wp2
  go_ret
  exact ⟨rfl, Keep.one _ _⟩
end Go.Proofs.YtnaeabfmgfipoaaGreatDoor
namespace Go.Proofs.YtnaeabfmgfipoaaGreatDoor
open Go.RowKit

def badAmt (x : Int) : Bool := decide (x < 0 ∨ 1099511627776 < x)
theorem bad_lt {x : Int} (h : x < 0) : Ending.returned (.bool true) = .returned (.bool (badAmt x)) := by
  unfold badAmt
  rw [decide_eq_true (Or.inl h)]
theorem bad_ge {x : Int} (h : 0 ≤ x) : Ending.returned (.bool (decide (1099511627776 < x))) = .returned (.bool (badAmt x)) := by
  unfold badAmt
  congr 2
  rw [decide_eq_decide]
  omega
/-- The numbers of a slice: n of them, number k is Z k. -/
structure Rd (w : World) (A : Option Addr) (n : Nat) (Z : Nat → Int) : Prop where
  small : n ≤ 9223372036854775807
  range : ∀ k, k < n → -9223372036854775808 ≤ Z k ∧ Z k ≤ 9223372036854775807
  adr : 0 < n → ∃ b off, A = some ⟨b, off, none⟩ ∧ ∀ j, j < n → w.cell? ⟨b, off + j, none⟩ = some (.int .i64 (Z j))

theorem Rd.below {w w' : World} {A n Z} (h : Rd w A n Z) (hb : Below w.heap.size w w') : Rd w' A n Z :=
  ⟨h.small, h.range, fun hn => by
    obtain ⟨b, off, e, hc⟩ := h.adr hn
    exact ⟨b, off, e, fun j hj => by rw [hb.cell (p := ⟨b, off + j, none⟩) (World.block_lt_of_cell? _ _ (hc j hj))]; exact hc j hj⟩⟩

theorem below_drewN {B : Nat} {a w : World} (h : Below B a w) (q : Nat) : Below B a (w.drewN q) := ⟨h.os, h.tape, h.output, h.size, h.block⟩
/-- The world has at most drawn. -/
def Drawn (w w' : World) : Prop := ∃ q, w' = w.drewN q
theorem Drawn.refl (w : World) : Drawn w w := ⟨0, rfl⟩
theorem Drawn.drewN {w w' : World} (h : Drawn w w') (q : Nat) : Drawn w (w'.drewN q) := by
  obtain ⟨p, rfl⟩ := h
  exact ⟨p + q, World.drewN_drewN ..⟩
theorem Drawn.drew {w w' : World} (h : Drawn w w') : Drawn w w'.drew := h.drewN 1
theorem Drawn.trans {w w' w'' : World} (h : Drawn w w') (k : Drawn w' w'') : Drawn w w'' := by
  obtain ⟨p, rfl⟩ := k
  exact h.drewN p
theorem Drawn.below {w w' : World} (h : Drawn w w') : Below w.heap.size w w' := by
  obtain ⟨q, rfl⟩ := h
  exact below_drewN (Below.refl _ _) q
theorem Rd.nil (w : World) (A : Option Addr) (Z : Nat → Int) : Rd w A 0 Z := ⟨by omega, fun _ h => absurd h (Nat.not_lt_zero _), fun h => absurd h (Nat.lt_irrefl _)⟩

theorem Rd.ofRow {w : World} {b n : Nat} {Z : Nat → Int} (h : w.rowIs b 2 n (fun k => .int .i64 (Z k))) (hn : n ≤ 9223372036854775807) (hr : ∀ k, k < n → -9223372036854775808 ≤ Z k ∧ Z k ≤ 9223372036854775807) : Rd w (some ⟨b, 0, none⟩) n Z :=
  ⟨hn, hr, fun _ => ⟨b, 0, rfl, fun j hj => by rw [Nat.zero_add]; exact h.cell hj⟩⟩

/-- The cells of a row that append has made: number k is D k. -/
def rowL (n : Nat) (D : Nat → Int) : List Value := (List.range n).map fun k => .int .i64 (D k)
theorem rowL_succ (n : Nat) (D : Nat → Int) : rowL n D ++ [.int .i64 (D n)] = rowL (n + 1) D := by simp [rowL, List.range_succ]
theorem Rd.ofOwn {w : World} {base n : Nat} {v : Value} {D : Nat → Int} (h : w.ownsRow base 2 1 v n (rowL n D)) (hn : n ≤ 9223372036854775807) (hr : ∀ k, k < n → -9223372036854775808 ≤ D k ∧ D k ≤ 9223372036854775807) :
    ∃ A cap, v = .slice A n cap ∧ Rd w A n D := by
  rcases h.2 with ⟨rfl, rfl⟩ | ⟨g, cap, cur, rfl, _, hb, _, _, _, ht⟩
  · exact ⟨none, 0, rfl, Rd.nil _ _ _⟩
  · refine ⟨some ⟨g, 0, none⟩, cap, rfl, hn, hr, fun _ => ⟨g, 0, rfl, fun j hj => ?_⟩⟩
    have := h.cells (g := g) rfl j (.int .i64 (D j)) (by simp [rowL, hj])
    rwa [WideShapes.add_plain] at this

theorem Rd.congr {w : World} {A n Z Y} (h : Rd w A n Z) (e : ∀ k, k < n → Z k = Y k) : Rd w A n Y :=
  ⟨h.small, fun k hk => by rw [← e k hk]; exact h.range k hk, fun hn => by
    obtain ⟨b, off, e', hc⟩ := h.adr hn
    exact ⟨b, off, e', fun j hj => by rw [← e j hj]; exact hc j hj⟩⟩

theorem Drawn.keep {w w' : World} (h : Drawn w w') : Keep w w' := h.below
theorem Rd.keep {w w' : World} {A n Z} (h : Rd w A n Z) (hb : Keep w w') : Rd w' A n Z := h.below hb

/-- n = m and no element of Z is greater. -/
def fitsB (n : Nat) (Z : Nat → Int) (m : Nat) (Y : Nat → Int) : Bool := decide (n = m ∧ ∀ k, k < n → Z k ≤ Y k)
def sameB (n : Nat) (Z : Nat → Int) (m : Nat) (Y : Nat → Int) : Bool := decide (n = m ∧ ∀ k, k < n → Z k = Y k)

theorem fits_no {n m : Nat} {Z Y : Nat → Int} (h : n ≠ m) : fitsB n Z m Y = false := by simp [fitsB, h]
theorem fits_gt {n m : Nat} {Z Y : Nat → Int} {k : Nat} (hk : k < n) (h : Y k < Z k) : fitsB n Z m Y = false := by
  unfold fitsB
  rw [decide_eq_false_iff_not]
  intro ⟨_, h2⟩
  have := h2 k hk
  omega
theorem fits_yes {n m : Nat} {Z Y : Nat → Int} (h : n = m) (h2 : ∀ k, k < n → Z k ≤ Y k) : fitsB n Z m Y = true := by
  unfold fitsB
  exact decide_eq_true ⟨h, h2⟩

theorem same_no {n m : Nat} {Z Y : Nat → Int} (h : n ≠ m) : sameB n Z m Y = false := by simp [sameB, h]
theorem same_dif {n m : Nat} {Z Y : Nat → Int} {k : Nat} (hk : k < n) (h : Z k ≠ Y k) : sameB n Z m Y = false := by
  unfold sameB
  rw [decide_eq_false_iff_not]
  intro ⟨_, h2⟩
  exact h (h2 k hk)
theorem same_yes {n m : Nat} {Z Y : Nat → Int} (h : n = m) (h2 : ∀ k, k < n → Z k = Y k) : sameB n Z m Y = true := by
  unfold sameB
  exact decide_eq_true ⟨h, h2⟩
theorem retb {a b : Bool} (h : a = b) : Ending.returned (.bool a) = .returned (.bool b) := by rw [h]


set_option maxHeartbeats 400000 in
theorem rfits_eq (A B : Option Addr) (n c d : Nat) (Z Y : Nat → Int) (w : World) (hA : Rd w A n Z) (hB : Rd w B n Y) :
    Calls Tryz.prog 54 #[.slice A n c, .slice B n d] w fun e w' => e = .returned (.bool (fitsB n Z n Y)) ∧ Drawn w w' := by
  have hn := hA.small
  go_enter Tryz.func54, Tryz.ntmps54
  go_wp2
  go_loopg [5] n (fun g i wr => ∃ k : Nat, k ≤ n ∧ g = n - k ∧ i = .int .i64 k ∧ Drawn w wr ∧ Aside (∀ j, j < k → Z j ≤ Y j))
  case atStart => exact ⟨0, Nat.zero_le _, rfl, rfl, Drawn.refl _, fun _ h => absurd h (Nat.not_lt_zero _)⟩
  case round =>
    obtain ⟨k, hk, rfl, rfl, hd, hall⟩ := hrel
    by_cases hlt : k < n
    · obtain ⟨b, off, rfl, ca⟩ := (hA.below hd.below).adr (by omega)
      obtain ⟨b', off', rfl, cb⟩ := (hB.below hd.below).adr (by omega)
      have g0 := ca k hlt
      have g1 := cb k hlt
      clear ca cb hA hB
      by_cases hz : Z k ≤ Y k
      · go_wp2
        go_quiet (fail)
        go_wp2
        go_roundg (n - (k + 1))
        case measure => omega
        case rel => exact ⟨k + 1, hlt, rfl, by go_num, hd.drewN _, fun j hj => by
          rcases Nat.lt_succ_iff_lt_or_eq.1 hj with h | rfl
          · exact hall.out j h
          · exact hz⟩
      · go_wp2
        go_quiet (fail)
        go_wp2
        go_ret
        exact ⟨retb (fits_gt hlt (by omega)).symm, hd.drewN _⟩
    · obtain rfl : k = n := by omega
      go_wp2
      go_ret
      exact ⟨retb (fits_yes rfl hall.out).symm, hd⟩

set_option maxHeartbeats 400000 in
theorem rfits_ne (A B : Option Addr) (n m c d : Nat) (Z Y : Nat → Int) (w : World) (hA : Rd w A n Z) (hB : Rd w B m Y) (hne : n ≠ m) :
    Calls Tryz.prog 54 #[.slice A n c, .slice B m d] w fun e w' => e = .returned (.bool (fitsB n Z m Y)) ∧ Drawn w w' := by
  have hn := hA.small
  have hm := hB.small
  have hneb : ((n : Int) == (m : Int)) = false := by simp; omega
  rw [fits_no hne]
  have hne : Hid (n ≠ m) := hne
  go_enter Tryz.func54, Tryz.ntmps54
  go_wp2
  go_loopg [5] n (fun g i wr => ∃ k : Nat, k ≤ n ∧ k ≤ m ∧ g = n - k ∧ i = .int .i64 k ∧ Drawn w wr)
  case atStart => exact ⟨0, Nat.zero_le _, Nat.zero_le _, rfl, rfl, Drawn.refl _⟩
  case round =>
    obtain ⟨k, hk, hk', rfl, rfl, hd⟩ := hrel
    by_cases hlt : k < n
    · by_cases hlt' : k < m
      · obtain ⟨b, off, rfl, ca⟩ := (hA.below hd.below).adr (by omega)
        obtain ⟨b', off', rfl, cb⟩ := (hB.below hd.below).adr (by omega)
        have g0 := ca k hlt
        have g1 := cb k hlt'
        clear ca cb hA hB
        by_cases hz : Z k ≤ Y k
        · go_wp2
          go_quiet (fail)
          go_wp2
          go_roundg (n - (k + 1))
          case measure => omega
          case rel => exact ⟨k + 1, hlt, hlt', rfl, by go_num, hd.drewN _⟩
        · go_wp2
          go_quiet (fail)
          go_wp2
          go_ret
          exact ⟨rfl, hd.drewN _⟩
      · go_wp2
        go_ret
        exact ⟨rfl, hd⟩
    · go_wp2
      go_ret
      exact ⟨rfl, hd⟩

theorem rfits_any (A B : Option Addr) (n m c d : Nat) (Z Y : Nat → Int) (w : World) (hA : Rd w A n Z) (hB : Rd w B m Y) :
    Calls Tryz.prog 54 #[.slice A n c, .slice B m d] w fun e w' => e = .returned (.bool (fitsB n Z m Y)) ∧ Drawn w w' := by
  by_cases h : n = m
  · subst h; exact rfits_eq A B n c d Z Y w hA hB
  · exact rfits_ne A B n m c d Z Y w hA hB h

theorem same_of_fits {n m : Nat} {Z Y : Nat → Int} (h1 : fitsB n Z m Y = true) : fitsB m Y n Z = sameB n Z m Y := by
  unfold fitsB at h1
  obtain ⟨rfl, h2⟩ := of_decide_eq_true h1
  unfold fitsB sameB
  rw [decide_eq_decide]
  exact ⟨fun h => ⟨rfl, fun k hk => by have := h2 k hk; have := h.2 k hk; omega⟩, fun h => ⟨rfl, fun k hk => by have := h.2 k hk; omega⟩⟩
theorem same_of_nofits {n m : Nat} {Z Y : Nat → Int} (h1 : fitsB n Z m Y = false) : sameB n Z m Y = false := by
  unfold fitsB at h1
  unfold sameB
  rw [decide_eq_false_iff_not] at h1 ⊢
  exact fun h => h1 ⟨h.1, fun k hk => by have := h.2 k hk; omega⟩

theorem rfits_is (A B : Option Addr) (n m c d : Nat) (Z Y : Nat → Int) (w : World) (hA : Rd w A n Z) (hB : Rd w B m Y) (b : Bool) (h : fitsB n Z m Y = b) :
    Calls Tryz.prog 54 #[.slice A n c, .slice B m d] w fun e w' => e = .returned (.bool b) ∧ Drawn w w' := by
  rw [← h]; exact rfits_any A B n m c d Z Y w hA hB
set_option maxHeartbeats 400000 in
theorem rsame_is (A B : Option Addr) (n m c d : Nat) (Z Y : Nat → Int) (w : World) (hA : Rd w A n Z) (hB : Rd w B m Y) (b : Bool) (h : sameB n Z m Y = b) :
    Calls Tryz.prog 30 #[.slice A n c, .slice B m d] w fun e w' => e = .returned (.bool b) ∧ Drawn w w' := by
  cases h1 : fitsB n Z m Y
  · have hb := same_of_nofits h1
    have H1 : Hid (fitsB n Z m Y = false) := h1
    obtain rfl : false = b := hb.symm.trans h
    clear h1 hb h
    go_enter Tryz.func30, Tryz.ntmps30
    go_wp2_with (go_at_call 54; refine (rfits_is _ _ _ _ _ _ _ _ _ hA hB _ H1.out).mono ?_; rintro e w' ⟨rfl, hd⟩)
    go_ret
    exact ⟨rfl, hd⟩
  · have H2 : Hid (fitsB m Y n Z = b) := (same_of_fits h1).trans h
    have H1 : Hid (fitsB n Z m Y = true) := h1
    clear h1 h
    go_enter Tryz.func30, Tryz.ntmps30
    go_wp2_with fail
    refine (rfits_is _ _ _ _ _ _ _ _ _ hA hB _ H1.out).mono ?_
    rintro e w' ⟨rfl, hd⟩
    go_wp2_with fail
    refine (rfits_is _ _ _ _ _ _ _ _ _ (hB.below hd.below) (hA.below hd.below) _ H2.out).mono ?_
    rintro e w'' ⟨rfl, hd'⟩
    go_wp2_with fail
    go_ret
    exact ⟨rfl, hd.trans hd'⟩

def wrongOf (n : Nat) (Z : Nat → Int) (d : Int) : Int :=
  match (List.range n).find? (fun k => badAmt (Z k)) with
  | some k => k
  | none => if (n : Int) = d then -1 else max (min d n) 0
theorem wrongOf_bad {n : Nat} {Z : Nat → Int} {d : Int} {k : Nat} (hk : k < n) (hb : badAmt (Z k) = true) (h : ∀ j, j < k → badAmt (Z j) = false) : wrongOf n Z d = k := by
  have e : (List.range n).find? (fun k => badAmt (Z k)) = some k := by
    rw [List.find?_range_eq_some]
    exact ⟨hb, List.mem_range.2 hk, fun j hj => by rw [h j hj]; rfl⟩
  rw [wrongOf, e]
theorem wrongOf_ok {n : Nat} {Z : Nat → Int} {d : Int} (h : ∀ j, j < n → badAmt (Z j) = false) : wrongOf n Z d = if (n : Int) = d then -1 else max (min d n) 0 := by
  have e : (List.range n).find? (fun k => badAmt (Z k)) = none := by
    rw [List.find?_range_eq_none]
    exact fun j hj => by rw [h j hj]; rfl
  rw [wrongOf, e]
/-- The first bad index, or there is none. -/
theorem bad_or (n : Nat) (Z : Nat → Int) : (∃ k, k < n ∧ badAmt (Z k) = true ∧ ∀ j, j < k → badAmt (Z j) = false) ∨ ∀ j, j < n → badAmt (Z j) = false := by
  induction n with
  | zero => exact Or.inr fun _ h => absurd h (Nat.not_lt_zero _)
  | succ n ih =>
    rcases ih with ⟨k, h1, h2, h3⟩ | h
    · exact Or.inl ⟨k, by omega, h2, h3⟩
    · cases hb : badAmt (Z n)
      · refine Or.inr fun j hj => ?_
        rcases Nat.lt_succ_iff_lt_or_eq.1 hj with h' | rfl
        · exact h j h'
        · exact hb
      · exact Or.inl ⟨n, by omega, hb, h⟩

theorem ret_int {k : IntKind} {a b : Int} (h : a = b) : Ending.returned (.int k a) = .returned (.int k b) := by rw [h]

theorem bad_not {x : Int} (h : badAmt x = false) : 0 ≤ x ∧ x ≤ 1099511627776 := by
  unfold badAmt at h
  rw [decide_eq_false_iff_not] at h
  omega
theorem bad_yes {x : Int} (h : badAmt x = true) : x < 0 ∨ 1099511627776 < x := by
  unfold badAmt at h
  exact of_decide_eq_true h

end Go.Proofs.YtnaeabfmgfipoaaGreatDoor
namespace Go.Proofs.YtnaeabfmgfipoaaGreatDoor
open Go.RowKit

def decN (n : Nat) : ByteArray := if n < 10 then ⟨#[(48 + n).toUInt8]⟩ else decN (n / 10) ++ ⟨#[(48 + n % 10).toUInt8]⟩
theorem decN_lt {n : Nat} (h : n < 10) : decN n = ⟨#[(48 + n).toUInt8]⟩ := by rw [decN, if_pos h]
theorem decN_ge {n : Nat} (h : ¬ n < 10) : decN n = decN (n / 10) ++ ⟨#[(48 + n % 10).toUInt8]⟩ := by rw [decN, if_neg h]
def decB (n : Int) : ByteArray := if n < 0 then ⟨#[45]⟩ ++ decN (-n).toNat else decN n.toNat
theorem decN_size : ∀ (k n : Nat), n < 10 ^ (k + 1) → (decN n).size ≤ k + 1
  | 0, n, h => by rw [decN_lt (by omega)]; exact Nat.le_refl 1
  | k + 1, n, h => by
    by_cases hn : n < 10
    · rw [decN_lt hn]
      show 1 ≤ _
      omega
    · rw [decN_ge hn, ByteArray.size_append]
      have h1 := decN_size k (n / 10) (by rw [Nat.pow_succ] at h; omega)
      have h2 : (⟨#[(48 + n % 10).toUInt8]⟩ : ByteArray).size = 1 := rfl
      omega
theorem digits_at (d : Nat) (h : d < 10) : (⟨#[48, 49, 50, 51, 52, 53, 54, 55, 56, 57]⟩ : ByteArray).extract d (d + 1) = ⟨#[(48 + d).toUInt8]⟩ := by
  have : ∀ d : Fin 10, (⟨#[48, 49, 50, 51, 52, 53, 54, 55, 56, 57]⟩ : ByteArray).extract d.val (d.val + 1) = ⟨#[(48 + d.val).toUInt8]⟩ := by decide +kernel
  exact this ⟨d, h⟩

theorem ret_str {a b : ByteArray} (h : a = b) : Ending.returned (.string a) = .returned (.string b) := by rw [h]
theorem decB_nn {n : Int} (h : 0 ≤ n) : decB n = decN n.toNat := by unfold decB; rw [if_neg (by omega)]
theorem digit_is {r : Int} (h0 : 0 ≤ r) (h1 : r < 10) : (⟨#[48, 49, 50, 51, 52, 53, 54, 55, 56, 57]⟩ : ByteArray).extract r.toNat (r + 1).toNat = ⟨#[(48 + r.toNat).toUInt8]⟩ := by
  rw [show (r + 1).toNat = r.toNat + 1 by omega]
  exact digits_at _ (by omega)
theorem dec_small (n : Int) (w : World) (h0 : 0 ≤ n) (h1 : n < 10) : Calls Tryz.prog 38 #[.int .i64 n] w fun e w' => e = .returned (.string (decB n)) ∧ Drawn w w' := by
  have h2 : ¬ n < 0 := by omega
  have h3 : ¬ n < -9 := by omega
  have e : Hid ((⟨#[48, 49, 50, 51, 52, 53, 54, 55, 56, 57]⟩ : ByteArray).extract n.toNat (n + 1).toNat = decB n) := by
    show _ = _
    rw [digit_is h0 h1, decB_nn h0, decN_lt (by omega)]
  go_enter Tryz.func38, Tryz.ntmps38
  go_wp2
  go_ret
  exact ⟨ret_str e.out, Drawn.refl _⟩
theorem decB_big {q r : Int} (h0 : 0 < q) (h1 : 0 ≤ r) (h2 : r < 10) : decB q ++ ⟨#[(48 + r.toNat).toUInt8]⟩ = decB (10 * q + r) := by
  rw [decB_nn (by omega), decB_nn (by omega), decN_ge (n := (10 * q + r).toNat) (by omega)]
  rw [show (10 * q + r).toNat / 10 = q.toNat by omega, show (10 * q + r).toNat % 10 = r.toNat by omega]
theorem ten19 : (10 : Nat) ^ (18 + 1) = 10000000000000000000 := by decide +kernel
theorem decB_size {n : Int} (h0 : -9223372036854775808 ≤ n) (h1 : n ≤ 9223372036854775807) : (decB n).size ≤ 20 := by
  unfold decB
  by_cases h : n < 0
  · rw [if_pos h, ByteArray.size_append]
    have h2 := decN_size 18 (-n).toNat (by rw [ten19]; omega)
    have h3 : (⟨#[45]⟩ : ByteArray).size = 1 := rfl
    omega
  · rw [if_neg h]
    have h2 := decN_size 18 n.toNat (by rw [ten19]; omega)
    omega

theorem slice_digit (r : Int) (w : World) (h1 : 0 ≤ r) (h2 : r < 10) :
    (Instr.slice 9 (.string ⟨#[48, 49, 50, 51, 52, 53, 54, 55, 56, 57]⟩) (some (.int .i64 r)) (some (.int .i64 (r + 1))) none).run Tryz.prog w = .ok (.string ⟨#[(48 + r.toNat).toUInt8]⟩) w := by
  have hs : (⟨#[48, 49, 50, 51, 52, 53, 54, 55, 56, 57]⟩ : ByteArray).size = 10 := rfl
  rw [run_slice_string_if w _ _ _ _ _ _ Tryz.underlying9, if_pos (by rw [hs]; omega), if_pos (by omega), digit_is h1 h2]

set_option maxHeartbeats 400000 in
theorem dec_big (n q r : Int) (w : World) (hn : n = 10 * q + r) (h0 : 0 < q) (h1 : 0 ≤ r) (h2 : r < 10) (h3 : n ≤ 9223372036854775807)
    (ih : ∀ w : World, Calls Tryz.prog 38 #[.int .i64 q] w fun e w' => e = .returned (.string (decB q)) ∧ Drawn w w') :
    Calls Tryz.prog 38 #[.int .i64 n] w fun e w' => e = .returned (.string (decB n)) ∧ Drawn w w' := by
  have e : Hid (decB q ++ ⟨#[(48 + r.toNat).toUInt8]⟩ = decB n) := by show _ = _; rw [hn]; exact decB_big h0 h1 h2
  obtain ⟨D, hD⟩ : ∃ D, D = decB q := ⟨_, rfl⟩
  obtain ⟨E, hE⟩ : ∃ E : ByteArray, E = ⟨#[(48 + r.toNat).toUInt8]⟩ := ⟨_, rfl⟩
  have hs : ∀ w : World, (Op.stringOp .add D E).run Tryz.prog w = .ok (.string (D ++ E)) w := fun w => run_string_add_sum w _ _ (by
    have a := decB_size (n := q) (by omega) (by omega)
    have b : (⟨#[(48 + r.toNat).toUInt8]⟩ : ByteArray).size = 1 := rfl
    rw [hD, hE]
    omega)
  have hd : ∀ w : World, (Instr.slice 9 (.string ⟨#[48, 49, 50, 51, 52, 53, 54, 55, 56, 57]⟩) (some (.int .i64 r)) (some (.int .i64 (r + 1))) none).run Tryz.prog w = .ok (.string E) w := fun w => by rw [hE]; exact slice_digit r w h1 h2
  have t1 : n.tdiv 10 = q := by rw [Int.tdiv_eq_ediv_of_nonneg (by omega)]; omega
  have t2 : n.tmod 10 = r := by rw [Int.tmod_eq_emod_of_nonneg (by omega)]; omega
  have t3 : IntKind.i64.wrap (r + 1) = r + 1 := by rw [IntKind.wrap_i64]; omega
  have t6 : IntKind.i64.wrap q = q := by rw [IntKind.wrap_i64]; omega
  have t7 : IntKind.i64.wrap r = r := by rw [IntKind.wrap_i64]; omega
  have b1 : ¬ n < -9 := by omega
  have b2 : ¬ n < 0 := by omega
  have b3 : ¬ n < 10 := by omega
  rw [← hD] at ih
  rw [← hD, ← hE] at e
  replace ih := Lib.hid ih
  clear hn hD hE h0 h1 h2 h3
  go_enter Tryz.func38, Tryz.ntmps38
  go_wp2_with fail
  go_region_held3 (fun _ => True) (trivial) (first | (go_at_call 38; refine (ih.out _).mono ?_; rintro e1 w1 ⟨rfl, hb1⟩))
  go_wp2
  go_ret
  exact ⟨ret_str e.out, (Drawn.refl w).drew.trans hb1⟩
theorem decB_neg {q r : Int} (h0 : q < 0) (h1 : 0 ≤ r) (h2 : r < 10) : decB q ++ decB r = decB (10 * q - r) := by
  have hr : decB r = ⟨#[(48 + r.toNat).toUInt8]⟩ := by rw [decB_nn h1, decN_lt (by omega)]
  have hq : decB q = ⟨#[45]⟩ ++ decN (-q).toNat := by unfold decB; rw [if_pos h0]
  have hn : decB (10 * q - r) = ⟨#[45]⟩ ++ decN (-(10 * q - r)).toNat := by unfold decB; rw [if_pos (by omega)]
  rw [hr, hq, hn, decN_ge (n := (-(10 * q - r)).toNat) (by omega), show (-(10 * q - r)).toNat / 10 = (-q).toNat by omega, show (-(10 * q - r)).toNat % 10 = r.toNat by omega, ByteArray.append_assoc]
set_option maxHeartbeats 400000 in
theorem dec_neg (n q r : Int) (w : World) (hn : n = 10 * q - r) (h0 : q < 0) (h1 : 0 ≤ r) (h2 : r < 10) (h3 : -9223372036854775808 ≤ n)
    (ih : ∀ w : World, Calls Tryz.prog 38 #[.int .i64 q] w fun e w' => e = .returned (.string (decB q)) ∧ Drawn w w') :
    Calls Tryz.prog 38 #[.int .i64 n] w fun e w' => e = .returned (.string (decB n)) ∧ Drawn w w' := by
  have e : Hid (decB q ++ decB r = decB n) := by show _ = _; rw [hn]; exact decB_neg h0 h1 h2
  have ir : Hid (∀ w : World, Calls Tryz.prog 38 #[.int .i64 r] w fun e w' => e = .returned (.string (decB r)) ∧ Drawn w w') := fun w => dec_small r w h1 h2
  have hs0 : ∀ w : World, (Op.stringOp .add (decB q) (decB r)).run Tryz.prog w = .ok (.string (decB q ++ decB r)) w := fun w => run_string_add_sum w _ _ (by
    have a := decB_size (n := q) (by omega) (by omega)
    have b := decB_size (n := r) (by omega) (by omega)
    omega)
  obtain ⟨D, hD⟩ : ∃ D, D = decB q := ⟨_, rfl⟩
  obtain ⟨E, hE⟩ : ∃ E, E = decB r := ⟨_, rfl⟩
  rw [← hD, ← hE] at hs0
  rw [← hD] at ih
  rw [← hD, ← hE] at e
  rw [← hE] at ir
  have t1 : n.tdiv 10 = q := by
    have := Int.neg_tdiv (-n) 10
    rw [Int.neg_neg, Int.tdiv_eq_ediv_of_nonneg (a := -n) (by omega)] at this
    omega
  have t2 : n.tmod 10 = -r := by
    have := Int.neg_tmod (-n) 10
    rw [Int.neg_neg, Int.tmod_eq_emod_of_nonneg (a := -n) (by omega)] at this
    omega
  have b1 : n < -9 := by omega
  have t8 : IntKind.i64.wrap r = r := by rw [IntKind.wrap_i64]; omega
  have t6 : IntKind.i64.wrap q = q := by rw [IntKind.wrap_i64]; omega
  replace ih := Lib.hid ih
  clear hn hD hE h0 h1 h2 h3
  go_enter Tryz.func38, Tryz.ntmps38
  go_wp2_with fail
  refine (ih.out _).mono ?_
  rintro e1 w1 ⟨rfl, hb1⟩
  replace hb1 := Lib.hid hb1
  go_wp2_with fail
  refine (ir.out _).mono ?_
  rintro e1 w2 ⟨rfl, hb2⟩
  replace hb2 := Lib.hid hb2
  go_wp2
  go_ret
  exact ⟨ret_str e.out, hb1.out.trans hb2.out⟩
set_option maxHeartbeats 400000 in
theorem dec_neg1 (n : Int) (w : World) (h0 : n < 0) (h1 : -9 ≤ n) :
    Calls Tryz.prog 38 #[.int .i64 n] w fun e w' => e = .returned (.string (decB n)) ∧ Drawn w w' := by
  have e : Hid (⟨#[45]⟩ ++ decB (-n) = decB n) := by show _ = _; rw [decB_nn (by omega)]; unfold decB; rw [if_pos h0]
  have ir : Hid (∀ w : World, Calls Tryz.prog 38 #[.int .i64 (-n)] w fun e w' => e = .returned (.string (decB (-n))) ∧ Drawn w w') := fun w => dec_small (-n) w (by omega) (by omega)
  have hs0 : ∀ w : World, (Op.stringOp .add ⟨#[45]⟩ (decB (-n))).run Tryz.prog w = .ok (.string (⟨#[45]⟩ ++ decB (-n))) w := fun w => run_string_add_sum w _ _ (by
    have a := decB_size (n := -n) (by omega) (by omega)
    have b : (⟨#[45]⟩ : ByteArray).size = 1 := rfl
    omega)
  obtain ⟨D, hD⟩ : ∃ D, D = decB (-n) := ⟨_, rfl⟩
  rw [← hD] at hs0 e ir
  have b1 : ¬ n < -9 := by omega
  clear hD
  go_enter Tryz.func38, Tryz.ntmps38
  go_wp2_with fail
  refine (ir.out _).mono ?_
  rintro e1 w1 ⟨rfl, hb1⟩
  replace hb1 := Lib.hid hb1
  go_wp2
  go_ret
  exact ⟨ret_str e.out, hb1.out⟩
/-- The reference's Decimal. -/
theorem decimal_fn : ∀ (k : Nat) (n : Int) (w : World), n.natAbs < k → -9223372036854775808 ≤ n → n ≤ 9223372036854775807 →
    Calls Tryz.prog 38 #[.int .i64 n] w fun e w' => e = .returned (.string (decB n)) ∧ Drawn w w'
  | 0, n, w, h, _, _ => absurd h (Nat.not_lt_zero _)
  | k + 1, n, w, h, h0, h1 => by
    by_cases a : n < 0
    · by_cases b : -9 ≤ n
      · exact dec_neg1 n w a b
      · exact dec_neg n (-((-n) / 10)) ((-n) % 10) w (by omega) (by omega) (by omega) (by omega) h0 (fun w => decimal_fn k _ w (by omega) (by omega) (by omega))
    · by_cases b : n < 10
      · exact dec_small n w (by omega) b
      · exact dec_big n (n / 10) (n % 10) w (by omega) (by omega) (by omega) (by omega) h1 (fun w => decimal_fn k _ w (by omega) (by omega) (by omega))
theorem rdecimal_fn (n : Int) (w : World) (h0 : -9223372036854775808 ≤ n) (h1 : n ≤ 9223372036854775807) :
    Calls Tryz.prog 38 #[.int .i64 n] w fun e w' => e = .returned (.string (decB n)) ∧ Drawn w w' := decimal_fn (n.natAbs + 1) n w (by omega) h0 h1
end Go.Proofs.YtnaeabfmgfipoaaGreatDoor
namespace Go.Proofs.YtnaeabfmgfipoaaGreatDoor
open Go.RowKit

def byteAt (s : ByteArray) (j : Nat) : Int := ((s.data.toList.getD j 0).toNat : Int)
theorem byteAt_range (s : ByteArray) (j : Nat) : 0 ≤ byteAt s j ∧ byteAt s j ≤ 255 := by
  unfold byteAt
  have := (s.data.toList.getD j 0).toNat_lt
  omega
theorem index_at (s : ByteArray) (j : Nat) (h : j < s.size) (w : World) : (Instr.index 9 (.string s) (.int .i64 j)).run Tryz.prog w = .ok (.int .u8 (byteAt s j)) w := by
  rw [run_index_string w _ _ _ _ Tryz.underlying9, dif_pos (by omega)]
  have h' : j < s.data.toList.length := by cases s; exact h
  have e : s[(j : Int).toNat]'(by simpa using h) = s.data.toList.getD j 0 := by
    rw [List.getD_eq_getElem?_getD, List.getElem?_eq_getElem h']
    cases s
    rfl
  rw [e]
  rfl
/-- The value of the first k digits, as long as each is one and the value stays below. -/
def acc (B : Nat → Int) : Nat → Option Int
  | 0 => some 0
  | k + 1 => match acc B k with
    | none => none
    | some v => if B k - 48 < 0 ∨ 9 < B k - 48 ∨ (4611686018427387904 - (B k - 48)) / 10 < v then none else some (10 * v + (B k - 48))
theorem acc_none {B : Nat → Int} {j : Nat} (h : acc B j = none) : ∀ m, j ≤ m → acc B m = none := by
  intro m hm
  induction m with
  | zero => obtain rfl : j = 0 := by omega
            exact h
  | succ m ih =>
    by_cases hj : j = m + 1
    · rw [← hj]; exact h
    · unfold acc; rw [ih (by omega)]
theorem acc_bad {B : Nat → Int} {j : Nat} {v : Int} (h : acc B j = some v) (hb : B j - 48 < 0 ∨ 9 < B j - 48 ∨ (4611686018427387904 - (B j - 48)) / 10 < v) : acc B (j + 1) = none := by
  rw [acc, h]; exact if_pos hb
theorem acc_good {B : Nat → Int} {j : Nat} {v : Int} (h : acc B j = some v) (hb : ¬ (B j - 48 < 0 ∨ 9 < B j - 48 ∨ (4611686018427387904 - (B j - 48)) / 10 < v)) : acc B (j + 1) = some (10 * v + (B j - 48)) := by
  rw [acc, h]; exact if_neg hb
def isNeg (s : ByteArray) : Bool := decide (0 < s.size ∧ byteAt s 0 = 45)
/-- The digits of a word. -/
def digitsOf (s : ByteArray) : ByteArray := if isNeg s then s.extract 1 s.size else s
def numOf (s : ByteArray) : Option Int :=
  if (digitsOf s).size = 0 ∨ 19 < (digitsOf s).size ∨ (byteAt (digitsOf s) 0 = 48 ∧ ¬ s = ⟨#[48]⟩) then none
  else match acc (byteAt (digitsOf s)) (digitsOf s).size with
    | none => none
    | some v => some (if isNeg s then -v else v)
def valO : Option Int → Int
  | none => 0
  | some v => v
theorem numOf_none (s : ByteArray) (h : (digitsOf s).size = 0 ∨ 19 < (digitsOf s).size ∨ (byteAt (digitsOf s) 0 = 48 ∧ ¬ s = ⟨#[48]⟩)) : numOf s = none := by unfold numOf; rw [if_pos h]
theorem numOf_acc (s : ByteArray) (h : ¬ ((digitsOf s).size = 0 ∨ 19 < (digitsOf s).size ∨ (byteAt (digitsOf s) 0 = 48 ∧ ¬ s = ⟨#[48]⟩))) :
    numOf s = match acc (byteAt (digitsOf s)) (digitsOf s).size with
    | none => none
    | some v => some (if isNeg s then -v else v) := by unfold numOf; rw [if_neg h]
theorem empty_iff (s : ByteArray) : s.toList.isEmpty = decide (s.size = 0) := by
  have hl : s.data.toList.length = s.size := by cases s; rfl
  rw [ByteArray.toList_eq, Bool.eq_iff_iff, List.isEmpty_iff, decide_eq_true_iff, ← hl]
  exact List.length_eq_zero_iff.symm
theorem zero_iff (s : ByteArray) : (s.toList == [48]) = decide (s = ⟨#[48]⟩) := by
  rw [ByteArray.toList_eq, Bool.eq_iff_iff]
  simp
  cases s with
  | mk d =>
    constructor
    · intro h; congr 1; exact Array.ext' h
    · intro h; injection h with h; rw [h]
def RetNum (r : Option Int) (w : World) (e : Ending) (w' : World) : Prop := e = .returned (.tuple #[.int .i64 (valO r), .bool r.isSome]) ∧ w = w'

theorem neg_true {s : ByteArray} (h : isNeg s = true) : (byteAt s 0 == 45) = true := by unfold isNeg at h; simp at h; simp [h.2]
theorem neg_false {s : ByteArray} (h : isNeg s = false) (h0 : 0 < s.size) : (byteAt s 0 == 45) = false := by unfold isNeg at h; rw [decide_eq_false_iff_not] at h; exact beq_eq_false_iff_ne.2 fun e => h ⟨h0, e⟩
theorem neg_size {s : ByteArray} (h : isNeg s = true) : 0 < s.size := (of_decide_eq_true h).1
theorem slice_rest (s D : ByteArray) (hg : isNeg s = true) (hD : digitsOf s = D) (w : World) : (Instr.slice 9 (.string s) (some (.int .i64 1)) none none).run Tryz.prog w = .ok (.string D) w := by
  have h := neg_size hg
  have e : D = s.extract 1 s.size := by rw [← hD]; unfold digitsOf; rw [if_pos hg]
  rw [e]
  exact run_slice_string_l w 9 s Tryz.underlying9 .i64 1 (by omega) (by omega)

set_option maxRecDepth 100000 in
set_option maxHeartbeats 1000000 in
theorem num_p0 (s : ByteArray) (w : World) (he : s.size = 0) :
    Calls Tryz.prog 20 #[.string s] w (RetNum (none) w) := by
  have hse : s.toList.isEmpty = true := by rw [empty_iff]; exact decide_eq_true he
  clear he
  go_enter Tryz.func20, Tryz.ntmps20
  go_wp2
  go_ret2
  exact ⟨rfl, rfl⟩

set_option maxRecDepth 100000 in
set_option maxHeartbeats 1000000 in
theorem num_p19 (s D : ByteArray) (w : World) (hs : s.size ≤ 9223372036854775807) (hD : digitsOf s = D) (hg : isNeg s = false) (he : 19 < D.size) :
    Calls Tryz.prog 20 #[.string s] w (RetNum (none) w) := by
  obtain rfl : s = D := by rw [← hD]; unfold digitsOf; rw [if_neg (by rw [hg]; exact Bool.noConfusion)]
  clear hD
  have hse : s.toList.isEmpty = false := by rw [empty_iff]; exact decide_eq_false (by omega)
  have hi0 : ∀ w : World, (Instr.index 9 (.string s) (.int .i64 0)).run Tryz.prog w = .ok (.int .u8 (byteAt s 0)) w := index_at s 0 (by omega)
  have hm := neg_false hg (by omega)
  have h19 : (19 : Int) < (s.size : Int) := by omega
  clear he
  go_enter Tryz.func20, Tryz.ntmps20
  go_wp2
  go_ret2
  exact ⟨rfl, rfl⟩

set_option maxRecDepth 100000 in
set_option maxHeartbeats 1000000 in
theorem num_n0 (s D : ByteArray) (w : World) (hs : s.size ≤ 9223372036854775807) (hD : digitsOf s = D) (hg : isNeg s = true) (he : D.size = 0) :
    Calls Tryz.prog 20 #[.string s] w (RetNum (none) w) := by
  have hs0 := neg_size hg
  have hse : s.toList.isEmpty = false := by rw [empty_iff]; exact decide_eq_false (by omega)
  have hi0 : ∀ w : World, (Instr.index 9 (.string s) (.int .i64 0)).run Tryz.prog w = .ok (.int .u8 (byteAt s 0)) w := index_at s 0 hs0
  have hm := neg_true hg
  have hsl := slice_rest s D hg hD
  have hde : D.toList.isEmpty = true := by rw [empty_iff]; exact decide_eq_true he
  clear hD hg he
  go_enter Tryz.func20, Tryz.ntmps20
  go_wp2
  go_ret2
  exact ⟨rfl, rfl⟩

set_option maxRecDepth 100000 in
set_option maxHeartbeats 1000000 in
theorem num_n19 (s D : ByteArray) (w : World) (hs : s.size ≤ 9223372036854775807) (hD : digitsOf s = D) (hg : isNeg s = true) (he : 19 < D.size) :
    Calls Tryz.prog 20 #[.string s] w (RetNum (none) w) := by
  have hs0 := neg_size hg
  have hse : s.toList.isEmpty = false := by rw [empty_iff]; exact decide_eq_false (by omega)
  have hi0 : ∀ w : World, (Instr.index 9 (.string s) (.int .i64 0)).run Tryz.prog w = .ok (.int .u8 (byteAt s 0)) w := index_at s 0 hs0
  have hm := neg_true hg
  have hsl := slice_rest s D hg hD
  have hde : D.toList.isEmpty = false := by rw [empty_iff]; exact decide_eq_false (by omega)
  have h19 : (19 : Int) < (D.size : Int) := by omega
  clear he hD
  go_enter Tryz.func20, Tryz.ntmps20
  go_wp2
  go_ret2
  exact ⟨rfl, rfl⟩

set_option maxRecDepth 100000 in
set_option maxHeartbeats 1000000 in
theorem num_pz (s D : ByteArray) (w : World) (hs : s.size ≤ 9223372036854775807) (hD : digitsOf s = D) (hg : isNeg s = false) (he : ¬ D.size = 0) (hl : ¬ 19 < D.size) (h48 : byteAt D 0 = 48) (hz : ¬ s = ⟨#[48]⟩) :
    Calls Tryz.prog 20 #[.string s] w (RetNum (none) w) := by
  obtain rfl : s = D := by rw [← hD]; unfold digitsOf; rw [if_neg (by rw [hg]; exact Bool.noConfusion)]
  clear hD
  have hse : s.toList.isEmpty = false := by rw [empty_iff]; exact decide_eq_false (by omega)
  have hi0 : ∀ w : World, (Instr.index 9 (.string s) (.int .i64 0)).run Tryz.prog w = .ok (.int .u8 (byteAt s 0)) w := index_at s 0 (by omega)
  have hm := neg_false hg (by omega)
  have h19 : ¬ (19 : Int) < (s.size : Int) := by omega
  have h48b : (byteAt s 0 == 48) = true := by rw [h48]; rfl
  have hzb : (s.toList == [48]) = false := by rw [zero_iff]; exact decide_eq_false hz
  rw [h48] at hi0
  clear h48 h48b hm
  clear hz hg he hl
  go_enter Tryz.func20, Tryz.ntmps20
  go_wp2
  go_ret2
  exact ⟨rfl, rfl⟩

set_option maxRecDepth 100000 in
set_option maxHeartbeats 1000000 in
theorem num_pl (s D : ByteArray) (w : World) (hs : s.size ≤ 9223372036854775807) (hD : digitsOf s = D) (hg : isNeg s = false) (he : ¬ D.size = 0) (hl : ¬ 19 < D.size) (h48 : ¬ byteAt D 0 = 48) :
    Calls Tryz.prog 20 #[.string s] w (RetNum (numOf s) w) := by
  have hnum := numOf_acc s (by rw [hD]; rintro (h | h | h); exact he h; exact hl h; exact h48 h.1)
  rw [hD, hg] at hnum
  have hN : Hid (acc (byteAt D) D.size = none → numOf s = none) := fun h => by rw [hnum, h]
  have hS : Hid (∀ v, acc (byteAt D) D.size = some v → numOf s = some (v)) := fun v h => by rw [hnum, h]; rfl
  clear hnum
  obtain rfl : s = D := by rw [← hD]; unfold digitsOf; rw [if_neg (by rw [hg]; exact Bool.noConfusion)]
  clear hD
  have hse : s.toList.isEmpty = false := by rw [empty_iff]; exact decide_eq_false (by omega)
  have hi0 : ∀ w : World, (Instr.index 9 (.string s) (.int .i64 0)).run Tryz.prog w = .ok (.int .u8 (byteAt s 0)) w := index_at s 0 (by omega)
  have hm := neg_false hg (by omega)
  have h19 : ¬ (19 : Int) < (s.size : Int) := by omega
  have h48b : (byteAt s 0 == 48) = false := beq_eq_false_iff_ne.2 h48
  replace h48 := Lib.hid h48
  replace hg := Lib.hid hg
  go_enter Tryz.func20, Tryz.ntmps20
  go_wp2
  go_loopg [6, 7] s.size (fun g v i wr => ∃ (j : Nat) (x : Int), j ≤ s.size ∧ g = s.size - j ∧ i = .int .i64 j ∧ v = .int .i64 x ∧ Hid (acc (byteAt s) j = some x) ∧ 0 ≤ x ∧ x ≤ 4611686018427387904 ∧ w = wr)
  case atStart => exact ⟨0, 0, Nat.zero_le _, rfl, rfl, rfl, rfl, by omega, by omega, rfl⟩
  case round =>
    obtain ⟨j, x, hj, rfl, rfl, rfl, hacc, hx0, hx1, rfl⟩ := hrel
    by_cases hlt : j < s.size
    · have hij := index_at s j hlt
      obtain ⟨hb0, hb1⟩ := byteAt_range s j
      obtain ⟨b, hb⟩ : ∃ b, b = byteAt s j := ⟨_, rfl⟩
      rw [← hb] at hij hb0 hb1
      replace hb := Lib.hid hb
      by_cases c1 : b - 48 < 0
      · have e0 := Lib.hid (hN.out (acc_none (acc_bad hacc.out (by rw [← hb.out]; exact Or.inl c1)) _ hlt))
        go_wp2
        go_ret2
        exact ⟨by rw [e0.out]; rfl, rfl⟩
      by_cases c2 : 9 < b - 48
      · have e0 := Lib.hid (hN.out (acc_none (acc_bad hacc.out (by rw [← hb.out]; exact Or.inr (Or.inl c2))) _ hlt))
        go_wp2
        go_ret2
        exact ⟨by rw [e0.out]; rfl, rfl⟩
      by_cases c3 : (4611686018427387904 - (b - 48)) / 10 < x
      · have e0 := Lib.hid (hN.out (acc_none (acc_bad hacc.out (by rw [← hb.out]; exact Or.inr (Or.inr c3))) _ hlt))
        go_wp2
        trace_state
        go_ret2
        exact ⟨by rw [e0.out]; rfl, rfl⟩
      · have a1 := Lib.hid (acc_good hacc.out (by rw [← hb.out]; omega))
        rw [← hb.out] at a1
        have a2 : Hid (0 ≤ 10 * x + (b - 48) ∧ 10 * x + (b - 48) ≤ 4611686018427387904) := by show _ ∧ _; omega
        go_wp2
        go_roundg (s.size - (j + 1))
        case measure => omega
        case rel => exact ⟨j + 1, 10 * x + (b - 48), hlt, rfl, by go_num, by go_num, a1, a2.out.1, a2.out.2, rfl⟩
    · obtain rfl : j = s.size := by omega
      have e0 := Lib.hid (hS.out x hacc.out)
      go_wp2
      go_ret2
      exact ⟨by rw [e0.out]; rfl, rfl⟩

set_option maxRecDepth 100000 in
set_option maxHeartbeats 1000000 in
theorem num_nz (s D : ByteArray) (w : World) (hs : s.size ≤ 9223372036854775807) (hD : digitsOf s = D) (hg : isNeg s = true) (he : ¬ D.size = 0) (hl : ¬ 19 < D.size) (h48 : byteAt D 0 = 48) (hz : ¬ s = ⟨#[48]⟩) :
    Calls Tryz.prog 20 #[.string s] w (RetNum (none) w) := by
  have hs0 := neg_size hg
  have hse : s.toList.isEmpty = false := by rw [empty_iff]; exact decide_eq_false (by omega)
  have hi0 : ∀ w : World, (Instr.index 9 (.string s) (.int .i64 0)).run Tryz.prog w = .ok (.int .u8 (byteAt s 0)) w := index_at s 0 hs0
  have hm := neg_true hg
  have hsl := slice_rest s D hg hD
  have hde : D.toList.isEmpty = false := by rw [empty_iff]; exact decide_eq_false (by omega)
  have hd0 : ∀ w : World, (Instr.index 9 (.string D) (.int .i64 0)).run Tryz.prog w = .ok (.int .u8 (byteAt D 0)) w := index_at D 0 (by omega)
  have h19 : ¬ (19 : Int) < (D.size : Int) := by omega
  have h48b : (byteAt D 0 == 48) = true := by rw [h48]; rfl
  have hzb : (s.toList == [48]) = false := by rw [zero_iff]; exact decide_eq_false hz
  have h45 : byteAt s 0 = 45 := by simpa using hm
  clear hm
  rw [h45] at hi0
  rw [h48] at hd0
  clear h48 h48b h45
  clear hz hg he hl hD
  go_enter Tryz.func20, Tryz.ntmps20
  go_wp2
  go_ret2
  exact ⟨rfl, rfl⟩

set_option maxRecDepth 100000 in
set_option maxHeartbeats 1000000 in
theorem num_nl (s D : ByteArray) (w : World) (hs : s.size ≤ 9223372036854775807) (hD : digitsOf s = D) (hg : isNeg s = true) (he : ¬ D.size = 0) (hl : ¬ 19 < D.size) (h48 : ¬ byteAt D 0 = 48) :
    Calls Tryz.prog 20 #[.string s] w (RetNum (numOf s) w) := by
  have hnum := numOf_acc s (by rw [hD]; rintro (h | h | h); exact he h; exact hl h; exact h48 h.1)
  rw [hD, hg] at hnum
  have hN : Hid (acc (byteAt D) D.size = none → numOf s = none) := fun h => by rw [hnum, h]
  have hS : Hid (∀ v, acc (byteAt D) D.size = some v → numOf s = some (-v)) := fun v h => by rw [hnum, h]; rfl
  clear hnum
  have hs0 := neg_size hg
  have hse : s.toList.isEmpty = false := by rw [empty_iff]; exact decide_eq_false (by omega)
  have hi0 : ∀ w : World, (Instr.index 9 (.string s) (.int .i64 0)).run Tryz.prog w = .ok (.int .u8 (byteAt s 0)) w := index_at s 0 hs0
  have hm := neg_true hg
  have hsl := slice_rest s D hg hD
  have hde : D.toList.isEmpty = false := by rw [empty_iff]; exact decide_eq_false (by omega)
  have hd0 : ∀ w : World, (Instr.index 9 (.string D) (.int .i64 0)).run Tryz.prog w = .ok (.int .u8 (byteAt D 0)) w := index_at D 0 (by omega)
  have h19 : ¬ (19 : Int) < (D.size : Int) := by omega
  have h48b : (byteAt D 0 == 48) = false := beq_eq_false_iff_ne.2 h48
  replace h48 := Lib.hid h48
  replace hg := Lib.hid hg
  replace hD := Lib.hid hD
  go_enter Tryz.func20, Tryz.ntmps20
  go_wp2
  go_loopg [6, 7] D.size (fun g v i wr => ∃ (j : Nat) (x : Int), j ≤ D.size ∧ g = D.size - j ∧ i = .int .i64 j ∧ v = .int .i64 x ∧ Hid (acc (byteAt D) j = some x) ∧ 0 ≤ x ∧ x ≤ 4611686018427387904 ∧ w = wr)
  case atStart => exact ⟨0, 0, Nat.zero_le _, rfl, rfl, rfl, rfl, by omega, by omega, rfl⟩
  case round =>
    obtain ⟨j, x, hj, rfl, rfl, rfl, hacc, hx0, hx1, rfl⟩ := hrel
    by_cases hlt : j < D.size
    · have hij := index_at D j hlt
      obtain ⟨hb0, hb1⟩ := byteAt_range D j
      obtain ⟨b, hb⟩ : ∃ b, b = byteAt D j := ⟨_, rfl⟩
      rw [← hb] at hij hb0 hb1
      replace hb := Lib.hid hb
      by_cases c1 : b - 48 < 0
      · have e0 := Lib.hid (hN.out (acc_none (acc_bad hacc.out (by rw [← hb.out]; exact Or.inl c1)) _ hlt))
        go_wp2
        go_ret2
        exact ⟨by rw [e0.out]; rfl, rfl⟩
      by_cases c2 : 9 < b - 48
      · have e0 := Lib.hid (hN.out (acc_none (acc_bad hacc.out (by rw [← hb.out]; exact Or.inr (Or.inl c2))) _ hlt))
        go_wp2
        go_ret2
        exact ⟨by rw [e0.out]; rfl, rfl⟩
      by_cases c3 : (4611686018427387904 - (b - 48)) / 10 < x
      · have e0 := Lib.hid (hN.out (acc_none (acc_bad hacc.out (by rw [← hb.out]; exact Or.inr (Or.inr c3))) _ hlt))
        go_wp2
        trace_state
        go_ret2
        exact ⟨by rw [e0.out]; rfl, rfl⟩
      · have a1 := Lib.hid (acc_good hacc.out (by rw [← hb.out]; omega))
        rw [← hb.out] at a1
        have a2 : Hid (0 ≤ 10 * x + (b - 48) ∧ 10 * x + (b - 48) ≤ 4611686018427387904) := by show _ ∧ _; omega
        go_wp2
        go_roundg (D.size - (j + 1))
        case measure => omega
        case rel => exact ⟨j + 1, 10 * x + (b - 48), hlt, rfl, by go_num, by go_num, a1, a2.out.1, a2.out.2, rfl⟩
    · obtain rfl : j = D.size := by omega
      have e0 := Lib.hid (hS.out x hacc.out)
      go_wp2
      go_ret2
      exact ⟨by rw [e0.out]; rfl, rfl⟩

theorem num_zero (w : World) : Calls Tryz.prog 20 #[.string ⟨#[48]⟩] w (RetNum (some 0) w) := by
  go_enter Tryz.func20, Tryz.ntmps20
  go_wp2
  go_loopg [6, 7] 1 (fun g v i wr => (g = 1 ∧ v = .int .i64 0 ∧ i = .int .i64 0 ∧ w = wr) ∨ (g = 0 ∧ v = .int .i64 0 ∧ i = .int .i64 1 ∧ w = wr))
  case atStart => exact Or.inl ⟨rfl, rfl, rfl, rfl⟩
  case round =>
    rcases hrel with ⟨rfl, rfl, rfl, rfl⟩ | ⟨rfl, rfl, rfl, rfl⟩
    · go_wp2
      go_roundg 0
      case measure => omega
      case rel => exact Or.inr ⟨rfl, rfl, rfl, rfl⟩
    · go_wp2
      go_ret2
      exact ⟨rfl, rfl⟩
/-- The reference's Number. -/
theorem rnumber_fn (s : ByteArray) (w : World) (hs : s.size ≤ 9223372036854775807) : Calls Tryz.prog 20 #[.string s] w (RetNum (numOf s) w) := by
  cases hg : isNeg s
  · have hD : digitsOf s = s := by unfold digitsOf; rw [if_neg (by rw [hg]; exact Bool.noConfusion)]
    by_cases he : s.size = 0
    · rw [numOf_none s (by rw [hD]; exact Or.inl he)]; exact num_p0 s w he
    by_cases hl : 19 < s.size
    · rw [numOf_none s (by rw [hD]; exact Or.inr (Or.inl hl))]; exact num_p19 s s w hs hD hg hl
    by_cases h48 : byteAt s 0 = 48
    · by_cases hz : s = ⟨#[48]⟩
      · subst hz
        rw [show numOf ⟨#[48]⟩ = some 0 from by decide +kernel]
        exact num_zero w
      · rw [numOf_none s (by rw [hD]; exact Or.inr (Or.inr ⟨h48, hz⟩))]; exact num_pz s s w hs hD hg he hl h48 hz
    · exact num_pl s s w hs hD hg he hl h48
  · obtain ⟨D, hD⟩ : ∃ D, digitsOf s = D := ⟨_, rfl⟩
    have hz : ¬ s = ⟨#[48]⟩ := fun e => by
      subst e
      exact absurd hg (by decide +kernel)
    by_cases he : D.size = 0
    · rw [numOf_none s (by rw [hD]; exact Or.inl he)]; exact num_n0 s D w hs hD hg he
    by_cases hl : 19 < D.size
    · rw [numOf_none s (by rw [hD]; exact Or.inr (Or.inl hl))]; exact num_n19 s D w hs hD hg hl
    by_cases h48 : byteAt D 0 = 48
    · rw [numOf_none s (by rw [hD]; exact Or.inr (Or.inr ⟨h48, hz⟩))]; exact num_nz s D w hs hD hg he hl h48 hz
    · exact num_nl s D w hs hD hg he hl h48

end Go.Proofs.YtnaeabfmgfipoaaGreatDoor
namespace Go.Proofs.YtnaeabfmgfipoaaGreatDoor
open Go.RowKit

theorem byteAt_left (x y : ByteArray) {j : Nat} (h : j < x.size) : byteAt (x ++ y) j = byteAt x j := by
  unfold byteAt
  have hl : x.data.toList.length = x.size := by cases x; rfl
  rw [ByteArray.data_append, Array.toList_append, List.getD_eq_getElem?_getD, List.getD_eq_getElem?_getD, List.getElem?_append_left (by omega)]
theorem byteAt_last (x : ByteArray) (d : UInt8) : byteAt (x ++ ⟨#[d]⟩) x.size = (d.toNat : Int) := by
  unfold byteAt
  have hl : x.data.toList.length = x.size := by cases x; rfl
  rw [ByteArray.data_append, Array.toList_append, List.getD_eq_getElem?_getD, List.getElem?_append_right (by omega), hl, Nat.sub_self]
  rfl
theorem acc_congr {B C : Nat → Int} : ∀ {k : Nat}, (∀ j, j < k → B j = C j) → acc B k = acc C k
  | 0, _ => rfl
  | k + 1, h => by rw [acc, acc, acc_congr (k := k) (fun j hj => h j (by omega)), h k (by omega)]
theorem digit_byte {d : Nat} (h : d < 10) : ((48 + d).toUInt8.toNat : Int) = 48 + d := by
  have : ∀ d : Fin 10, ((48 + d.val).toUInt8.toNat : Int) = 48 + d.val := by decide +kernel
  exact this ⟨d, h⟩
theorem size_one (d : UInt8) : (⟨#[d]⟩ : ByteArray).size = 1 := rfl
theorem acc_decN : ∀ (b n : Nat), n < b → n ≤ 4611686018427387904 → acc (byteAt (decN n)) (decN n).size = some (n : Int)
  | 0, n, h, _ => absurd h (Nat.not_lt_zero _)
  | b + 1, n, h, hn => by
    by_cases h10 : n < 10
    · rw [decN_lt h10, size_one]
      have h0 : byteAt ⟨#[(48 + n).toUInt8]⟩ 0 = 48 + n := digit_byte h10
      rw [acc_good (v := 0) rfl (by rw [h0]; omega), h0]
      congr 1
      omega
    · have ih := acc_decN b (n / 10) (by omega) (by omega)
      rw [decN_ge h10, ByteArray.size_append, size_one]
      have h1 : acc (byteAt (decN (n / 10) ++ ⟨#[(48 + n % 10).toUInt8]⟩)) (decN (n / 10)).size = some ((n / 10 : Nat) : Int) := by
        rw [acc_congr (C := byteAt (decN (n / 10))) (fun j hj => byteAt_left _ _ hj)]; exact ih
      have h2 : byteAt (decN (n / 10) ++ ⟨#[(48 + n % 10).toUInt8]⟩) (decN (n / 10)).size = 48 + ((n % 10 : Nat) : Int) := by
        rw [byteAt_last]; exact digit_byte (by omega)
      rw [acc_good h1 (by rw [h2]; omega), h2]
      congr 1
      omega
theorem decN_pos (n : Nat) : 0 < (decN n).size := by
  by_cases h : n < 10
  · rw [decN_lt h]; exact Nat.zero_lt_one
  · rw [decN_ge h, ByteArray.size_append, size_one]; omega
theorem decN_head : ∀ (b n : Nat), n < b → 48 ≤ byteAt (decN n) 0 ∧ byteAt (decN n) 0 ≤ 57 ∧ (0 < n → byteAt (decN n) 0 ≠ 48)
  | 0, n, h => absurd h (Nat.not_lt_zero _)
  | b + 1, n, h => by
    by_cases h10 : n < 10
    · rw [decN_lt h10]
      have h0 : byteAt ⟨#[(48 + n).toUInt8]⟩ 0 = 48 + n := digit_byte h10
      rw [h0]
      omega
    · rw [decN_ge h10, byteAt_left _ _ (decN_pos _)]
      obtain ⟨a1, a2, a3⟩ := decN_head b (n / 10) (by omega)
      exact ⟨a1, a2, fun _ => a3 (by omega)⟩
theorem decN_zero : decN 0 = ⟨#[48]⟩ := by rw [decN_lt (by omega)]; rfl
theorem numOf_decN (n : Nat) (h : n ≤ 4611686018427387904) : numOf (decN n) = some (n : Int) := by
  obtain ⟨a1, a2, a3⟩ := decN_head (n + 1) n (by omega)
  have hg : isNeg (decN n) = false := by
    unfold isNeg
    rw [decide_eq_false_iff_not]
    intro ⟨_, e⟩
    omega
  have hD : digitsOf (decN n) = decN n := by unfold digitsOf; rw [if_neg (by rw [hg]; exact Bool.noConfusion)]
  have hs := decN_size 18 n (by rw [ten19]; omega)
  have hp := decN_pos n
  rw [numOf_acc, hD, acc_decN (n + 1) n (by omega) h, hg]
  · rfl
  · rw [hD]
    rintro (e | e | ⟨e1, e2⟩)
    · omega
    · omega
    · by_cases h0 : 0 < n
      · exact a3 h0 e1
      · obtain rfl : n = 0 := by omega
        exact e2 decN_zero
theorem rest_of_neg (y : ByteArray) : (⟨#[45]⟩ ++ y).extract 1 (⟨#[45]⟩ ++ y).size = y := by
  apply ByteArray.ext
  apply Array.ext'
  rw [ByteArray.size_append, size_one]
  have hl : y.data.toList.length = y.size := by cases y; rfl
  simp [ByteArray.data_extract, ByteArray.data_append, Array.toList_extract]
  rw [← hl, List.take_length]
/-- A number's own text reads as the number. -/
theorem numOf_decB (n : Int) (h0 : -4611686018427387904 ≤ n) (h1 : n ≤ 4611686018427387904) : numOf (decB n) = some n := by
  by_cases hn : n < 0
  · have e : decB n = ⟨#[45]⟩ ++ decN (-n).toNat := by unfold decB; rw [if_pos hn]
    obtain ⟨p, hp⟩ : ∃ p, p = (-n).toNat := ⟨_, rfl⟩
    rw [e, ← hp]
    obtain ⟨a1, a2, a3⟩ := decN_head (p + 1) p (by omega)
    have hz : byteAt (⟨#[45]⟩ ++ decN p) 0 = 45 := by rw [byteAt_left _ _ (by rw [size_one]; omega)]; rfl
    have hg : isNeg (⟨#[45]⟩ ++ decN p) = true := decide_eq_true ⟨by rw [ByteArray.size_append, size_one]; omega, hz⟩
    have hD : digitsOf (⟨#[45]⟩ ++ decN p) = decN p := by unfold digitsOf; rw [if_pos hg]; exact rest_of_neg _
    have hs := decN_size 18 p (by rw [ten19]; omega)
    have hq := decN_pos p
    rw [numOf_acc, hD, acc_decN (p + 1) p (by omega) (by omega), hg]
    · show some (-(p : Int)) = some n
      congr 1
      omega
    · rw [hD]
      rintro (e | e | ⟨e1, _⟩)
      · omega
      · omega
      · exact a3 (by omega) e1
  · rw [decB_nn (by omega), numOf_decN _ (by omega)]
    congr 1
    omega
end Go.Proofs.YtnaeabfmgfipoaaGreatDoor
namespace Go.Proofs.YtnaeabfmgfipoaaGreatDoor
open Go.RowKit

/-! ### What is kept, field by field -/
def kI (k x : Int) : Int := if k = 1 ∨ k = 2 ∨ k = 3 ∨ k = 4 ∨ k = 5 then x else 0
def kC (k x : Int) : Int := if k = 4 then x else 0
def kN (k x : Int) : Int := if k = 1 ∨ k = 4 ∨ k = 6 then x else 0
def kF (k : Int) (x : Bool) : Bool := if k = 1 then x else false
def kA (k : Int) (x : Option Addr) : Option Addr := if k = 2 ∨ k = 4 then x else none
def kM (k : Int) (x : Nat) : Nat := if k = 2 ∨ k = 4 then x else 0
theorem kinds_or (k : Int) : k = 1 ∨ k = 2 ∨ k = 3 ∨ k = 4 ∨ k = 5 ∨ k = 6 ∨ k = 7 ∨ (k < 1 ∨ 7 < k) := by omega
theorem kI_out {k x : Int} (h : k < 1 ∨ 7 < k) : kI k x = 0 := by unfold kI; rw [if_neg (by omega)]
theorem kC_out {k x : Int} (h : k < 1 ∨ 7 < k) : kC k x = 0 := by unfold kC; rw [if_neg (by omega)]
theorem kN_out {k x : Int} (h : k < 1 ∨ 7 < k) : kN k x = 0 := by unfold kN; rw [if_neg (by omega)]
theorem kF_out {k : Int} {x : Bool} (h : k < 1 ∨ 7 < k) : kF k x = false := by unfold kF; rw [if_neg (by omega)]
theorem kA_out {k : Int} {x : Option Addr} (h : k < 1 ∨ 7 < k) : kA k x = none := by unfold kA; rw [if_neg (by omega)]
theorem kM_out {k : Int} {x : Nat} (h : k < 1 ∨ 7 < k) : kM k x = 0 := by unfold kM; rw [if_neg (by omega)]

theorem Tryz.infoI64 : (Tryz.prog.info? 2).map (fun i => (i.zero, i.size, i.bytes)) = some (some (.int .i64 0), 1, 8) := by kernel_rfl
theorem Keep.set {w w' : World} (k : Keep w w') {a : Addr} (hb : w.heap.size ≤ a.block) (x : Value) : Keep w (w'.setCell a x) := Below.setCell k hb x

set_option maxHeartbeats 1000000 in
theorem rplain_1 (i c n : Int) (f : Bool) (A : Option Addr) (m cp : Nat) (w : World) :
    Calls Tryz.prog 16 #[.agg #[.int .i64 1, .int .i64 i, .int .i64 c, .int .i64 n, .bool f, .slice A m cp]] w fun e w' => e = .returned (.agg #[.int .i64 1, .int .i64 i, .int .i64 0, .int .i64 n, .bool f, .slice none 0 0]) ∧ Keep w w' := by
  go_enter Tryz.func16, Tryz.ntmps16
  go_wp2
  refine bodyPost_ret (v := .agg #[.int .i64 1, .int .i64 i, .int .i64 0, .int .i64 n, .bool f, .slice none 0 0]) (by simp [results, Tryz.results16, go_sem]) rfl ⟨rfl, ?_⟩
  repeat (first | exact Keep.refl _ | apply Keep.alloc | apply Keep.drew | (refine Keep.set ?_ (by simp) _))
set_option maxHeartbeats 1000000 in
theorem rplain_2 (i c n : Int) (f : Bool) (A : Option Addr) (m cp : Nat) (w : World) :
    Calls Tryz.prog 16 #[.agg #[.int .i64 2, .int .i64 i, .int .i64 c, .int .i64 n, .bool f, .slice A m cp]] w fun e w' => e = .returned (.agg #[.int .i64 2, .int .i64 i, .int .i64 0, .int .i64 0, .bool false, .slice A m cp]) ∧ Keep w w' := by
  go_enter Tryz.func16, Tryz.ntmps16
  go_wp2
  refine bodyPost_ret (v := .agg #[.int .i64 2, .int .i64 i, .int .i64 0, .int .i64 0, .bool false, .slice A m cp]) (by simp [results, Tryz.results16, go_sem]) rfl ⟨rfl, ?_⟩
  repeat (first | exact Keep.refl _ | apply Keep.alloc | apply Keep.drew | (refine Keep.set ?_ (by simp) _))
set_option maxHeartbeats 1000000 in
theorem rplain_3 (i c n : Int) (f : Bool) (A : Option Addr) (m cp : Nat) (w : World) :
    Calls Tryz.prog 16 #[.agg #[.int .i64 3, .int .i64 i, .int .i64 c, .int .i64 n, .bool f, .slice A m cp]] w fun e w' => e = .returned (.agg #[.int .i64 3, .int .i64 i, .int .i64 0, .int .i64 0, .bool false, .slice none 0 0]) ∧ Keep w w' := by
  go_enter Tryz.func16, Tryz.ntmps16
  go_wp2
  refine bodyPost_ret (v := .agg #[.int .i64 3, .int .i64 i, .int .i64 0, .int .i64 0, .bool false, .slice none 0 0]) (by simp [results, Tryz.results16, go_sem]) rfl ⟨rfl, ?_⟩
  repeat (first | exact Keep.refl _ | apply Keep.alloc | apply Keep.drew | (refine Keep.set ?_ (by simp) _))
set_option maxHeartbeats 1000000 in
theorem rplain_4 (i c n : Int) (f : Bool) (A : Option Addr) (m cp : Nat) (w : World) :
    Calls Tryz.prog 16 #[.agg #[.int .i64 4, .int .i64 i, .int .i64 c, .int .i64 n, .bool f, .slice A m cp]] w fun e w' => e = .returned (.agg #[.int .i64 4, .int .i64 i, .int .i64 c, .int .i64 n, .bool false, .slice A m cp]) ∧ Keep w w' := by
  go_enter Tryz.func16, Tryz.ntmps16
  go_wp2
  refine bodyPost_ret (v := .agg #[.int .i64 4, .int .i64 i, .int .i64 c, .int .i64 n, .bool false, .slice A m cp]) (by simp [results, Tryz.results16, go_sem]) rfl ⟨rfl, ?_⟩
  repeat (first | exact Keep.refl _ | apply Keep.alloc | apply Keep.drew | (refine Keep.set ?_ (by simp) _))
set_option maxHeartbeats 1000000 in
theorem rplain_5 (i c n : Int) (f : Bool) (A : Option Addr) (m cp : Nat) (w : World) :
    Calls Tryz.prog 16 #[.agg #[.int .i64 5, .int .i64 i, .int .i64 c, .int .i64 n, .bool f, .slice A m cp]] w fun e w' => e = .returned (.agg #[.int .i64 5, .int .i64 i, .int .i64 0, .int .i64 0, .bool false, .slice none 0 0]) ∧ Keep w w' := by
  go_enter Tryz.func16, Tryz.ntmps16
  go_wp2
  refine bodyPost_ret (v := .agg #[.int .i64 5, .int .i64 i, .int .i64 0, .int .i64 0, .bool false, .slice none 0 0]) (by simp [results, Tryz.results16, go_sem]) rfl ⟨rfl, ?_⟩
  repeat (first | exact Keep.refl _ | apply Keep.alloc | apply Keep.drew | (refine Keep.set ?_ (by simp) _))
set_option maxHeartbeats 1000000 in
theorem rplain_6 (i c n : Int) (f : Bool) (A : Option Addr) (m cp : Nat) (w : World) :
    Calls Tryz.prog 16 #[.agg #[.int .i64 6, .int .i64 i, .int .i64 c, .int .i64 n, .bool f, .slice A m cp]] w fun e w' => e = .returned (.agg #[.int .i64 6, .int .i64 0, .int .i64 0, .int .i64 n, .bool false, .slice none 0 0]) ∧ Keep w w' := by
  go_enter Tryz.func16, Tryz.ntmps16
  go_wp2
  refine bodyPost_ret (v := .agg #[.int .i64 6, .int .i64 0, .int .i64 0, .int .i64 n, .bool false, .slice none 0 0]) (by simp [results, Tryz.results16, go_sem]) rfl ⟨rfl, ?_⟩
  repeat (first | exact Keep.refl _ | apply Keep.alloc | apply Keep.drew | (refine Keep.set ?_ (by simp) _))
set_option maxHeartbeats 1000000 in
theorem rplain_7 (i c n : Int) (f : Bool) (A : Option Addr) (m cp : Nat) (w : World) :
    Calls Tryz.prog 16 #[.agg #[.int .i64 7, .int .i64 i, .int .i64 c, .int .i64 n, .bool f, .slice A m cp]] w fun e w' => e = .returned (.agg #[.int .i64 7, .int .i64 0, .int .i64 0, .int .i64 0, .bool false, .slice none 0 0]) ∧ Keep w w' := by
  go_enter Tryz.func16, Tryz.ntmps16
  go_wp2
  refine bodyPost_ret (v := .agg #[.int .i64 7, .int .i64 0, .int .i64 0, .int .i64 0, .bool false, .slice none 0 0]) (by simp [results, Tryz.results16, go_sem]) rfl ⟨rfl, ?_⟩
  repeat (first | exact Keep.refl _ | apply Keep.alloc | apply Keep.drew | (refine Keep.set ?_ (by simp) _))
set_option maxHeartbeats 1000000 in
theorem rplain_out (k i c n : Int) (f : Bool) (A : Option Addr) (m cp : Nat) (w : World) (h : k < 1 ∨ 7 < k) :
    Calls Tryz.prog 16 #[.agg #[.int .i64 k, .int .i64 i, .int .i64 c, .int .i64 n, .bool f, .slice A m cp]] w fun e w' => e = .returned (.agg #[.int .i64 k, .int .i64 0, .int .i64 0, .int .i64 0, .bool false, .slice none 0 0]) ∧ Keep w w' := by
  have h1 : (k == 1) = false := beq_eq_false_iff_ne.2 (by omega)
  have h2 : (k == 2) = false := beq_eq_false_iff_ne.2 (by omega)
  have h3 : (k == 3) = false := beq_eq_false_iff_ne.2 (by omega)
  have h4 : (k == 4) = false := beq_eq_false_iff_ne.2 (by omega)
  have h5 : (k == 5) = false := beq_eq_false_iff_ne.2 (by omega)
  have h6 : (k == 6) = false := beq_eq_false_iff_ne.2 (by omega)
  rcases h with h | h
  · go_enter Tryz.func16, Tryz.ntmps16
    go_wp2
    refine bodyPost_ret (v := .agg #[.int .i64 k, .int .i64 0, .int .i64 0, .int .i64 0, .bool false, .slice none 0 0]) (by simp [results, Tryz.results16, go_sem]) rfl ⟨rfl, ?_⟩
    repeat (first | exact Keep.refl _ | apply Keep.alloc | apply Keep.drew | (refine Keep.set ?_ (by simp) _))
  · go_enter Tryz.func16, Tryz.ntmps16
    go_wp2
    refine bodyPost_ret (v := .agg #[.int .i64 k, .int .i64 0, .int .i64 0, .int .i64 0, .bool false, .slice none 0 0]) (by simp [results, Tryz.results16, go_sem]) rfl ⟨rfl, ?_⟩
    repeat (first | exact Keep.refl _ | apply Keep.alloc | apply Keep.drew | (refine Keep.set ?_ (by simp) _))
theorem rplain_fn (k i c n : Int) (f : Bool) (A : Option Addr) (m cp : Nat) (w : World) :
    Calls Tryz.prog 16 #[.agg #[.int .i64 k, .int .i64 i, .int .i64 c, .int .i64 n, .bool f, .slice A m cp]] w fun e w' => e = .returned (.agg #[.int .i64 k, .int .i64 (kI k i), .int .i64 (kC k c), .int .i64 (kN k n), .bool (kF k f), .slice (kA k A) (kM k m) (kM k cp)]) ∧ Keep w w' := by
  rcases kinds_or k with rfl | rfl | rfl | rfl | rfl | rfl | rfl | h
  · exact rplain_1 i c n f A m cp w
  · exact rplain_2 i c n f A m cp w
  · exact rplain_3 i c n f A m cp w
  · exact rplain_4 i c n f A m cp w
  · exact rplain_5 i c n f A m cp w
  · exact rplain_6 i c n f A m cp w
  · exact rplain_7 i c n f A m cp w
  · rw [kI_out h, kC_out h, kN_out h, kF_out h, kA_out h, kM_out h, kM_out h]
    exact rplain_out k i c n f A m cp w h
end Go.Proofs.YtnaeabfmgfipoaaGreatDoor
namespace Go.Proofs.YtnaeabfmgfipoaaGreatDoor
open Go.RowKit


theorem Rd.own {w : World} {base n cap : Nat} {A : Option Addr} {D : Nat → Int} (h : w.ownsRow base 2 1 (.slice A n cap) n (rowL n D)) (hn : n ≤ 9223372036854775807) (hr : ∀ k, k < n → -9223372036854775808 ≤ D k ∧ D k ≤ 9223372036854775807) : Rd w A n D := by
  obtain ⟨A', cap', e, hrd⟩ := Rd.ofOwn h hn hr
  simp only [Value.slice.injEq] at e
  obtain ⟨rfl, _⟩ := e
  exact hrd
theorem own_form {w : World} {base n : Nat} {v : Value} {xs : List Value} (h : w.ownsRow base 2 1 v n xs) : ∃ A cap, v = .slice A n cap ∧ (A = none → n = 0 ∧ cap = 0) := by
  rcases h.2 with ⟨rfl, rfl⟩ | ⟨g, cap, cur, rfl, _⟩
  · exact ⟨none, 0, rfl, fun _ => ⟨rfl, rfl⟩⟩
  · exact ⟨_, cap, rfl, fun h => by cases h⟩
theorem own_keep {w w' : World} {base n : Nat} {e : TypeId} {z : Nat} {v : Value} {xs : List Value} (h : w.ownsRow base e z v n xs) (k : Keep w w') : w'.ownsRow base e z v n xs :=
  h.kept k.grown (Classical.em (v.ownBlock = none))
theorem keep_grown {w a b : World} (k : Keep w a) {row : Option Nat} (hg : a.grownBy b row) (hrow : ∀ g, row = some g → w.heap.size ≤ g) : Keep w b :=
  Below.grown k hg k.size hrow
theorem news_of {w : World} {a : Addr} {n : Nat} {Z : Nat → Int} (h : Rd w (some a) n Z) : ∀ j u, (rowL n Z)[j]? = some u → w.cell? (a.add j) = some u := by
  intro j u hu
  have hj : j < n := by
    have := (List.getElem?_eq_some_iff.1 hu).1
    simpa [rowL] using this
  obtain ⟨b, off, e, hc⟩ := h.adr (by omega)
  obtain rfl := Option.some.inj e
  rw [WideShapes.add_plain, hc j hj]
  simpa [rowL, hj] using hu
theorem rowL_one (n : Nat) (Z : Nat → Int) : ∀ u ∈ rowL n Z, u.oneCell' = true := by
  intro u hu
  simp only [rowL, List.mem_map] at hu
  obtain ⟨k, _, rfl⟩ := hu
  rfl

theorem Tryz.eqNil (w : World) : (binOp .eql 32 (.slice none 0 0) (.slice none 0 0)).run Tryz.prog w = .ok (.bool true) w := by kernel_rfl
theorem Tryz.eqSome (a : Addr) (n c : Nat) (w : World) : (binOp .eql 32 (.slice (some a) n c) (.slice none 0 0)).run Tryz.prog w = .ok (.bool false) w := by kernel_rfl
set_option maxHeartbeats 1000000 in
theorem sclone_own (A : Option Addr) (n c : Nat) (Z : Nat → Int) (w : World) (hA : Rd w A n Z) (h0 : A = none → n = 0 ∧ c = 0) (hn : n ≤ 1048576) :
    Calls Tryz.prog 61 #[.slice A n c] w fun e w' => ∃ A' cap, e = .returned (.slice A' n cap) ∧ Keep w w' ∧ w'.ownsRow w.heap.size 2 1 (.slice A' n cap) n (rowL n Z) := by
  cases A with
  | none =>
    obtain ⟨rfl, rfl⟩ := h0 rfl
    clear h0 hA
    have q1 := Tryz.eqNil
    go_enter Tryz.func61, Tryz.ntmps61
    go_wp2
    go_ret
    exact ⟨none, 0, rfl, Keep.refl _, World.ownsRow_nil _ _ _ _⟩
  | some a =>
    clear h0
    obtain ⟨i0, hi0, hz0, hz1, hz2⟩ := info_parts Tryz.infoI64
    have hnew := news_of (hA.keep (Keep.one w (.cells #[] 2)))
    replace hnew := Lib.hid hnew
    have hown := World.ownsRow_made (base := w.heap.size) (e := 2) (size := 1) w #[] 0 (Nat.le_refl _) (Nat.zero_le _) rfl
    clear hA
    have q1 := Tryz.eqSome
    go_enter Tryz.func61, Tryz.ntmps61
    go_wp2_with (at_builtin; refine wpList_append_own _ rfl _ _ 32 rfl w.heap.size 2 i0 (.int .i64 0) 1 8 Tryz.underlying32 hi0 hz0 hz1 hz2 rfl (by decide) _ _ _ rfl hown a n c (rowL n Z) rfl (by simp [rowL]) hnew.out (rowL_one n Z) (by unfold maxLen; omega) (by omega) (by simp) ?_; intro v' w2 hown2 hgrow hnil)
    go_ret
    obtain ⟨A', cap, rfl, _⟩ := own_form hown2
    simp only [Nat.zero_add, List.nil_append] at hown2
    exact ⟨A', cap, by simp, keep_grown (Keep.one w _) hgrow (fun q hq => (hown.lt q hq).1), hown2⟩

end Go.Proofs.YtnaeabfmgfipoaaGreatDoor
namespace Go.Proofs.YtnaeabfmgfipoaaGreatDoor
open Go.RowKit

theorem Tryz.infoStr : (Tryz.prog.info? 9).map (fun i => (i.zero, i.size, i.bytes)) = some (some (.string ⟨#[]⟩), 1, 16) := by kernel_rfl
/-- Is a word at its end at place i? -/
def cutAt (s : ByteArray) (i : Nat) : Bool := decide (i = s.size ∨ byteAt s i = 32)
def frm (s : ByteArray) : Nat → Nat
  | 0 => 0
  | i + 1 => if cutAt s i then i + 1 else frm s i
def wds (s : ByteArray) : Nat → List ByteArray
  | 0 => []
  | i + 1 => if cutAt s i then wds s i ++ [s.extract (frm s i) i] else wds s i
/-- The words of a line. -/
def wordsOf (s : ByteArray) : List ByteArray := wds s (s.size + 1)
theorem frm_le (s : ByteArray) : ∀ i, frm s i ≤ i
  | 0 => Nat.le_refl _
  | i + 1 => by
    unfold frm
    have := frm_le s i
    split <;> omega
theorem wds_len (s : ByteArray) : ∀ i, (wds s i).length ≤ i
  | 0 => Nat.le_refl _
  | i + 1 => by
    unfold wds
    have := wds_len s i
    split
    · simp; omega
    · omega
theorem frm_cut {s : ByteArray} {i : Nat} (h : cutAt s i = true) : frm s (i + 1) = i + 1 := by rw [frm, if_pos h]
theorem frm_not {s : ByteArray} {i : Nat} (h : cutAt s i = false) : frm s (i + 1) = frm s i := by rw [frm, if_neg (by rw [h]; exact Bool.noConfusion)]
theorem wds_cut {s : ByteArray} {i : Nat} (h : cutAt s i = true) : wds s (i + 1) = wds s i ++ [s.extract (frm s i) i] := by rw [wds, if_pos h]
theorem wds_not {s : ByteArray} {i : Nat} (h : cutAt s i = false) : wds s (i + 1) = wds s i := by rw [wds, if_neg (by rw [h]; exact Bool.noConfusion)]
theorem slice_mid (s : ByteArray) (a b : Nat) (h1 : a ≤ b) (h2 : b ≤ s.size) (w : World) : (Instr.slice 9 (.string s) (some (.int .i64 a)) (some (.int .i64 b)) none).run Tryz.prog w = .ok (.string (s.extract a b)) w := by
  rw [run_slice_string_if w _ _ _ _ _ _ Tryz.underlying9, if_pos (by omega), if_pos (by omega)]
  rfl

set_option maxHeartbeats 2000000 in
theorem words_fn (s : ByteArray) (w : World) (hs : s.size ≤ 1048576) :
    Calls Tryz.prog 51 #[.string s] w fun e w' => ∃ v, e = .returned v ∧ Keep w w' ∧ w'.ownsRow w.heap.size 9 1 v (wordsOf s).length ((wordsOf s).map .string) := by
  obtain ⟨i0, hi0, hz0, hz1, hz2⟩ := info_parts Tryz.infoStr
  go_enter Tryz.func51, Tryz.ntmps51
  go_wp2
  go_loopg [3, 4, 5] (s.size + 1) (fun g ov fv i wr => ∃ j : Nat, j ≤ s.size + 1 ∧ g = s.size + 1 - j ∧ i = .int .i64 j ∧ fv = .int .i64 (frm s j) ∧ Hid (Keep w wr) ∧ Hid (wr.ownsRow w.heap.size 9 1 ov (wds s j).length ((wds s j).map .string)))
  case atStart => exact ⟨0, Nat.zero_le _, rfl, rfl, rfl, Keep.refl _, World.ownsRow_nil _ _ _ _⟩
  case round =>
    obtain ⟨j, hj, rfl, rfl, rfl, hk, hown⟩ := hrel
    by_cases hlt : j ≤ s.size
    · have hsl := slice_mid s (frm s j) j (frm_le s j) hlt
      have hlen := wds_len s j
      obtain ⟨F, hF⟩ : ∃ F, F = frm s j := ⟨_, rfl⟩
      obtain ⟨X, hX⟩ : ∃ X, X = s.extract F j := ⟨_, rfl⟩
      rw [← hF, ← hX] at hsl
      rw [← hF]
      replace hF := Lib.hid hF
      replace hX := Lib.hid hX
      by_cases hend : j = s.size
      · have heq : ((j : Int) == (s.size : Int)) = true := by simp; omega
        have hc : Hid (cutAt s j = true) := decide_eq_true (Or.inl hend)
        replace hend := Lib.hid hend
        have hown0 := hown.out
        have hsz := hk.out.size
        go_wp2_with (at_builtin; refine wpList_append_own _ rfl _ _ 49 rfl w.heap.size 9 i0 (.string ⟨#[]⟩) 1 16 Tryz.underlying49 hi0 hz0 hz1 hz2 rfl (by decide) _ _ _ rfl (own_keep hown0 (Keep.one _ _)) ⟨wr.heap.size, 0, none⟩ 1 1 [.string X] rfl rfl (cell_one_new _ _ _) (by intro u hu; simp at hu; subst hu; rfl) (by unfold maxLen; omega) (by omega) (by simp; omega) ?_; intro v' w2 hown2 hgrow hnil)
        go_roundg (s.size + 1 - (j + 1))
        case measure => omega
        case rel => exact ⟨j + 1, by omega, rfl, by go_num, by rw [frm_cut hc.out]; go_num, keep_grown (hk.out.alloc _) hgrow (fun q hq => (hown0.lt q hq).1), by rw [wds_cut hc.out, List.length_append, List.map_append, ← hF.out, ← hX.out]; exact hown2⟩
      · have heq : ((j : Int) == (s.size : Int)) = false := by simp; omega
        have hix := index_at s j (by omega)
        by_cases hb : byteAt s j = 32
        · have hc : Hid (cutAt s j = true) := decide_eq_true (Or.inr hb)
          rw [hb] at hix
          replace hend := Lib.hid hend
          replace hb := Lib.hid hb
          have hown0 := hown.out
          have hsz := hk.out.size
          go_wp2_with (at_builtin; refine wpList_append_own _ rfl _ _ 49 rfl w.heap.size 9 i0 (.string ⟨#[]⟩) 1 16 Tryz.underlying49 hi0 hz0 hz1 hz2 rfl (by decide) _ _ _ rfl (own_keep hown0 (Keep.one _ _)) ⟨wr.heap.size, 0, none⟩ 1 1 [.string X] rfl rfl (cell_one_new _ _ _) (by intro u hu; simp at hu; subst hu; rfl) (by unfold maxLen; omega) (by omega) (by simp; omega) ?_; intro v' w2 hown2 hgrow hnil)
          go_roundg (s.size + 1 - (j + 1))
          case measure => omega
          case rel => exact ⟨j + 1, by omega, rfl, by go_num, by rw [frm_cut hc.out]; go_num, keep_grown (hk.out.alloc _) hgrow (fun q hq => (hown0.lt q hq).1), by rw [wds_cut hc.out, List.length_append, List.map_append, ← hF.out, ← hX.out]; exact hown2⟩
        · have hc : Hid (cutAt s j = false) := decide_eq_false (fun h => by rcases h with h | h; exact hend h; exact hb h)
          have hbb : (byteAt s j == 32) = false := beq_eq_false_iff_ne.2 hb
          replace hend := Lib.hid hend
          replace hb := Lib.hid hb
          go_wp2
          go_roundg (s.size + 1 - (j + 1))
          case measure => omega
          case rel => exact ⟨j + 1, by omega, rfl, by go_num, by rw [frm_not hc.out, ← hF.out], hk, by rw [wds_not hc.out]; exact hown⟩
    · have hje : j = s.size + 1 := by omega
      have hgt : ¬ (j : Int) ≤ (s.size : Int) := by omega
      have hfin := hown
      rw [hje, show wds s (s.size + 1) = wordsOf s from rfl] at hfin
      clear hlt hj hown hje
      go_wp2
      go_ret
      exact ⟨_, rfl, hk.out, hfin.out⟩
end Go.Proofs.YtnaeabfmgfipoaaGreatDoor
namespace Go.Proofs.YtnaeabfmgfipoaaGreatDoor
open Go.RowKit

def noSp (s : ByteArray) : Prop := ∀ j, j < s.size → byteAt s j ≠ 32
theorem size_list (s : ByteArray) : s.data.toList.length = s.size := by cases s; rfl
theorem byteAt_right (x y : ByteArray) (j : Nat) : byteAt (x ++ y) (x.size + j) = byteAt y j := by
  unfold byteAt
  have hl := size_list x
  rw [ByteArray.data_append, Array.toList_append, List.getD_eq_getElem?_getD, List.getD_eq_getElem?_getD, List.getElem?_append_right (by omega), hl, Nat.add_sub_cancel_left]
theorem extract_left (x y : ByteArray) {a b : Nat} (hab : a ≤ b) (hb : b ≤ x.size) : (x ++ y).extract a b = x.extract a b := by
  apply ByteArray.ext
  apply Array.ext'
  have hl := size_list x
  rw [ByteArray.data_extract, ByteArray.data_extract, ByteArray.data_append, Array.toList_extract, Array.toList_extract, Array.toList_append]
  apply List.ext_getElem?
  intro i
  simp only [List.extract_eq_take_drop, List.getElem?_take, List.getElem?_drop]
  by_cases hi : i < b - a
  · rw [if_pos hi, if_pos hi, List.getElem?_append_left (by omega)]
  · rw [if_neg hi, if_neg hi]
theorem extract_right (x y : ByteArray) : (x ++ y).extract x.size (x ++ y).size = y := by
  apply ByteArray.ext
  apply Array.ext'
  have hl := size_list x
  have hy := size_list y
  rw [ByteArray.data_extract, ByteArray.data_append, Array.toList_extract, Array.toList_append, ByteArray.size_append, List.extract_eq_take_drop, List.drop_append_of_le_length (by omega)]
  rw [List.drop_eq_nil_of_le (by omega), List.nil_append, Nat.add_sub_cancel_left, ← hy, List.take_length]
theorem cut_left (x y : ByteArray) {i : Nat} (h : i < x.size) : cutAt (x ++ y) i = cutAt x i := by
  unfold cutAt
  rw [byteAt_left x y h, ByteArray.size_append, decide_eq_decide]
  omega
theorem wds_left (x y : ByteArray) : ∀ i, i ≤ x.size → wds (x ++ y) i = wds x i ∧ frm (x ++ y) i = frm x i
  | 0, _ => ⟨rfl, rfl⟩
  | i + 1, h => by
    obtain ⟨h1, h2⟩ := wds_left x y i (by omega)
    have hc := cut_left x y (i := i) (by omega)
    have hf := frm_le x i
    rw [wds, wds, frm, frm, h1, h2, hc, extract_left x y hf (by omega)]
    exact ⟨rfl, rfl⟩
/-- A text without a space is one word. -/
theorem wds_noSp {s : ByteArray} (h : noSp s) : ∀ i, i ≤ s.size → wds s i = [] ∧ frm s i = 0
  | 0, _ => ⟨rfl, rfl⟩
  | i + 1, hi => by
    obtain ⟨h1, h2⟩ := wds_noSp h i (by omega)
    have hc : cutAt s i = false := decide_eq_false (fun e => by rcases e with e | e; omega; exact h i (by omega) e)
    rw [wds_not hc, frm_not hc]
    exact ⟨h1, h2⟩
theorem cut_end (s : ByteArray) : cutAt s s.size = true := decide_eq_true (Or.inl rfl)
theorem extract_all (s : ByteArray) : s.extract 0 s.size = s := by
  have h := extract_right ⟨#[]⟩ s
  have e : (⟨#[]⟩ : ByteArray) ++ s = s := by apply ByteArray.ext; simp [ByteArray.data_append]
  rw [e] at h
  exact h
theorem words_one {s : ByteArray} (h : noSp s) : wordsOf s = [s] := by
  obtain ⟨h1, h2⟩ := wds_noSp h s.size (Nat.le_refl _)
  unfold wordsOf
  rw [wds_cut (cut_end s), h1, h2, extract_all]
  rfl
/-- One word more. -/
theorem words_more (s d : ByteArray) (h : noSp d) : wordsOf ((s ++ ⟨#[32]⟩) ++ d) = wordsOf s ++ [d] := by
  obtain ⟨x, hx⟩ : ∃ x, x = s ++ ⟨#[32]⟩ := ⟨_, rfl⟩
  have hxs : x.size = s.size + 1 := by rw [hx, ByteArray.size_append, size_one]
  obtain ⟨t, ht⟩ : ∃ t, t = x ++ d := ⟨_, rfl⟩
  have hts : t.size = s.size + 1 + d.size := by rw [ht, ByteArray.size_append, hxs]
  have e1 : t = s ++ (⟨#[32]⟩ ++ d) := by rw [ht, hx, ByteArray.append_assoc]
  obtain ⟨a1, a2⟩ := wds_left s (⟨#[32]⟩ ++ d) s.size (Nat.le_refl _)
  rw [← e1] at a1 a2
  have hb : byteAt t s.size = 32 := by
    have := byteAt_right s (⟨#[32]⟩ ++ d) 0
    rw [Nat.add_zero, ← e1] at this
    rw [this, byteAt_left _ _ (by rw [size_one]; omega)]
    rfl
  have hc : cutAt t s.size = true := decide_eq_true (Or.inr hb)
  have hx1 : t.extract (frm s s.size) s.size = s.extract (frm s s.size) s.size := by rw [e1]; exact extract_left s _ (frm_le s _) (Nat.le_refl _)
  have w1 : wds t (s.size + 1) = wordsOf s := by unfold wordsOf; rw [wds_cut hc, wds_cut (cut_end s), a1, a2, hx1]
  have f1 : frm t (s.size + 1) = s.size + 1 := frm_cut hc
  have hno : ∀ k, k ≤ d.size → wds t (s.size + 1 + k) = wordsOf s ∧ frm t (s.size + 1 + k) = s.size + 1 := by
    intro k
    induction k with
    | zero => exact fun _ => ⟨w1, f1⟩
    | succ k ih =>
      intro hk
      obtain ⟨b1, b2⟩ := ih (by omega)
      have hcn : cutAt t (s.size + 1 + k) = false := decide_eq_false (fun e => by
        rcases e with e | e
        · omega
        · have := byteAt_right x d k
          rw [← ht, hxs] at this
          rw [this] at e
          exact h k (by omega) e)
      rw [show s.size + 1 + (k + 1) = s.size + 1 + k + 1 by omega, wds_not hcn, frm_not hcn]
      exact ⟨b1, b2⟩
  obtain ⟨c1, c2⟩ := hno d.size (Nat.le_refl _)
  rw [← hts] at c1 c2
  rw [← hx, ← ht]
  show wds t (t.size + 1) = _
  rw [wds_cut (cut_end t), c1, c2]
  congr 1
  have := extract_right x d
  rw [← ht, hxs] at this
  rw [this]
end Go.Proofs.YtnaeabfmgfipoaaGreatDoor
namespace Go.Proofs.YtnaeabfmgfipoaaGreatDoor
open Go.RowKit

def numsOf (k i c n : Int) : List Int := if k = 1 then [i, n] else if k = 2 then [i] else if k = 3 then [i] else if k = 4 then [i, c, n] else if k = 5 then [i] else if k = 6 then [n] else []
/-- A row of ints that the call owns. -/
def Ints (w : World) (base : Nat) (v : Value) (l : List Int) : Prop := w.ownsRow base 3 1 v l.length (l.map (.int .i64))

set_option maxHeartbeats 1000000 in
theorem numbers_1 (i c n : Int) (f : Bool) (A : Option Addr) (m cp : Nat) (w : World) :
    Calls Tryz.prog 37 #[.agg #[.int .i64 1, .int .i64 i, .int .i64 c, .int .i64 n, .bool f, .slice A m cp]] w fun e w' => ∃ v, e = .returned v ∧ Keep w w' ∧ Ints w' w.heap.size v [i, n] := by
  have hl := World.ownsRow_lit (base := w.heap.size) (e := 3) (size := 1) (w.alloc (.cells #[.int .i64 1, .int .i64 i, .int .i64 c, .int .i64 n, .bool f, .slice A m cp] 34)) #[.int .i64 i, .int .i64 n] 2 (by simp) (by unfold maxLen; omega) rfl
  rw [World.size_alloc] at hl
  replace hl := Lib.hid hl
  go_enter Tryz.func37, Tryz.ntmps37
  go_wp2
  go_ret
  exact ⟨_, rfl, ((Keep.refl w).alloc _).alloc _, hl.out⟩
set_option maxHeartbeats 1000000 in
theorem numbers_2 (i c n : Int) (f : Bool) (A : Option Addr) (m cp : Nat) (w : World) :
    Calls Tryz.prog 37 #[.agg #[.int .i64 2, .int .i64 i, .int .i64 c, .int .i64 n, .bool f, .slice A m cp]] w fun e w' => ∃ v, e = .returned v ∧ Keep w w' ∧ Ints w' w.heap.size v [i] := by
  have hl := World.ownsRow_lit (base := w.heap.size) (e := 3) (size := 1) (w.alloc (.cells #[.int .i64 2, .int .i64 i, .int .i64 c, .int .i64 n, .bool f, .slice A m cp] 34)) #[.int .i64 i] 1 (by simp) (by unfold maxLen; omega) rfl
  rw [World.size_alloc] at hl
  replace hl := Lib.hid hl
  go_enter Tryz.func37, Tryz.ntmps37
  go_wp2
  go_ret
  exact ⟨_, rfl, ((Keep.refl w).alloc _).alloc _, hl.out⟩
set_option maxHeartbeats 1000000 in
theorem numbers_3 (i c n : Int) (f : Bool) (A : Option Addr) (m cp : Nat) (w : World) :
    Calls Tryz.prog 37 #[.agg #[.int .i64 3, .int .i64 i, .int .i64 c, .int .i64 n, .bool f, .slice A m cp]] w fun e w' => ∃ v, e = .returned v ∧ Keep w w' ∧ Ints w' w.heap.size v [i] := by
  have hl := World.ownsRow_lit (base := w.heap.size) (e := 3) (size := 1) (w.alloc (.cells #[.int .i64 3, .int .i64 i, .int .i64 c, .int .i64 n, .bool f, .slice A m cp] 34)) #[.int .i64 i] 1 (by simp) (by unfold maxLen; omega) rfl
  rw [World.size_alloc] at hl
  replace hl := Lib.hid hl
  go_enter Tryz.func37, Tryz.ntmps37
  go_wp2
  go_ret
  exact ⟨_, rfl, ((Keep.refl w).alloc _).alloc _, hl.out⟩
set_option maxHeartbeats 1000000 in
theorem numbers_4 (i c n : Int) (f : Bool) (A : Option Addr) (m cp : Nat) (w : World) :
    Calls Tryz.prog 37 #[.agg #[.int .i64 4, .int .i64 i, .int .i64 c, .int .i64 n, .bool f, .slice A m cp]] w fun e w' => ∃ v, e = .returned v ∧ Keep w w' ∧ Ints w' w.heap.size v [i, c, n] := by
  have hl := World.ownsRow_lit (base := w.heap.size) (e := 3) (size := 1) (w.alloc (.cells #[.int .i64 4, .int .i64 i, .int .i64 c, .int .i64 n, .bool f, .slice A m cp] 34)) #[.int .i64 i, .int .i64 c, .int .i64 n] 3 (by simp) (by unfold maxLen; omega) rfl
  rw [World.size_alloc] at hl
  replace hl := Lib.hid hl
  go_enter Tryz.func37, Tryz.ntmps37
  go_wp2
  go_ret
  exact ⟨_, rfl, ((Keep.refl w).alloc _).alloc _, hl.out⟩
set_option maxHeartbeats 1000000 in
theorem numbers_5 (i c n : Int) (f : Bool) (A : Option Addr) (m cp : Nat) (w : World) :
    Calls Tryz.prog 37 #[.agg #[.int .i64 5, .int .i64 i, .int .i64 c, .int .i64 n, .bool f, .slice A m cp]] w fun e w' => ∃ v, e = .returned v ∧ Keep w w' ∧ Ints w' w.heap.size v [i] := by
  have hl := World.ownsRow_lit (base := w.heap.size) (e := 3) (size := 1) (w.alloc (.cells #[.int .i64 5, .int .i64 i, .int .i64 c, .int .i64 n, .bool f, .slice A m cp] 34)) #[.int .i64 i] 1 (by simp) (by unfold maxLen; omega) rfl
  rw [World.size_alloc] at hl
  replace hl := Lib.hid hl
  go_enter Tryz.func37, Tryz.ntmps37
  go_wp2
  go_ret
  exact ⟨_, rfl, ((Keep.refl w).alloc _).alloc _, hl.out⟩
set_option maxHeartbeats 1000000 in
theorem numbers_6 (i c n : Int) (f : Bool) (A : Option Addr) (m cp : Nat) (w : World) :
    Calls Tryz.prog 37 #[.agg #[.int .i64 6, .int .i64 i, .int .i64 c, .int .i64 n, .bool f, .slice A m cp]] w fun e w' => ∃ v, e = .returned v ∧ Keep w w' ∧ Ints w' w.heap.size v [n] := by
  have hl := World.ownsRow_lit (base := w.heap.size) (e := 3) (size := 1) (w.alloc (.cells #[.int .i64 6, .int .i64 i, .int .i64 c, .int .i64 n, .bool f, .slice A m cp] 34)) #[.int .i64 n] 1 (by simp) (by unfold maxLen; omega) rfl
  rw [World.size_alloc] at hl
  replace hl := Lib.hid hl
  go_enter Tryz.func37, Tryz.ntmps37
  go_wp2
  go_ret
  exact ⟨_, rfl, ((Keep.refl w).alloc _).alloc _, hl.out⟩
set_option maxHeartbeats 1000000 in
theorem numbers_none (k i c n : Int) (f : Bool) (A : Option Addr) (m cp : Nat) (w : World) (h : k < 1 ∨ 6 < k) :
    Calls Tryz.prog 37 #[.agg #[.int .i64 k, .int .i64 i, .int .i64 c, .int .i64 n, .bool f, .slice A m cp]] w fun e w' => ∃ v, e = .returned v ∧ Keep w w' ∧ Ints w' w.heap.size v [] := by
  have h1 : (k == 1) = false := beq_eq_false_iff_ne.2 (by omega)
  have h2 : (k == 2) = false := beq_eq_false_iff_ne.2 (by omega)
  have h3 : (k == 3) = false := beq_eq_false_iff_ne.2 (by omega)
  have h4 : (k == 4) = false := beq_eq_false_iff_ne.2 (by omega)
  have h5 : (k == 5) = false := beq_eq_false_iff_ne.2 (by omega)
  have h6 : (k == 6) = false := beq_eq_false_iff_ne.2 (by omega)
  clear h
  go_enter Tryz.func37, Tryz.ntmps37
  go_wp2
  go_ret
  exact ⟨_, rfl, Keep.one _ _, World.ownsRow_nil _ _ _ _⟩
theorem numbers_fn (k i c n : Int) (f : Bool) (A : Option Addr) (m cp : Nat) (w : World) :
    Calls Tryz.prog 37 #[.agg #[.int .i64 k, .int .i64 i, .int .i64 c, .int .i64 n, .bool f, .slice A m cp]] w fun e w' => ∃ v, e = .returned v ∧ Keep w w' ∧ Ints w' w.heap.size v (numsOf k i c n) := by
  rcases kinds_or k with rfl | rfl | rfl | rfl | rfl | rfl | rfl | h
  · exact numbers_1 i c n f A m cp w
  · exact numbers_2 i c n f A m cp w
  · exact numbers_3 i c n f A m cp w
  · exact numbers_4 i c n f A m cp w
  · exact numbers_5 i c n f A m cp w
  · exact numbers_6 i c n f A m cp w
  · exact numbers_none 7 i c n f A m cp w (by omega)
  · rw [show numsOf k i c n = [] from by unfold numsOf; rw [if_neg (by omega), if_neg (by omega), if_neg (by omega), if_neg (by omega), if_neg (by omega), if_neg (by omega)]]
    exact numbers_none k i c n f A m cp w (by omega)
end Go.Proofs.YtnaeabfmgfipoaaGreatDoor
namespace Go.Proofs.YtnaeabfmgfipoaaGreatDoor
open Go.RowKit Go.Extern.Stop Go.Stop Go.Extern

/-- An error was found: only the target's block has turned, and it is no more frozen than it was. -/
def Hit (t : Addr) (w w' : World) : Prop := w.grownBy w' (some t.block) ∧ ∀ i, w'.frozen? ⟨t.block, i, none⟩ = w.frozen? ⟨t.block, i, none⟩
theorem Hit.of_keep {t : Addr} {w wr : World} (h : Keep w wr) (ht : t.block < w.heap.size) (o : Obj) (x : Value) : Hit t w ((wr.alloc o).setCell t x) := by
  have hk := h.alloc o
  refine ⟨⟨hk.os, hk.tape, hk.output, ?_, fun k hk2 hne => ?_⟩, fun i => ?_⟩
  · have := hk.size; simpa [World.setCell] using this
  · rw [Below.heap_setCell _ _ _ _ (by intro e; apply hne; rw [e]), Below.block hk k hk2]
  · rw [World.frozen?_setCell, Below.frozen hk (p := ⟨t.block, i, none⟩) ht]
theorem frozen_keep {w w' : World} {t : Addr} (h : Keep w w') (ht : t.block < w.heap.size) : w'.frozen? t = w.frozen? t := Below.frozen h ht

/-- How often the chain can be unwrapped. -/
def depth (ks : List Int) : Base → Nat
  | .fault _ _ => ks.length + 1
  | _ => ks.length
def hasCode (c : Int) (b : Base) : Prop := b = .code c ∨ ∃ n, b = .fault c n

set_option maxRecDepth 100000 in
set_option maxHeartbeats 4000000 in
theorem as_code_yes (c : Int) (ks0 : List Int) (b0 : Base) (v0 : Value) (w : World) (a t : Addr) (old : Value) (hch : Chain w ks0 b0 v0) (hb0 : hasCode c b0)
    (ht : w.cell? t = some old) (hf : w.frozen? t = false) (ha : w.cell? a = some (.pointer (some t))) :
    Calls Tryz.prog 81 #[v0, .iface 99 (.pointer (some t)), .agg #[.pointer (some ⟨9, 99, none⟩), .pointer (some a), .int .u64 150], .iface 140 (.agg #[.pointer (some ⟨9, 58, none⟩)])] w
      fun e w' => e = .returned (.bool true) ∧ Hit t w w' ∧ w'.cell? t = some (.int .i64 c) := by
  have hv := @run_callFunc_extern Tryz.prog 78 _ (fun args => ReflectliteValue.unpack (args.getD 0 (.tuple #[]))) Tryz.func78 (by kernel_rfl) (by kernel_rfl) (by kernel_rfl) (by kernel_rfl)
  have hT := @run_callFunc_extern Tryz.prog 93 _ ReflectliteType.typeOf Tryz.func93 (by kernel_rfl) (by kernel_rfl) (by kernel_rfl) (by kernel_rfl)
  have hA := @run_callFunc_extern Tryz.prog 133 _ (ReflectliteType.relation "AssignableTo" ReflectliteType.assignableTo) Tryz.func133 (by kernel_rfl) (by kernel_rfl) (by kernel_rfl) (by kernel_rfl)
  have hE := @run_callFunc_extern Tryz.prog 94 _ (ReflectliteValue.method (ReflectliteValue.valueError "reflectlite.Value.Elem" 0) ReflectliteValue.elem) Tryz.func94 (by kernel_rfl) (by kernel_rfl) (by kernel_rfl) (by kernel_rfl)
  have hS := @run_callFunc_extern Tryz.prog 95 _ ReflectliteValue.set Tryz.func95 (by kernel_rfl) (by kernel_rfl) (by kernel_rfl) (by kernel_rfl)
  have t1 := Tryz.rTypeOfCode
  have t2 := Tryz.rTypeOfFault
  have mA := Tryz.rMethodAssignableTo
  have a1 := Tryz.rAssignCodeToCode
  have a2 := Tryz.rAssignFaultToCode
  have n2 := Tryz.noAsFault
  have u2 := Tryz.unFault
  have m2 := Tryz.mUnFault
  have hvc := Tryz.rUnpackCode
  go_enter Tryz.func81, Tryz.ntmps81
  go_wp2
  go_loopg [0] (depth ks0 b0) (fun g v wr => ∃ ks b, Chain w ks b v ∧ hasCode c b ∧ g = depth ks b ∧ Keep (w.alloc (.cells #[.pointer (some ⟨9, 99, none⟩), .pointer (some a), .int .u64 150] 117)) wr)
  case atStart => exact ⟨ks0, b0, hch, hb0, rfl, Keep.refl _⟩
  case round =>
    obtain ⟨ks, b, hc1, hb, rfl, hk⟩ := hrel
    have hk0 : Keep w wr := (Keep.one w _).trans hk
    have k0 := hk.cell (a := ⟨w.heap.size, 0, none⟩) (v := .pointer (some ⟨9, 99, none⟩)) (by simp)
    have k1 := hk.cell (a := ⟨w.heap.size, 0 + 1, none⟩) (v := .pointer (some a)) (by simp)
    have k2 := hk.cell (a := ⟨w.heap.size, 0 + 2, none⟩) (v := .int .u64 150) (by simp)
    have hE2 := Tryz.rElemVCode a t wr (hk0.cell ha)
    have hlt := cell_lt ht
    have hkt := hk0.cell ht
    have hkf : wr.frozen? t = false := by rw [frozen_keep hk0 hlt]; exact hf
    have hs2 := Tryz.rSetCode t ⟨wr.heap.size, 0, none⟩ c old (wr.alloc (.cells #[.int .i64 c] 58)) (by simp) (by rw [World.cell?_alloc_lt _ _ t (cell_lt hkt)]; exact hkt) (by rw [World.frozen?_alloc_old _ _ t (Nat.ne_of_lt (cell_lt hkt))]; exact hkf)
    have hlt0 := Lib.hid hlt
    have hfin : ((wr.alloc (.cells #[.int .i64 c] 58)).setCell t (.int .i64 c)).cell? t = some (.int .i64 c) :=
      World.cell?_setCell_same _ _ _ (u := old) (by rw [World.cell?_alloc_lt _ _ t (cell_lt hkt)]; exact hkt)
    replace hfin := Lib.hid hfin
    have hk1 := Lib.hid hk
    have hk2 := Lib.hid hk0
    clear hk0 hch hb0 ht hf ha hkt hkf hlt
    rcases hc1.open with ⟨rfl, rfl⟩ | ⟨k, ks, o, v, rfl, rfl, h1, h2, hc2⟩
    · clear hk hc1
      cases b with
      | code x =>
        obtain rfl : x = c := by rcases hb with h | ⟨n, h⟩ <;> cases h; rfl
        clear hb
        unfold Base.val
        go_wp2
        go_ret
        exact ⟨rfl, Hit.of_keep hk2.out hlt0.out _ _, hfin.out⟩
      | fault x n =>
        obtain rfl : x = c := by rcases hb with h | ⟨n, h⟩ <;> cases h; rfl
        clear hb hs2
        unfold Base.val
        go_wp2_with (go_at_call 125; refine (unwrap_fault _ _ _).mono ?_; rintro e w9 ⟨rfl, hk3⟩; replace hk3 := Lib.hid hk3; unfold Base.val)
        go_roundg 0
        case measure => simp [depth]
        case rel => exact ⟨[], .code x, .base _, Or.inl rfl, rfl, hk1.out.trans hk3.out⟩
      | text x => rcases hb with h | ⟨n, h⟩ <;> cases h
    · exact h1.elim
end Go.Proofs.YtnaeabfmgfipoaaGreatDoor
namespace Go.Proofs.YtnaeabfmgfipoaaGreatDoor
open Go.RowKit Go.Extern.Stop Go.Stop Go.Extern

theorem Tryz.rSetFault (tb b : Nat) (x y : Int) (o1 o2 : Value) (W : World) (hb : W.cell? ⟨b, 0, none⟩ = some (.int .i64 x)) (hb' : W.cell? ⟨b, 0 + 1, none⟩ = some (.int .i64 y))
    (ht : W.cell? ⟨tb, 0, none⟩ = some o1) (ht' : W.cell? ⟨tb, 0 + 1, none⟩ = some o2) (hf : W.frozen? ⟨tb, 0, none⟩ = false) (hf' : W.frozen? ⟨tb, 0 + 1, none⟩ = false) :
    (ReflectliteValue.set #[.agg #[.pointer (some ⟨9, 89, none⟩), .pointer (some ⟨tb, 0, none⟩), .int .u64 409], .agg #[.pointer (some ⟨9, 89, none⟩), .pointer (some ⟨b, 0, none⟩), .int .u64 153]]).run Tryz.prog W
      = .ok (.tuple #[]) ((W.setCell ⟨tb, 0, none⟩ (.int .i64 x)).setCell ⟨tb, 0 + 1, none⟩ (.int .i64 y)) := by
  rw [rls]
  simp only [Sem.run_bind, Tryz.rPartsAFault, Tryz.rPartsFault, Result.andThen]
  simp [ReflectliteValue.flagAddr, loadVar, isAgg, underlying, Tryz.underlying89, Result.andThen, Tryz.rDirectFault, storeVar]
  have hL : (loadCells ⟨b, 0, none⟩ 2).run Tryz.prog W = .ok #[.int .i64 x, .int .i64 y] W := by
    rw [run_loadCells W _ _ (fun j => if j = 0 then .int .i64 x else .int .i64 y) (fun j hj => by
      rcases j with _ | _ | j
      · simpa [Addr.add] using hb
      · simpa [Addr.add] using hb'
      · omega)]
    rfl
  rw [hL]
  have hc : (Value.agg #[.int .i64 x, .int .i64 y]).cells = #[.int .i64 x, .int .i64 y] := by simp [Value.cells]
  simp only [Nat.zero_add] at ht' hf'
  simp [hc, storeCells, Addr.add]
  rw [run_store Tryz.prog W _ _ _ (by rfl)]
  simp [ht, hf]
  rw [run_store Tryz.prog _ _ _ _ (by rfl)]
  have e : (W.setCell ⟨tb, 0, none⟩ (.int .i64 x)).cell? ⟨tb, 1, none⟩ = some o2 := by
    rw [World.cell?_setCell_other (a := ⟨tb, 0, none⟩) (b := ⟨tb, 1, none⟩) (h := by simp)]; exact ht'
  simp [e, hf']
end Go.Proofs.YtnaeabfmgfipoaaGreatDoor
