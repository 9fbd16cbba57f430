/-
  Closed facts on the entries of internal/reflectlite at this program's types of errors and targets. No condition.
  Errors as values: chains of located errors round a base; what the assertions and the methods of errors answer. No condition.
  errors.as at the target *api.Code, for every chain. No condition but that the target is a cell that may be written.
  (Value).Set at the target *api.Fault: two cells. No condition.
  errors.as at the targets *api.Code, *api.Fault and **fault.located, for every chain: what is not found; a fault; the outermost located error. No condition but that the target's cells may be written.
-/
import Derived.Test.YtnclkefddkgojaaGreatDoorProg
import Derived.WalkKit
import Derived.LaidEql
import Derived.Stop.Asserts
import Derived.RowKitTokens
import Derived.WalkSpells
import Derived.WalkLawsBesides
import Derived.BigQuiet
import Derived.Deep.QuietTactic
import Derived.Deep.LoopGhost
import Derived.Deep.OwnRows
import Derived.Below
import Derived.Lib.Hide
namespace Go.Proofs.YtnclkefddkgojaaGreatDoor
open Go.RowKit Go.Extern.Stop Go.Stop Go.Extern
theorem rlm (z:Sem Value) (f:TypeId→Addr→Nat→Nat→Sem Value) (v:Value) :
    ReflectliteValue.method z f #[v] = (do match ← ReflectliteValue.parts v with | none=>z | some (t,a,fl)=>f t a fl (fl % 32)):=rfl
theorem rls (v x:Value):ReflectliteValue.set #[v,x] = (do
    let (some (dst,a,fl),some (src,b,_)):=(← ReflectliteValue.parts v,← ReflectliteValue.parts x)
      | unsupported (.noEntry "extern/(internal/reflectlite.Value).Set.zeroValue")
    if fl / ReflectliteValue.flagAddr % 2 == 0 then unsupported (.noEntry "extern/(internal/reflectlite.Value).Set.unaddressable")
    let val ← loadVar src b
    if ← Rtype.directlyAssignable dst src then storeVar dst a val
    else if ← Rtype.implements dst src then
      if (← Rtype.kind src) == 20 then
        match val with
        | .nilIface=>unsupported (.noEntry "extern/reflectlite: a nil value of one interface type handed on as a value of another")
        | _=>storeVar dst a val
      else storeVar dst a (.iface src val)
    else panicString ("reflectlite.Set: value of type " ++ (← Rtype.spelt src) ++ " is not assignable to type " ++ (← Rtype.spelt dst))
    pure (.tuple #[])):=rfl
theorem Tryz.rMethodElem (h:Value) (w:World):(Go.method 368 203 (.agg #[h]) "Elem").run Tryz.prog w = .ok (181,.agg #[h]) w:=by kernel_rfl
theorem Tryz.rMethodImplements (h:Value) (w:World):(Go.method 368 203 (.agg #[h]) "Implements").run Tryz.prog w = .ok (182,.agg #[h]) w:=by kernel_rfl
theorem Tryz.rMethodAssignableTo (h:Value) (w:World):(Go.method 368 203 (.agg #[h]) "AssignableTo").run Tryz.prog w = .ok (179,.agg #[h]) w:=by kernel_rfl
theorem Tryz.rMethodComparable (h:Value) (w:World):(Go.method 368 203 (.agg #[h]) "Comparable").run Tryz.prog w = .ok (180,.agg #[h]) w:=by kernel_rfl
theorem Tryz.rMethodKind (h:Value) (w:World):(Go.method 368 203 (.agg #[h]) "Kind").run Tryz.prog w = .ok (165,h) w:=by kernel_rfl
theorem Tryz.rTypeOfCode (v:Value) (w:World):(ReflectliteType.typeOf #[.iface 103 v]).run Tryz.prog w = .ok (.iface 203 (.agg #[.pointer (some ⟨1,103,none⟩)])) w:=by kernel_rfl
theorem Tryz.rTypeOfFault (v:Value) (w:World):(ReflectliteType.typeOf #[.iface 145 v]).run Tryz.prog w = .ok (.iface 203 (.agg #[.pointer (some ⟨1,145,none⟩)])) w:=by kernel_rfl
theorem Tryz.rUnpackPCode (t:Addr) (w:World):(ReflectliteValue.unpack (.iface 176 (.pointer (some t)))).run Tryz.prog w
    = .ok (.agg #[.pointer (some ⟨1,176,none⟩),.pointer (some ⟨w.heap.size,0,none⟩),.int .u64 150]) (w.alloc (.cells #[.pointer (some t)] 176)):=by kernel_rfl
theorem Tryz.rTypePCode (a:Addr) (w:World):(ReflectliteValue.methodAny (ReflectliteValue.valueError "reflectlite.Value.Type" 0) (fun t _ _ _=>ReflectliteType.toType t) #[.agg #[.pointer (some ⟨1,176,none⟩),.pointer (some a),.int .u64 150]]).run Tryz.prog w
    = .ok (.iface 203 (.agg #[.pointer (some ⟨1,176,none⟩)])) w:=by kernel_rfl
theorem Tryz.rKindPCode (w:World):((ReflectliteType.abiMethod fun t=>(fun a:Nat=>Value.int IntKind.u8 (a:Int)) <$> Rtype.kind t) #[.pointer (some ⟨1,176,none⟩)]).run Tryz.prog w = .ok (.int .u8 22) w:=by kernel_rfl
theorem Tryz.rKindCode (w:World):((ReflectliteType.abiMethod fun t=>(fun a:Nat=>Value.int IntKind.u8 (a:Int)) <$> Rtype.kind t) #[.pointer (some ⟨1,103,none⟩)]).run Tryz.prog w = .ok (.int .u8 2) w:=by kernel_rfl
theorem Tryz.rPartsPCode (a:Addr) (w:World):(ReflectliteValue.parts (.agg #[.pointer (some ⟨1,176,none⟩),.pointer (some a),.int .u64 150])).run Tryz.prog w = .ok (some (176,a,150)) w:=by kernel_rfl
theorem Tryz.rIsNilPCode (a p:Addr) (W:World) (ha:W.cell? a = some (.pointer (some p))) :
    (ReflectliteValue.method (ReflectliteValue.valueError "reflectlite.Value.IsNil" 0) ReflectliteValue.isNil #[.agg #[.pointer (some ⟨1,176,none⟩),.pointer (some a),.int .u64 150]]).run Tryz.prog W = .ok (.bool false) W:=by
  rw [rlm]
  simp only [Sem.run_bind,Tryz.rPartsPCode,Result.andThen]
  simp [ReflectliteValue.isNil,loadVar,isAgg,underlying,Tryz.underlying176,ha,Result.andThen]
theorem Tryz.rElemPCode (w:World):(ReflectliteType.method ReflectliteType.elem #[.agg #[.pointer (some ⟨1,176,none⟩)]]).run Tryz.prog w = .ok (.iface 203 (.agg #[.pointer (some ⟨1,103,none⟩)])) w:=by kernel_rfl
theorem Tryz.rImplCode (w:World):(ReflectliteType.relation "Implements" ReflectliteType.implements_ #[.agg #[.pointer (some ⟨1,103,none⟩)],.iface 203 (.agg #[.pointer (some ⟨1,56,none⟩)])]).run Tryz.prog w = .ok (.bool true) w:=by kernel_rfl
theorem Tryz.rUnpackCode (x:Int) (w:World):(ReflectliteValue.unpack (.iface 103 (.int .i64 x))).run Tryz.prog w
    = .ok (.agg #[.pointer (some ⟨1,103,none⟩),.pointer (some ⟨w.heap.size,0,none⟩),.int .u64 130]) (w.alloc (.cells #[.int .i64 x] 103)):=by kernel_rfl
theorem Tryz.rElemOfCode (w:World):(Rtype.elem? 176).run Tryz.prog w = .ok (some 103) w:=by kernel_rfl
theorem Tryz.rMkCode (p:Addr) (w:World):(ReflectliteValue.mk 103 p ReflectliteValue.flagAddr).run Tryz.prog w = .ok (.agg #[.pointer (some ⟨1,103,none⟩),.pointer (some p),.int .u64 386]) w:=by kernel_rfl
theorem Tryz.rElemVCode (a p:Addr) (W:World) (ha:W.cell? a = some (.pointer (some p))) :
    (ReflectliteValue.method (ReflectliteValue.valueError "reflectlite.Value.Elem" 0) ReflectliteValue.elem #[.agg #[.pointer (some ⟨1,176,none⟩),.pointer (some a),.int .u64 150]]).run Tryz.prog W
      = .ok (.agg #[.pointer (some ⟨1,103,none⟩),.pointer (some p),.int .u64 386]) W:=by
  rw [rlm]
  simp only [Sem.run_bind,Tryz.rPartsPCode,Result.andThen]
  simp [ReflectliteValue.elem,loadVar,isAgg,underlying,Tryz.underlying176,ha,Result.andThen,Tryz.rElemOfCode,Tryz.rMkCode]
theorem Tryz.rPartsACode (a:Addr) (w:World):(ReflectliteValue.parts (.agg #[.pointer (some ⟨1,103,none⟩),.pointer (some a),.int .u64 386])).run Tryz.prog w = .ok (some (103,a,386)) w:=by kernel_rfl
theorem Tryz.rPartsCode (a:Addr) (w:World):(ReflectliteValue.parts (.agg #[.pointer (some ⟨1,103,none⟩),.pointer (some a),.int .u64 130])).run Tryz.prog w = .ok (some (103,a,130)) w:=by kernel_rfl
theorem Tryz.rDirectCode (w:World):(Rtype.directlyAssignable 103 103).run Tryz.prog w = .ok true w:=by kernel_rfl
theorem Tryz.rAssignCodeToCode (w:World):(ReflectliteType.relation "AssignableTo" ReflectliteType.assignableTo #[.agg #[.pointer (some ⟨1,103,none⟩)],.iface 203 (.agg #[.pointer (some ⟨1,103,none⟩)])]).run Tryz.prog w = .ok (.bool true) w:=by kernel_rfl
theorem Tryz.rAssignFaultToCode (w:World):(ReflectliteType.relation "AssignableTo" ReflectliteType.assignableTo #[.agg #[.pointer (some ⟨1,145,none⟩)],.iface 203 (.agg #[.pointer (some ⟨1,103,none⟩)])]).run Tryz.prog w = .ok (.bool false) w:=by kernel_rfl
theorem Tryz.rSetCode (ta b:Addr) (x:Int) (old:Value) (W:World) (hb:W.cell? b = some (.int .i64 x)) (ht:W.cell? ta = some old) (hf:W.frozen? ta = false) :
    (ReflectliteValue.set #[.agg #[.pointer (some ⟨1,103,none⟩),.pointer (some ta),.int .u64 386],.agg #[.pointer (some ⟨1,103,none⟩),.pointer (some b),.int .u64 130]]).run Tryz.prog W
      = .ok (.tuple #[]) (W.setCell ta (.int .i64 x)):=by
  rw [rls]
  simp only [Sem.run_bind,Tryz.rPartsACode,Tryz.rPartsCode,Result.andThen]
  simp [ReflectliteValue.flagAddr,loadVar,isAgg,underlying,Tryz.underlying103,hb,Result.andThen,Tryz.rDirectCode,storeVar,Value.cells,storeCells,Addr.add]
  rw [run_store Tryz.prog W ta _ _ (by rfl)]
  simp [ht,hf]
theorem Tryz.rUnpackPFault (t:Addr) (w:World):(ReflectliteValue.unpack (.iface 177 (.pointer (some t)))).run Tryz.prog w
    = .ok (.agg #[.pointer (some ⟨1,177,none⟩),.pointer (some ⟨w.heap.size,0,none⟩),.int .u64 150]) (w.alloc (.cells #[.pointer (some t)] 177)):=by kernel_rfl
theorem Tryz.rTypePFault (a:Addr) (w:World):(ReflectliteValue.methodAny (ReflectliteValue.valueError "reflectlite.Value.Type" 0) (fun t _ _ _=>ReflectliteType.toType t) #[.agg #[.pointer (some ⟨1,177,none⟩),.pointer (some a),.int .u64 150]]).run Tryz.prog w
    = .ok (.iface 203 (.agg #[.pointer (some ⟨1,177,none⟩)])) w:=by kernel_rfl
theorem Tryz.rKindPFault (w:World):((ReflectliteType.abiMethod fun t=>(fun a:Nat=>Value.int IntKind.u8 (a:Int)) <$> Rtype.kind t) #[.pointer (some ⟨1,177,none⟩)]).run Tryz.prog w = .ok (.int .u8 22) w:=by kernel_rfl
theorem Tryz.rKindFault (w:World):((ReflectliteType.abiMethod fun t=>(fun a:Nat=>Value.int IntKind.u8 (a:Int)) <$> Rtype.kind t) #[.pointer (some ⟨1,145,none⟩)]).run Tryz.prog w = .ok (.int .u8 25) w:=by kernel_rfl
theorem Tryz.rPartsPFault (a:Addr) (w:World):(ReflectliteValue.parts (.agg #[.pointer (some ⟨1,177,none⟩),.pointer (some a),.int .u64 150])).run Tryz.prog w = .ok (some (177,a,150)) w:=by kernel_rfl
theorem Tryz.rIsNilPFault (a p:Addr) (W:World) (ha:W.cell? a = some (.pointer (some p))) :
    (ReflectliteValue.method (ReflectliteValue.valueError "reflectlite.Value.IsNil" 0) ReflectliteValue.isNil #[.agg #[.pointer (some ⟨1,177,none⟩),.pointer (some a),.int .u64 150]]).run Tryz.prog W = .ok (.bool false) W:=by
  rw [rlm]
  simp only [Sem.run_bind,Tryz.rPartsPFault,Result.andThen]
  simp [ReflectliteValue.isNil,loadVar,isAgg,underlying,Tryz.underlying177,ha,Result.andThen]
theorem Tryz.rElemPFault (w:World):(ReflectliteType.method ReflectliteType.elem #[.agg #[.pointer (some ⟨1,177,none⟩)]]).run Tryz.prog w = .ok (.iface 203 (.agg #[.pointer (some ⟨1,145,none⟩)])) w:=by kernel_rfl
theorem Tryz.rImplFault (w:World):(ReflectliteType.relation "Implements" ReflectliteType.implements_ #[.agg #[.pointer (some ⟨1,145,none⟩)],.iface 203 (.agg #[.pointer (some ⟨1,56,none⟩)])]).run Tryz.prog w = .ok (.bool true) w:=by kernel_rfl
theorem Tryz.rUnpackFault (x y:Int) (w:World):(ReflectliteValue.unpack (.iface 145 (.agg #[.int .i64 x,.int .i64 y]))).run Tryz.prog w
    = .ok (.agg #[.pointer (some ⟨1,145,none⟩),.pointer (some ⟨w.heap.size,0,none⟩),.int .u64 153]) (w.alloc (.cells #[.int .i64 x,.int .i64 y] 145)):=by kernel_rfl
theorem Tryz.rElemOfFault (w:World):(Rtype.elem? 177).run Tryz.prog w = .ok (some 145) w:=by kernel_rfl
theorem Tryz.rMkFault (p:Addr) (w:World):(ReflectliteValue.mk 145 p ReflectliteValue.flagAddr).run Tryz.prog w = .ok (.agg #[.pointer (some ⟨1,145,none⟩),.pointer (some p),.int .u64 409]) w:=by kernel_rfl
theorem Tryz.rElemVFault (a p:Addr) (W:World) (ha:W.cell? a = some (.pointer (some p))) :
    (ReflectliteValue.method (ReflectliteValue.valueError "reflectlite.Value.Elem" 0) ReflectliteValue.elem #[.agg #[.pointer (some ⟨1,177,none⟩),.pointer (some a),.int .u64 150]]).run Tryz.prog W
      = .ok (.agg #[.pointer (some ⟨1,145,none⟩),.pointer (some p),.int .u64 409]) W:=by
  rw [rlm]
  simp only [Sem.run_bind,Tryz.rPartsPFault,Result.andThen]
  simp [ReflectliteValue.elem,loadVar,isAgg,underlying,Tryz.underlying177,ha,Result.andThen,Tryz.rElemOfFault,Tryz.rMkFault]
theorem Tryz.rPartsAFault (a:Addr) (w:World):(ReflectliteValue.parts (.agg #[.pointer (some ⟨1,145,none⟩),.pointer (some a),.int .u64 409])).run Tryz.prog w = .ok (some (145,a,409)) w:=by kernel_rfl
theorem Tryz.rPartsFault (a:Addr) (w:World):(ReflectliteValue.parts (.agg #[.pointer (some ⟨1,145,none⟩),.pointer (some a),.int .u64 153])).run Tryz.prog w = .ok (some (145,a,153)) w:=by kernel_rfl
theorem Tryz.rDirectFault (w:World):(Rtype.directlyAssignable 145 145).run Tryz.prog w = .ok true w:=by kernel_rfl
theorem Tryz.rAssignFaultToFault (w:World):(ReflectliteType.relation "AssignableTo" ReflectliteType.assignableTo #[.agg #[.pointer (some ⟨1,145,none⟩)],.iface 203 (.agg #[.pointer (some ⟨1,145,none⟩)])]).run Tryz.prog w = .ok (.bool true) w:=by kernel_rfl
end Go.Proofs.YtnclkefddkgojaaGreatDoor

namespace Go.Proofs.YtnclkefddkgojaaGreatDoor
open Go.RowKit Go.Extern.Stop Go.Stop Go.Extern
def Keep (w w':World):Prop:=Below w.heap.size w w'
theorem Keep.refl (w:World):Keep w w:=Below.refl _ _
theorem Keep.trans {a b c:World} (h:Keep a b) (k:Keep b c):Keep a c:=Below.trans h (Below.mono k h.size)
theorem Keep.alloc {a b:World} (h:Keep a b) (o:Obj):Keep a (b.alloc o):=Below.alloc h h.size o
theorem Keep.one (w:World) (o:Obj):Keep w (w.alloc o):=(Keep.refl w).alloc o
theorem Keep.grown {w w':World} (h:Keep w w'):w.grownBy w' none:=⟨h.os,h.tape,h.output,h.size,fun k hk _=>h.block k hk⟩
theorem Keep.ofDrew {w w':World} (h:Keep w.drew w'):Keep w w':=⟨h.os,h.tape,h.output,h.size,h.block⟩
theorem Keep.drew {w w':World} (h:Keep w w'):Keep w w'.drew:=Below.drew h
theorem cell_lt {w:World} {a:Addr} {v:Value} (hc:w.cell? a = some v):a.block < w.heap.size:=by
  rcases Nat.lt_or_ge a.block w.heap.size with h | h
  · exact h
  · simp [World.cell?,Array.getElem?_eq_none h] at hc
theorem Keep.cell {w w':World} {a:Addr} {v:Value} (h:Keep w w') (hc:w.cell? a = some v):w'.cell? a = some v:=by
  rw [Below.cell h (cell_lt hc)];exact hc
theorem Keep.block {w w':World} {k:Nat} {o:Obj} (h:Keep w w') (hc:w.heap[k]? = some o):w'.heap[k]? = some o:=by
  have hk:k < w.heap.size:=by
    rcases Nat.lt_or_ge k w.heap.size with h | h
    · exact h
    · simp [Array.getElem?_eq_none h] at hc
  rw [Below.block h k hk];exact hc
inductive Base where
  | code (c:Int)
  | fault (c at_:Int)
  | text (a:Addr)
def Base.val:Base→Value
  | .code c=>.iface 103 (.int .i64 c)
  | .fault c n=>.iface 145 (.agg #[.int .i64 c,.int .i64 n])
  | .text a=>.iface 15 (.pointer (some a))
inductive Chain (w:World):List Int→Base→Value→Prop
  | base (b:Base):Chain w [] b b.val
theorem Chain.keep {w w':World} (h:Keep w w') {ks:List Int} {b:Base} {v:Value} (c:Chain w ks b v):Chain w' ks b v:=by
  induction c with
  | base b=>have _:=h;exact .base b
theorem Chain.iface {w:World} {ks:List Int} {b:Base} {v:Value} (c:Chain w ks b v):∃ t x,v = .iface t x:=by
  cases c with
  | base b=>cases b <;> exact ⟨_,_,rfl⟩
theorem Chain.open {w:World} {ks:List Int} {b:Base} {v:Value} (c:Chain w ks b v) :
    (ks = []∧v = b.val)∨∃ (k:Int) (ks':List Int) (a:Nat) (v':Value),ks = k :: ks'∧v = v'∧False∧a = 0∧Chain w ks' b v':=by
  cases c with
  | base b=>exact .inl ⟨rfl,rfl⟩
theorem Tryz.noAsFault (v:Value) (xT:TypeId) (w:World):(Instr.typeAssert (.iface 145 v) xT 227 true).run Tryz.prog w = .ok (.tuple #[.nilIface,.bool false]) w:=run_typeAssert_lacksB Tryz.underlying227 (by kernel_rfl) (by kernel_rfl) v xT w
theorem Tryz.noIsFault (v:Value) (xT:TypeId) (w:World):(Instr.typeAssert (.iface 145 v) xT 205 true).run Tryz.prog w = .ok (.tuple #[.nilIface,.bool false]) w:=run_typeAssert_lacksB Tryz.underlying205 (by kernel_rfl) (by kernel_rfl) v xT w
theorem Tryz.noIsCode (v:Value) (xT:TypeId) (w:World):(Instr.typeAssert (.iface 103 v) xT 205 true).run Tryz.prog w = .ok (.tuple #[.nilIface,.bool false]) w:=run_typeAssert_lacksB Tryz.underlying205 (by kernel_rfl) (by kernel_rfl) v xT w
theorem Tryz.unFault (v:Value) (xT:TypeId) (w:World):(Instr.typeAssert (.iface 145 v) xT 208 true).run Tryz.prog w = .ok (.tuple #[.iface 145 v,.bool true]) w:=run_typeAssert_hasB Tryz.underlying208 (by kernel_rfl) v xT w
theorem Tryz.noUnCode (v:Value) (xT:TypeId) (w:World):(Instr.typeAssert (.iface 103 v) xT 208 true).run Tryz.prog w = .ok (.tuple #[.nilIface,.bool false]) w:=run_typeAssert_lacksB Tryz.underlying208 (by kernel_rfl) (by kernel_rfl) v xT w
theorem Tryz.noUnsCode (v:Value) (xT:TypeId) (w:World):(Instr.typeAssert (.iface 103 v) xT 210 true).run Tryz.prog w = .ok (.tuple #[.nilIface,.bool false]) w:=run_typeAssert_lacksB Tryz.underlying210 (by kernel_rfl) (by kernel_rfl) v xT w
theorem Tryz.mUnFault (x y:Int) (w:World):(Go.method 368 145 (.agg #[.int .i64 x,.int .i64 y]) "Unwrap").run Tryz.prog w = .ok (174,.agg #[.int .i64 x,.int .i64 y]) w:=by kernel_rfl
theorem unwrap_fault (x y:Int) (w:World):Calls Tryz.prog 174 #[.agg #[.int .i64 x,.int .i64 y]] w fun e w'=>e = .returned (Base.val (.code x))∧Keep w w':=by
  go_enter Tryz.func174,Tryz.ntmps174
  go_wp2
  go_ret
  exact ⟨rfl,Keep.one _ _⟩
end Go.Proofs.YtnclkefddkgojaaGreatDoor

namespace Go.Proofs.YtnclkefddkgojaaGreatDoor
open Go.RowKit Go.Extern.Stop Go.Stop Go.Extern
def Hit (t:Addr) (w w':World):Prop:=w.grownBy w' (some t.block)∧∀ i,w'.frozen? ⟨t.block,i,none⟩ = w.frozen? ⟨t.block,i,none⟩
theorem Hit.of_keep {t:Addr} {w wr:World} (h:Keep w wr) (ht:t.block < w.heap.size) (o:Obj) (x:Value):Hit t w ((wr.alloc o).setCell t x):=by
  have hk:=h.alloc o
  refine ⟨⟨hk.os,hk.tape,hk.output,?_,fun k hk2 hne=>?_⟩,fun i=>?_⟩
  · have:=hk.size;simpa [World.setCell] using this
  · rw [Below.heap_setCell _ _ _ _ (by intro e;apply hne;rw [e]),Below.block hk k hk2]
  · rw [World.frozen?_setCell,Below.frozen hk (p:=⟨t.block,i,none⟩) ht]
theorem frozen_keep {w w':World} {t:Addr} (h:Keep w w') (ht:t.block < w.heap.size):w'.frozen? t = w.frozen? t:=Below.frozen h ht
def depth (ks:List Int):Base→Nat
  | .fault _ _=>ks.length + 1
  | _=>ks.length
def hasCode (c:Int) (b:Base):Prop:=b = .code c∨∃ n,b = .fault c n
set_option maxRecDepth 100000 in
set_option maxHeartbeats 4000000 in
theorem as_code_yes (c:Int) (ks0:List Int) (b0:Base) (v0:Value) (w:World) (a t:Addr) (old:Value) (hch:Chain w ks0 b0 v0) (hb0:hasCode c b0)
    (ht:w.cell? t = some old) (hf:w.frozen? t = false) (ha:w.cell? a = some (.pointer (some t))) :
    Calls Tryz.prog 128 #[v0,.iface 176 (.pointer (some t)),.agg #[.pointer (some ⟨1,176,none⟩),.pointer (some a),.int .u64 150],.iface 203 (.agg #[.pointer (some ⟨1,103,none⟩)])] w
      fun e w'=>e = .returned (.bool true)∧Hit t w w'∧w'.cell? t = some (.int .i64 c):=by
  have hv:=@run_callFunc_extern Tryz.prog 125 _ (fun args=>ReflectliteValue.unpack (args.getD 0 (.tuple #[]))) Tryz.func125 (by kernel_rfl) (by kernel_rfl) (by kernel_rfl) (by kernel_rfl)
  have hT:=@run_callFunc_extern Tryz.prog 118 _ ReflectliteType.typeOf Tryz.func118 (by kernel_rfl) (by kernel_rfl) (by kernel_rfl) (by kernel_rfl)
  have hA:=@run_callFunc_extern Tryz.prog 179 _ (ReflectliteType.relation "AssignableTo" ReflectliteType.assignableTo) Tryz.func179 (by kernel_rfl) (by kernel_rfl) (by kernel_rfl) (by kernel_rfl)
  have hE:=@run_callFunc_extern Tryz.prog 141 _ (ReflectliteValue.method (ReflectliteValue.valueError "reflectlite.Value.Elem" 0) ReflectliteValue.elem) Tryz.func141 (by kernel_rfl) (by kernel_rfl) (by kernel_rfl) (by kernel_rfl)
  have hS:=@run_callFunc_extern Tryz.prog 142 _ ReflectliteValue.set Tryz.func142 (by kernel_rfl) (by kernel_rfl) (by kernel_rfl) (by kernel_rfl)
  have t1:=Tryz.rTypeOfCode
  have t2:=Tryz.rTypeOfFault
  have mA:=Tryz.rMethodAssignableTo
  have a1:=Tryz.rAssignCodeToCode
  have a2:=Tryz.rAssignFaultToCode
  have n2:=Tryz.noAsFault
  have u2:=Tryz.unFault
  have m2:=Tryz.mUnFault
  have hvc:=Tryz.rUnpackCode
  go_enter Tryz.func128,Tryz.ntmps128
  go_wp2
  go_loopg [0] (depth ks0 b0) (fun g v wr=>∃ ks b,Chain w ks b v∧hasCode c b∧g = depth ks b∧Keep (w.alloc (.cells #[.pointer (some ⟨1,176,none⟩),.pointer (some a),.int .u64 150] 194)) wr)
  case atStart=>exact ⟨ks0,b0,hch,hb0,rfl,Keep.refl _⟩
  case round =>
    obtain ⟨ks,b,hc1,hb,rfl,hk⟩:=hrel
    have hk0:Keep w wr:=(Keep.one w _).trans hk
    have k0:=hk.cell (a:=⟨w.heap.size,0,none⟩) (v:=.pointer (some ⟨1,176,none⟩)) (by simp)
    have k1:=hk.cell (a:=⟨w.heap.size,0 + 1,none⟩) (v:=.pointer (some a)) (by simp)
    have k2:=hk.cell (a:=⟨w.heap.size,0 + 2,none⟩) (v:=.int .u64 150) (by simp)
    have hE2:=Tryz.rElemVCode a t wr (hk0.cell ha)
    have hlt:=cell_lt ht
    have hkt:=hk0.cell ht
    have hkf:wr.frozen? t = false:=by rw [frozen_keep hk0 hlt];exact hf
    have hs2:=Tryz.rSetCode t ⟨wr.heap.size,0,none⟩ c old (wr.alloc (.cells #[.int .i64 c] 103)) (by simp) (by rw [World.cell?_alloc_lt _ _ t (cell_lt hkt)];exact hkt) (by rw [World.frozen?_alloc_old _ _ t (Nat.ne_of_lt (cell_lt hkt))];exact hkf)
    have hlt0:=Lib.hid hlt
    have hfin:((wr.alloc (.cells #[.int .i64 c] 103)).setCell t (.int .i64 c)).cell? t = some (.int .i64 c) :=
      World.cell?_setCell_same _ _ _ (u:=old) (by rw [World.cell?_alloc_lt _ _ t (cell_lt hkt)];exact hkt)
    replace hfin:=Lib.hid hfin
    have hk1:=Lib.hid hk
    have hk2:=Lib.hid hk0
    clear hk0 hch hb0 ht hf ha hkt hkf hlt
    rcases hc1.open with ⟨rfl,rfl⟩ | ⟨k,ks,o,v,rfl,rfl,h1,h2,hc2⟩
    · clear hk hc1
      cases b with
      | code x =>
        obtain rfl:x = c:=by rcases hb with h | ⟨n,h⟩ <;> cases h;rfl
        clear hb
        unfold Base.val
        go_wp2
        go_ret
        exact ⟨rfl,Hit.of_keep hk2.out hlt0.out _ _,hfin.out⟩
      | fault x n =>
        obtain rfl:x = c:=by rcases hb with h | ⟨n,h⟩ <;> cases h;rfl
        clear hb hs2
        unfold Base.val
        go_wp2_with (go_at_call 174;refine (unwrap_fault _ _ _).mono ?_;rintro e w9 ⟨rfl,hk3⟩;replace hk3:=Lib.hid hk3;unfold Base.val)
        go_roundg 0
        case measure=>simp [depth]
        case rel=>exact ⟨[],.code x,.base _,Or.inl rfl,rfl,hk1.out.trans hk3.out⟩
      | text x=>rcases hb with h | ⟨n,h⟩ <;> cases h
    · exact h1.elim
end Go.Proofs.YtnclkefddkgojaaGreatDoor

namespace Go.Proofs.YtnclkefddkgojaaGreatDoor
open Go.RowKit Go.Extern.Stop Go.Stop Go.Extern
theorem Tryz.rSetFault (tb b:Nat) (x y:Int) (o1 o2:Value) (W:World) (hb:W.cell? ⟨b,0,none⟩ = some (.int .i64 x)) (hb':W.cell? ⟨b,0 + 1,none⟩ = some (.int .i64 y))
    (ht:W.cell? ⟨tb,0,none⟩ = some o1) (ht':W.cell? ⟨tb,0 + 1,none⟩ = some o2) (hf:W.frozen? ⟨tb,0,none⟩ = false) (hf':W.frozen? ⟨tb,0 + 1,none⟩ = false) :
    (ReflectliteValue.set #[.agg #[.pointer (some ⟨1,145,none⟩),.pointer (some ⟨tb,0,none⟩),.int .u64 409],.agg #[.pointer (some ⟨1,145,none⟩),.pointer (some ⟨b,0,none⟩),.int .u64 153]]).run Tryz.prog W
      = .ok (.tuple #[]) ((W.setCell ⟨tb,0,none⟩ (.int .i64 x)).setCell ⟨tb,0 + 1,none⟩ (.int .i64 y)):=by
  rw [rls]
  simp only [Sem.run_bind,Tryz.rPartsAFault,Tryz.rPartsFault,Result.andThen]
  simp [ReflectliteValue.flagAddr,loadVar,isAgg,underlying,Tryz.underlying145,Result.andThen,Tryz.rDirectFault,storeVar]
  have hL:(loadCells ⟨b,0,none⟩ 2).run Tryz.prog W = .ok #[.int .i64 x,.int .i64 y] W:=by
    rw [run_loadCells W _ _ (fun j=>if j = 0 then .int .i64 x else .int .i64 y) (fun j hj=>by
      rcases j with _ | _ | j
      · simpa [Addr.add] using hb
      · simpa [Addr.add] using hb'
      · omega)]
    rfl
  rw [hL]
  have hc:(Value.agg #[.int .i64 x,.int .i64 y]).cells = #[.int .i64 x,.int .i64 y]:=by simp [Value.cells]
  simp only [Nat.zero_add] at ht' hf'
  simp [hc,storeCells,Addr.add]
  rw [run_store Tryz.prog W _ _ _ (by rfl)]
  simp [ht,hf]
  rw [run_store Tryz.prog _ _ _ _ (by rfl)]
  have e:(W.setCell ⟨tb,0,none⟩ (.int .i64 x)).cell? ⟨tb,1,none⟩ = some o2:=by
    rw [World.cell?_setCell_other (a:=⟨tb,0,none⟩) (b:=⟨tb,1,none⟩) (h:=by simp)];exact ht'
  simp [e,hf']
end Go.Proofs.YtnclkefddkgojaaGreatDoor

namespace Go.Proofs.YtnclkefddkgojaaGreatDoor
open Go.RowKit Go.Extern.Stop Go.Stop Go.Extern
theorem Hit.of_keep2 {tb:Nat} {w wr:World} (h:Keep w wr) (ht:tb < w.heap.size) (o:Obj) (x y:Value):Hit ⟨tb,0,none⟩ w (((wr.alloc o).setCell ⟨tb,0,none⟩ x).setCell ⟨tb,0 + 1,none⟩ y):=by
  have hk:=h.alloc o
  refine ⟨⟨hk.os,hk.tape,hk.output,?_,fun k hk2 hne=>?_⟩,fun i=>?_⟩
  · have:=hk.size;simpa [World.setCell] using this
  · rw [Below.heap_setCell _ _ _ _ (by intro e;apply hne;rw [e]),Below.heap_setCell _ _ _ _ (by intro e;apply hne;rw [e]),Below.block hk k hk2]
  · rw [World.frozen?_setCell,World.frozen?_setCell,Below.frozen hk (p:=⟨tb,i,none⟩) ht]
set_option maxRecDepth 100000 in
set_option maxHeartbeats 4000000 in
theorem as_fault_yes (x y:Int) (ks0:List Int) (v0:Value) (w:World) (a:Addr) (tb:Nat) (o1 o2:Value) (hch:Chain w ks0 (.fault x y) v0)
    (ht:w.cell? ⟨tb,0,none⟩ = some o1) (ht':w.cell? ⟨tb,0 + 1,none⟩ = some o2) (hf:w.frozen? ⟨tb,0,none⟩ = false) (hf':w.frozen? ⟨tb,0 + 1,none⟩ = false) (ha:w.cell? a = some (.pointer (some ⟨tb,0,none⟩))) :
    Calls Tryz.prog 128 #[v0,.iface 177 (.pointer (some ⟨tb,0,none⟩)),.agg #[.pointer (some ⟨1,177,none⟩),.pointer (some a),.int .u64 150],.iface 203 (.agg #[.pointer (some ⟨1,145,none⟩)])] w fun e w'=>e = .returned (.bool true)∧Hit ⟨tb,0,none⟩ w w'∧w'.cell? ⟨tb,0,none⟩ = some (.int .i64 x)∧w'.cell? ⟨tb,0 + 1,none⟩ = some (.int .i64 y):=by
  have hT:=@run_callFunc_extern Tryz.prog 118 _ ReflectliteType.typeOf Tryz.func118 (by kernel_rfl) (by kernel_rfl) (by kernel_rfl) (by kernel_rfl)
  have hA:=@run_callFunc_extern Tryz.prog 179 _ (ReflectliteType.relation "AssignableTo" ReflectliteType.assignableTo) Tryz.func179 (by kernel_rfl) (by kernel_rfl) (by kernel_rfl) (by kernel_rfl)
  have mA:=Tryz.rMethodAssignableTo
  have t2:=Tryz.rTypeOfFault
  have a2:=Tryz.rAssignFaultToFault
  have hv:=@run_callFunc_extern Tryz.prog 125 _ (fun args=>ReflectliteValue.unpack (args.getD 0 (.tuple #[]))) Tryz.func125 (by kernel_rfl) (by kernel_rfl) (by kernel_rfl) (by kernel_rfl)
  have hE:=@run_callFunc_extern Tryz.prog 141 _ (ReflectliteValue.method (ReflectliteValue.valueError "reflectlite.Value.Elem" 0) ReflectliteValue.elem) Tryz.func141 (by kernel_rfl) (by kernel_rfl) (by kernel_rfl) (by kernel_rfl)
  have hS:=@run_callFunc_extern Tryz.prog 142 _ ReflectliteValue.set Tryz.func142 (by kernel_rfl) (by kernel_rfl) (by kernel_rfl) (by kernel_rfl)
  have hvc:=Tryz.rUnpackFault
  go_enter Tryz.func128,Tryz.ntmps128
  go_wp2
  go_loopg [0] ks0.length (fun g v wr=>∃ ks,Chain w ks (.fault x y) v∧g = ks.length∧Keep (w.alloc (.cells #[.pointer (some ⟨1,177,none⟩),.pointer (some a),.int .u64 150] 194)) wr)
  case atStart=>exact ⟨ks0,hch,rfl,Keep.refl _⟩
  case round =>
    obtain ⟨ks,hc1,rfl,hk⟩:=hrel
    have hk0:Keep w wr:=(Keep.one w _).trans hk
    have k0:=hk.cell (a:=⟨w.heap.size,0,none⟩) (v:=.pointer (some ⟨1,177,none⟩)) (by simp)
    have k1:=hk.cell (a:=⟨w.heap.size,0 + 1,none⟩) (v:=.pointer (some a)) (by simp)
    have k2:=hk.cell (a:=⟨w.heap.size,0 + 2,none⟩) (v:=.int .u64 150) (by simp)
    have hE2:=Tryz.rElemVFault a ⟨tb,0,none⟩ wr (hk0.cell ha)
    have hlt:tb < w.heap.size:=cell_lt ht
    have hkw:=hk0.trans (Keep.one wr (.cells #[.int .i64 x,.int .i64 y] 145))
    have hkt:=hkw.cell ht
    have hkt':=hkw.cell ht'
    have hkf:(wr.alloc (.cells #[.int .i64 x,.int .i64 y] 145)).frozen? ⟨tb,0,none⟩ = false:=by rw [frozen_keep hkw hlt];exact hf
    have hkf':(wr.alloc (.cells #[.int .i64 x,.int .i64 y] 145)).frozen? ⟨tb,0 + 1,none⟩ = false:=by rw [frozen_keep hkw hlt];exact hf'
    have hs2:=Tryz.rSetFault tb wr.heap.size x y o1 o2 (wr.alloc (.cells #[.int .i64 x,.int .i64 y] 145)) (by simp) (by simp) hkt hkt' hkf hkf'
    have hfin:=Lib.hid (show (((wr.alloc (.cells #[.int .i64 x,.int .i64 y] 145)).setCell ⟨tb,0,none⟩ (.int .i64 x)).setCell ⟨tb,0 + 1,none⟩ (.int .i64 y)).cell? ⟨tb,0,none⟩ = some (.int .i64 x) by
      rw [World.cell?_setCell_other (a:=⟨tb,0 + 1,none⟩) (b:=⟨tb,0,none⟩) (h:=by simp)];exact World.cell?_setCell_same _ _ _ (u:=o1) hkt)
    have hfin':=Lib.hid (show (((wr.alloc (.cells #[.int .i64 x,.int .i64 y] 145)).setCell ⟨tb,0,none⟩ (.int .i64 x)).setCell ⟨tb,0 + 1,none⟩ (.int .i64 y)).cell? ⟨tb,0 + 1,none⟩ = some (.int .i64 y) from
      World.cell?_setCell_same _ _ _ (u:=o2) (by rw [World.cell?_setCell_other (a:=⟨tb,0,none⟩) (b:=⟨tb,0 + 1,none⟩) (h:=by simp)];exact hkt'))
    have hk1:=Lib.hid hk
    have hk2:=Lib.hid hk0
    have hlt0:=Lib.hid hlt
    clear hk0 hch ht hf ha hkt hkf hlt hkw hkt' hkf' ht' hf'
    rcases hc1.open with ⟨rfl,rfl⟩ | ⟨k,ks,o,v,rfl,rfl,h1,h2,hc2⟩
    · clear hk hc1
      unfold Base.val
      go_wp2
      go_ret
      exact ⟨rfl,Hit.of_keep2 hk2.out hlt0.out _ _ _,hfin.out,hfin'.out⟩
    · exact h1.elim
end Go.Proofs.YtnclkefddkgojaaGreatDoor

