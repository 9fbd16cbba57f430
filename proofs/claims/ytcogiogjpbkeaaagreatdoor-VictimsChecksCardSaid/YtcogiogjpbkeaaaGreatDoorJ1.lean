/-
  Closed facts on the entries of internal/reflectlite at this program's types of errors and targets. No condition.
  Errors as values: chains of located errors round a base; what the assertions and the methods of errors answer. No condition.
  errors.as at the target *api.Code, for every chain. No condition but that the target is a cell that may be written.
  (Value).Set at the target *api.Fault: two cells. No condition.
  errors.as at the targets *api.Code, *api.Fault and **fault.located, for every chain: what is not found; a fault; the outermost located error. No condition but that the target's cells may be written.
  errors.As at the targets *api.Code, *api.Fault and **fault.located: what errors.as answers; nil. Condition: errors.errorType holds the handle of the type 'error'.
  find at api.Code, api.Fault and *located: what a chain holds, or none. Condition: errors.errorType holds its own.
  '==' between errors as errors.Is asks it. No condition.
  errors.Is at a code, for every chain that has one; at a fault, for that fault. No condition.
-/
import Derived.Test.YtcogiogjpbkeaaaGreatDoorJ0
import Derived.Test.YtcogiogjpbkeaaaGreatDoorProg
import Derived.WalkKit
import Derived.LaidEql
import Derived.Stop.Asserts
import Derived.RowKitTokens
import Derived.WalkSpells
import Derived.WalkLawsBesides
import Derived.BigQuiet
import Derived.Deep.QuietTactic
import Derived.Deep.LoopGhost
import Derived.Deep.OwnRows
import Derived.Below
import Derived.Lib.Hide
import Derived.Defers
import Derived.Recover
import Derived.RegionTactic
import Derived.Deep.RegionWith
import Derived.ChangeAlike
namespace Go.Proofs.YtcogiogjpbkeaaaGreatDoor
open Go.RowKit Go.Extern.Stop Go.Stop Go.Extern
theorem rlm(z:Sem Value)(f:TypeId->Addr->Nat->Nat->Sem Value)(v:Value):
  ReflectliteValue.method z f #[v]=(do match <- ReflectliteValue.parts v with | none=>z | some (t,a,fl)=>f t a fl (fl % 32)):=rfl
theorem rls(v x:Value):ReflectliteValue.set #[v,x]=(do
  let(some (dst,a,fl),some (src,b,_)):=(<- ReflectliteValue.parts v,<- ReflectliteValue.parts x)
   | unsupported (.noEntry "extern/(internal/reflectlite.Value).Set.zeroValue")
  if fl / ReflectliteValue.flagAddr % 2 == 0 then unsupported (.noEntry "extern/(internal/reflectlite.Value).Set.unaddressable")
  let val <- loadVar src b
  if <- Rtype.directlyAssignable dst src then storeVar dst a val
  else if <- Rtype.implements dst src then
   if (<- Rtype.kind src)== 20 then
    match val with
    | .nilIface=>unsupported (.noEntry "extern/reflectlite: a nil value of one interface type handed on as a value of another")
    | _=>storeVar dst a val
   else storeVar dst a (.iface src val)
  else panicString ("reflectlite.Set: value of type " ++ (<- Rtype.spelt src) ++ " is not assignable to type " ++ (<- Rtype.spelt dst))
  pure (.tuple #[])):=rfl
theorem Tryz.rMethodElem(h:Value)(w:World):(Go.method 366 206 (.agg #[h]) "Elem").run Tryz.prog w=.ok (192,.agg #[h]) w:=by kernel_rfl
theorem Tryz.rMethodImplements(h:Value)(w:World):(Go.method 366 206 (.agg #[h]) "Implements").run Tryz.prog w=.ok (193,.agg #[h]) w:=by kernel_rfl
theorem Tryz.rMethodAssignableTo(h:Value)(w:World):(Go.method 366 206 (.agg #[h]) "AssignableTo").run Tryz.prog w=.ok (190,.agg #[h]) w:=by kernel_rfl
theorem Tryz.rMethodComparable(h:Value)(w:World):(Go.method 366 206 (.agg #[h]) "Comparable").run Tryz.prog w=.ok (191,.agg #[h]) w:=by kernel_rfl
theorem Tryz.rMethodKind(h:Value)(w:World):(Go.method 366 206 (.agg #[h]) "Kind").run Tryz.prog w=.ok (180,h) w:=by kernel_rfl
theorem Tryz.rTypeOfCode(v:Value)(w:World):(ReflectliteType.typeOf #[.iface 103 v]).run Tryz.prog w=.ok (.iface 206 (.agg #[.pointer (some ⟨1,103,none⟩)])) w:=by kernel_rfl
theorem Tryz.rTypeOfFault(v:Value)(w:World):(ReflectliteType.typeOf #[.iface 148 v]).run Tryz.prog w=.ok (.iface 206 (.agg #[.pointer (some ⟨1,148,none⟩)])) w:=by kernel_rfl
theorem Tryz.rUnpackPCode(t:Addr)(w:World):(ReflectliteValue.unpack (.iface 217 (.pointer (some t)))).run Tryz.prog w
  = .ok (.agg #[.pointer (some ⟨1,217,none⟩),.pointer (some ⟨w.heap.size,0,none⟩),.int .u64 150]) (w.alloc (.cells #[.pointer (some t)] 217)):=by kernel_rfl
theorem Tryz.rTypePCode(a:Addr)(w:World):(ReflectliteValue.methodAny (ReflectliteValue.valueError "reflectlite.Value.Type" 0) (fun t _ _ _=>ReflectliteType.toType t) #[.agg #[.pointer (some ⟨1,217,none⟩),.pointer (some a),.int .u64 150]]).run Tryz.prog w
  = .ok (.iface 206 (.agg #[.pointer (some ⟨1,217,none⟩)])) w:=by kernel_rfl
theorem Tryz.rKindPCode(w:World):((ReflectliteType.abiMethod fun t=>(fun a:Nat=>Value.int IntKind.u8 (a:Int)) <$> Rtype.kind t) #[.pointer (some ⟨1,217,none⟩)]).run Tryz.prog w=.ok (.int .u8 22) w:=by kernel_rfl
theorem Tryz.rKindCode(w:World):((ReflectliteType.abiMethod fun t=>(fun a:Nat=>Value.int IntKind.u8 (a:Int)) <$> Rtype.kind t) #[.pointer (some ⟨1,103,none⟩)]).run Tryz.prog w=.ok (.int .u8 2) w:=by kernel_rfl
theorem Tryz.rPartsPCode(a:Addr)(w:World):(ReflectliteValue.parts (.agg #[.pointer (some ⟨1,217,none⟩),.pointer (some a),.int .u64 150])).run Tryz.prog w=.ok (some (217,a,150)) w:=by kernel_rfl
theorem Tryz.rIsNilPCode(a p:Addr)(W:World)(ha:W.cell? a=some (.pointer (some p))):
  (ReflectliteValue.method (ReflectliteValue.valueError "reflectlite.Value.IsNil" 0) ReflectliteValue.isNil #[.agg #[.pointer (some ⟨1,217,none⟩),.pointer (some a),.int .u64 150]]).run Tryz.prog W=.ok (.bool false) W:=by
 rw[rlm];simp only[Sem.run_bind,Tryz.rPartsPCode,Result.andThen];simp[ReflectliteValue.isNil,loadVar,isAgg,underlying,Tryz.underlying217,ha,Result.andThen]
theorem Tryz.rElemPCode(w:World):(ReflectliteType.method ReflectliteType.elem #[.agg #[.pointer (some ⟨1,217,none⟩)]]).run Tryz.prog w=.ok (.iface 206 (.agg #[.pointer (some ⟨1,103,none⟩)])) w:=by kernel_rfl
theorem Tryz.rImplCode(w:World):(ReflectliteType.relation "Implements" ReflectliteType.implements_ #[.agg #[.pointer (some ⟨1,103,none⟩)],.iface 206 (.agg #[.pointer (some ⟨1,60,none⟩)])]).run Tryz.prog w=.ok (.bool true) w:=by kernel_rfl
theorem Tryz.rUnpackCode(x:Int)(w:World):(ReflectliteValue.unpack (.iface 103 (.int .i64 x))).run Tryz.prog w
  = .ok (.agg #[.pointer (some ⟨1,103,none⟩),.pointer (some ⟨w.heap.size,0,none⟩),.int .u64 130]) (w.alloc (.cells #[.int .i64 x] 103)):=by kernel_rfl
theorem Tryz.rElemOfCode(w:World):(Rtype.elem? 217).run Tryz.prog w=.ok (some 103) w:=by kernel_rfl
theorem Tryz.rMkCode(p:Addr)(w:World):(ReflectliteValue.mk 103 p ReflectliteValue.flagAddr).run Tryz.prog w=.ok (.agg #[.pointer (some ⟨1,103,none⟩),.pointer (some p),.int .u64 386]) w:=by kernel_rfl
theorem Tryz.rElemVCode(a p:Addr)(W:World)(ha:W.cell? a=some (.pointer (some p))):
  (ReflectliteValue.method (ReflectliteValue.valueError "reflectlite.Value.Elem" 0) ReflectliteValue.elem #[.agg #[.pointer (some ⟨1,217,none⟩),.pointer (some a),.int .u64 150]]).run Tryz.prog W
   = .ok (.agg #[.pointer (some ⟨1,103,none⟩),.pointer (some p),.int .u64 386]) W:=by
 rw[rlm];simp only[Sem.run_bind,Tryz.rPartsPCode,Result.andThen];simp[ReflectliteValue.elem,loadVar,isAgg,underlying,Tryz.underlying217,ha,Result.andThen,Tryz.rElemOfCode,Tryz.rMkCode]
theorem Tryz.rPartsACode(a:Addr)(w:World):(ReflectliteValue.parts (.agg #[.pointer (some ⟨1,103,none⟩),.pointer (some a),.int .u64 386])).run Tryz.prog w=.ok (some (103,a,386)) w:=by kernel_rfl
theorem Tryz.rPartsCode(a:Addr)(w:World):(ReflectliteValue.parts (.agg #[.pointer (some ⟨1,103,none⟩),.pointer (some a),.int .u64 130])).run Tryz.prog w=.ok (some (103,a,130)) w:=by kernel_rfl
theorem Tryz.rDirectCode(w:World):(Rtype.directlyAssignable 103 103).run Tryz.prog w=.ok true w:=by kernel_rfl
theorem Tryz.rAssignCodeToCode(w:World):(ReflectliteType.relation "AssignableTo" ReflectliteType.assignableTo #[.agg #[.pointer (some ⟨1,103,none⟩)],.iface 206 (.agg #[.pointer (some ⟨1,103,none⟩)])]).run Tryz.prog w=.ok (.bool true) w:=by kernel_rfl
theorem Tryz.rAssignFaultToCode(w:World):(ReflectliteType.relation "AssignableTo" ReflectliteType.assignableTo #[.agg #[.pointer (some ⟨1,148,none⟩)],.iface 206 (.agg #[.pointer (some ⟨1,103,none⟩)])]).run Tryz.prog w=.ok (.bool false) w:=by kernel_rfl
theorem Tryz.rSetCode(ta b:Addr)(x:Int)(old:Value)(W:World)(hb:W.cell? b=some (.int .i64 x))(ht:W.cell? ta=some old)(hf:W.frozen? ta=false):
  (ReflectliteValue.set #[.agg #[.pointer (some ⟨1,103,none⟩),.pointer (some ta),.int .u64 386],.agg #[.pointer (some ⟨1,103,none⟩),.pointer (some b),.int .u64 130]]).run Tryz.prog W
   = .ok (.tuple #[]) (W.setCell ta (.int .i64 x)):=by
 rw[rls];simp only[Sem.run_bind,Tryz.rPartsACode,Tryz.rPartsCode,Result.andThen];simp[ReflectliteValue.flagAddr,loadVar,isAgg,underlying,Tryz.underlying103,hb,Result.andThen,Tryz.rDirectCode,storeVar,Value.cells,storeCells,Addr.add]
 rw[run_store Tryz.prog W ta _ _ (by rfl)]
 simp[ht,hf]
end Go.Proofs.YtcogiogjpbkeaaaGreatDoor
namespace Go.Proofs.YtcogiogjpbkeaaaGreatDoor
open Go.RowKit Go.Extern.Stop Go.Stop Go.Extern
def Keep(w w':World):Prop:=Below w.heap.size w w'
theorem Keep.refl(w:World):Keep w w:=Below.refl _ _
theorem Keep.trans{a b c:World}(h:Keep a b)(k:Keep b c):Keep a c:=Below.trans h (Below.mono k h.size)
theorem Keep.alloc{a b:World}(h:Keep a b)(o:Obj):Keep a (b.alloc o):=Below.alloc h h.size o
theorem Keep.one(w:World)(o:Obj):Keep w (w.alloc o):=(Keep.refl w).alloc o
theorem Keep.grown{w w':World}(h:Keep w w'):w.grownBy w' none:=⟨h.os,h.tape,h.output,h.size,fun k hk _=>h.block k hk⟩
theorem Keep.ofDrew{w w':World}(h:Keep w.drew w'):Keep w w':=⟨h.os,h.tape,h.output,h.size,h.block⟩
theorem Keep.drew{w w':World}(h:Keep w w'):Keep w w'.drew:=Below.drew h
theorem zbl{w:World}{a:Addr}{v:Value}(hc:w.cell? a=some v):a.block<w.heap.size:=by
 rcases Nat.lt_or_ge a.block w.heap.size with h | h
 ·exact h
 ·simp[World.cell?,Array.getElem?_eq_none h] at hc
theorem Keep.cell{w w':World}{a:Addr}{v:Value}(h:Keep w w')(hc:w.cell? a=some v):w'.cell? a=some v:=by
 rw[Below.cell h (zbl hc)];exact hc
theorem Keep.block{w w':World}{k:Nat}{o:Obj}(h:Keep w w')(hc:w.heap[k]?=some o):w'.heap[k]?=some o:=by
 have hk:k<w.heap.size:=by
  rcases Nat.lt_or_ge k w.heap.size with h | h
  ·exact h
  ·simp[Array.getElem?_eq_none h] at hc
 rw[Below.block h k hk];exact hc
inductive Base where
 | code (c:Int)
 | fault (c at_:Int)
 | text (a:Addr)
def Base.val:Base->Value
 | .code c=>.iface 103 (.int .i64 c)
 | .fault c n=>.iface 148 (.agg #[.int .i64 c,.int .i64 n])
 | .text a=>.iface 15 (.pointer (some a))
inductive zgf(w:World):List Int->Base->Value->Prop
 | base (b:Base):zgf w [] b b.val
theorem zgf.keep{w w':World}(h:Keep w w'){ks:List Int}{b:Base}{v:Value}(c:zgf w ks b v):zgf w' ks b v:=by
 induction c with
 | base b=>have _:=h;exact .base b
theorem zgf.iface{w:World}{ks:List Int}{b:Base}{v:Value}(c:zgf w ks b v):∃ t x,v=.iface t x:=by
 cases c with
 | base b=>cases b<;>exact⟨_,_,rfl⟩
theorem zgf.open{w:World}{ks:List Int}{b:Base}{v:Value}(c:zgf w ks b v):
  (ks=[]/\v=b.val)\/∃ (k:Int) (ks':List Int) (a:Nat) (v':Value),ks=k :: ks'/\v=v'/\False/\a=0/\zgf w ks' b v':=by
 cases c with
 | base b=>exact .inl ⟨rfl,rfl⟩
theorem Tryz.noAsFault(v:Value)(xT:TypeId)(w:World):(Instr.typeAssert (.iface 148 v) xT 235 true).run Tryz.prog w=.ok (.tuple #[.nilIface,.bool false]) w:=run_typeAssert_lacksB Tryz.underlying235 (by kernel_rfl) (by kernel_rfl) v xT w
theorem Tryz.noIsFault(v:Value)(xT:TypeId)(w:World):(Instr.typeAssert (.iface 148 v) xT 208 true).run Tryz.prog w=.ok (.tuple #[.nilIface,.bool false]) w:=run_typeAssert_lacksB Tryz.underlying208 (by kernel_rfl) (by kernel_rfl) v xT w
theorem Tryz.noIsCode(v:Value)(xT:TypeId)(w:World):(Instr.typeAssert (.iface 103 v) xT 208 true).run Tryz.prog w=.ok (.tuple #[.nilIface,.bool false]) w:=run_typeAssert_lacksB Tryz.underlying208 (by kernel_rfl) (by kernel_rfl) v xT w
theorem Tryz.unFault(v:Value)(xT:TypeId)(w:World):(Instr.typeAssert (.iface 148 v) xT 211 true).run Tryz.prog w=.ok (.tuple #[.iface 148 v,.bool true]) w:=run_typeAssert_hasB Tryz.underlying211 (by kernel_rfl) v xT w
theorem Tryz.noUnCode(v:Value)(xT:TypeId)(w:World):(Instr.typeAssert (.iface 103 v) xT 211 true).run Tryz.prog w=.ok (.tuple #[.nilIface,.bool false]) w:=run_typeAssert_lacksB Tryz.underlying211 (by kernel_rfl) (by kernel_rfl) v xT w
theorem Tryz.noUnsCode(v:Value)(xT:TypeId)(w:World):(Instr.typeAssert (.iface 103 v) xT 213 true).run Tryz.prog w=.ok (.tuple #[.nilIface,.bool false]) w:=run_typeAssert_lacksB Tryz.underlying213 (by kernel_rfl) (by kernel_rfl) v xT w
theorem Tryz.mUnFault(x y:Int)(w:World):(Go.method 366 148 (.agg #[.int .i64 x,.int .i64 y]) "Unwrap").run Tryz.prog w=.ok (188,.agg #[.int .i64 x,.int .i64 y]) w:=by kernel_rfl
theorem zkb(x y:Int)(w:World):Calls Tryz.prog 188 #[.agg #[.int .i64 x,.int .i64 y]] w fun e w'=>e=.returned (Base.val (.code x))/\Keep w w':=by
 go_enter Tryz.func188,Tryz.ntmps188
 go_wp2;go_ret
 exact⟨rfl,Keep.one _ _⟩
end Go.Proofs.YtcogiogjpbkeaaaGreatDoor
namespace Go.Proofs.YtcogiogjpbkeaaaGreatDoor
open Go.RowKit Go.Extern.Stop Go.Stop Go.Extern
def Hit(t:Addr)(w w':World):Prop:=w.grownBy w' (some t.block)/\∀ i,w'.frozen? ⟨t.block,i,none⟩=w.frozen? ⟨t.block,i,none⟩
theorem Hit.of_keep{t:Addr}{w wr:World}(h:Keep w wr)(ht:t.block<w.heap.size)(o:Obj)(x:Value):Hit t w ((wr.alloc o).setCell t x):=by
 have hk:=h.alloc o;refine⟨⟨hk.os,hk.tape,hk.output,?_,fun k hk2 hne=>?_⟩,fun i=>?_⟩
 ·have:=hk.size;simpa [World.setCell] using this
 ·rw[Below.heap_setCell _ _ _ _ (by intro e;apply hne;rw[e]),Below.block hk k hk2]
 ·rw[World.frozen?_setCell,Below.frozen hk (p:=⟨t.block,i,none⟩) ht]
theorem zlf{w w':World}{t:Addr}(h:Keep w w')(ht:t.block<w.heap.size):w'.frozen? t=w.frozen? t:=Below.frozen h ht
def depth(ks:List Int):Base->Nat
 | .fault _ _=>ks.length+1
 | _=>ks.length
def zlw(c:Int)(b:Base):Prop:=b=.code c\/∃ n,b=.fault c n
set_option maxRecDepth 100000 in
set_option maxHeartbeats 4000000 in
theorem zrf(c:Int)(ks0:List Int)(b0:Base)(v0:Value)(w:World)(a t:Addr)(old:Value)(hch:zgf w ks0 b0 v0)(hb0:zlw c b0)
  (ht:w.cell? t=some old) (hf:w.frozen? t=false) (ha:w.cell? a=some (.pointer (some t))) :
  Calls Tryz.prog 159 #[v0,.iface 217 (.pointer (some t)),.agg #[.pointer (some ⟨1,217,none⟩),.pointer (some a),.int .u64 150],.iface 206 (.agg #[.pointer (some ⟨1,103,none⟩)])] w
   fun e w'=>e=.returned (.bool true)/\Hit t w w'/\w'.cell? t=some (.int .i64 c):=by
 have hv:=@run_callFunc_extern Tryz.prog 156 _ (fun args=>ReflectliteValue.unpack (args.getD 0 (.tuple #[]))) Tryz.func156 (by kernel_rfl) (by kernel_rfl) (by kernel_rfl) (by kernel_rfl)
 have hT:=@run_callFunc_extern Tryz.prog 130 _ ReflectliteType.typeOf Tryz.func130 (by kernel_rfl) (by kernel_rfl) (by kernel_rfl) (by kernel_rfl)
 have hA:=@run_callFunc_extern Tryz.prog 190 _ (ReflectliteType.relation "AssignableTo" ReflectliteType.assignableTo) Tryz.func190 (by kernel_rfl) (by kernel_rfl) (by kernel_rfl) (by kernel_rfl)
 have hE:=@run_callFunc_extern Tryz.prog 164 _ (ReflectliteValue.method (ReflectliteValue.valueError "reflectlite.Value.Elem" 0) ReflectliteValue.elem) Tryz.func164 (by kernel_rfl) (by kernel_rfl) (by kernel_rfl) (by kernel_rfl)
 have hS:=@run_callFunc_extern Tryz.prog 165 _ ReflectliteValue.set Tryz.func165 (by kernel_rfl) (by kernel_rfl) (by kernel_rfl) (by kernel_rfl)
 have t1:=Tryz.rTypeOfCode;have t2:=Tryz.rTypeOfFault;have mA:=Tryz.rMethodAssignableTo;have a1:=Tryz.rAssignCodeToCode;have a2:=Tryz.rAssignFaultToCode;have n2:=Tryz.noAsFault;have u2:=Tryz.unFault;have m2:=Tryz.mUnFault;have hvc:=Tryz.rUnpackCode
 go_enter Tryz.func159,Tryz.ntmps159
 go_wp2
 go_loopg [0] (depth ks0 b0) (fun g v wr=>∃ ks b,zgf w ks b v/\zlw c b/\g=depth ks b/\Keep (w.alloc (.cells #[.pointer (some ⟨1,217,none⟩),.pointer (some a),.int .u64 150] 223)) wr)
 case atStart=>exact⟨ks0,b0,hch,hb0,rfl,Keep.refl _⟩
 case round =>
  obtain⟨ks,b,hc1,hb,rfl,hk⟩:=hrel;have hk0:Keep w wr:=(Keep.one w _).trans hk;have k0:=hk.cell (a:=⟨w.heap.size,0,none⟩) (v:=.pointer (some ⟨1,217,none⟩)) (by simp)
  have k1:=hk.cell (a:=⟨w.heap.size,0+1,none⟩) (v:=.pointer (some a)) (by simp)
  have k2:=hk.cell (a:=⟨w.heap.size,0+2,none⟩) (v:=.int .u64 150) (by simp)
  have hE2:=Tryz.rElemVCode a t wr (hk0.cell ha);have hlt:=zbl ht;have hkt:=hk0.cell ht;have hkf:wr.frozen? t=false:=by rw[zlf hk0 hlt];exact hf
  have hs2:=Tryz.rSetCode t ⟨wr.heap.size,0,none⟩ c old (wr.alloc (.cells #[.int .i64 c] 103)) (by simp) (by rw[World.cell?_alloc_lt _ _ t (zbl hkt)];exact hkt) (by rw[World.frozen?_alloc_old _ _ t (Nat.ne_of_lt (zbl hkt))];exact hkf)
  have hlt0:=Zq hlt;have hfin:((wr.alloc (.cells #[.int .i64 c] 103)).setCell t (.int .i64 c)).cell? t=some (.int .i64 c):=
   World.cell?_setCell_same _ _ _ (u:=old) (by rw[World.cell?_alloc_lt _ _ t (zbl hkt)];exact hkt)
  replace hfin:=Zq hfin;have hk1:=Zq hk;have hk2:=Zq hk0;clear hk0 hch hb0 ht hf ha hkt hkf hlt;rcases hc1.open with ⟨rfl,rfl⟩ | ⟨k,ks,o,v,rfl,rfl,h1,h2,hc2⟩
  ·clear hk hc1
   cases b with
   | code x =>
     obtain rfl:x=c:=by rcases hb with h | ⟨n,h⟩<;>cases h;rfl
     clear hb;unfold Base.val;go_wp2;go_ret
     exact⟨rfl,Hit.of_keep hk2.out hlt0.out _ _,hfin.out⟩
   | fault x n =>
     obtain rfl:x=c:=by rcases hb with h | ⟨n,h⟩<;>cases h;rfl
     clear hb hs2;unfold Base.val;go_wp2_with (go_at_call 188;refine(zkb _ _ _).mono ?_;rintro e w9 ⟨rfl,hk3⟩;replace hk3:=Zq hk3;unfold Base.val)
     go_roundg 0
     case measure=>simp[depth]
     case rel=>exact⟨[],.code x,.base _,Or.inl rfl,rfl,hk1.out.trans hk3.out⟩
   | text x=>rcases hb with h | ⟨n,h⟩<;>cases h
  ·exact h1.elim
end Go.Proofs.YtcogiogjpbkeaaaGreatDoor
namespace Go.Proofs.YtcogiogjpbkeaaaGreatDoor
open Go.RowKit Go.Extern.Stop Go.Stop Go.Extern
end Go.Proofs.YtcogiogjpbkeaaaGreatDoor
namespace Go.Proofs.YtcogiogjpbkeaaaGreatDoor
open Go.RowKit Go.Extern.Stop Go.Stop Go.Extern
end Go.Proofs.YtcogiogjpbkeaaaGreatDoor
namespace Go.Proofs.YtcogiogjpbkeaaaGreatDoor
open Go.RowKit Go.Extern.Stop Go.Stop Go.Extern
def zbk(w:World):Prop:=w.cell? ⟨0,0,none⟩=some (.iface 206 (.agg #[.pointer (some ⟨1,60,none⟩)]))
theorem zbk.keep{w w':World}(h:zbk w)(k:Keep w w'):zbk w':=k.cell h
theorem ajg(t:Value)(w:World):Calls Tryz.prog 147 #[.nilIface,t] w fun e w'=>e=.returned (.bool false)/\w=w':=by
 go_enter Tryz.func147,Tryz.ntmps147
 go_wp2;go_ret
 exact⟨rfl,rfl⟩
set_option maxRecDepth 100000 in
set_option maxHeartbeats 4000000 in
theorem afd(tv:TypeId)(xv:Value)(t:Addr)(w:World)(b:Bool)(R:World->Prop)(hg:zbk w)
  (h:∀ w1 a,Keep w w1->w1.cell? a=some (.pointer (some t))->Calls Tryz.prog 159 #[.iface tv xv,.iface 217 (.pointer (some t)),.agg #[.pointer (some ⟨1,217,none⟩),.pointer (some a),.int .u64 150],.iface 206 (.agg #[.pointer (some ⟨1,103,none⟩)])] w1
   fun e w'=>e=.returned (.bool b)/\R w') :
  Calls Tryz.prog 147 #[.iface tv xv,.iface 217 (.pointer (some t))] w fun e w'=>e=.returned (.bool b)/\R w':=by
 have h6:=@run_callFunc_extern Tryz.prog 156 _ (fun args=>ReflectliteValue.unpack (args.getD 0 (.tuple #[]))) Tryz.func156 (by kernel_rfl) (by kernel_rfl) (by kernel_rfl) (by kernel_rfl)
 have h7:=@run_callFunc_extern Tryz.prog 157 _ (ReflectliteValue.methodAny (ReflectliteValue.valueError "reflectlite.Value.Type" 0) (fun t _ _ _=>ReflectliteType.toType t)) Tryz.func157 (by kernel_rfl) (by kernel_rfl) (by kernel_rfl) (by kernel_rfl)
 have h8:=@run_callFunc_extern Tryz.prog 158 _ (ReflectliteValue.method (ReflectliteValue.valueError "reflectlite.Value.IsNil" 0) ReflectliteValue.isNil) Tryz.func158 (by kernel_rfl) (by kernel_rfl) (by kernel_rfl) (by kernel_rfl)
 have h27:=@run_callFunc_extern Tryz.prog 180 _ (ReflectliteType.abiMethod fun t=>do pure (.int .u8 (<- Rtype.kind t))) Tryz.func180 (by kernel_rfl) (by kernel_rfl) (by kernel_rfl) (by kernel_rfl)
 have h37:=@run_callFunc_extern Tryz.prog 192 _ (ReflectliteType.method ReflectliteType.elem) Tryz.func192 (by kernel_rfl) (by kernel_rfl) (by kernel_rfl) (by kernel_rfl)
 have h38:=@run_callFunc_extern Tryz.prog 193 _ (ReflectliteType.relation "Implements" ReflectliteType.implements_) Tryz.func193 (by kernel_rfl) (by kernel_rfl) (by kernel_rfl) (by kernel_rfl)
 have f6:=Tryz.rUnpackPCode;have f7:=Tryz.rTypePCode;have mK:=Tryz.rMethodKind;have mE:=Tryz.rMethodElem;have mI:=Tryz.rMethodImplements;have k27:=Tryz.rKindPCode;have k25:=Tryz.rKindCode;have e27:=Tryz.rElemPCode;have i25:=Tryz.rImplCode;have n8:=Tryz.rIsNilPCode ⟨w.heap.size,0,none⟩ t ((w.alloc (.cells #[.pointer (some t)] 217)).alloc (.cells #[.pointer (some ⟨1,217,none⟩),.pointer (some ⟨w.heap.size,0,none⟩),.int .u64 150] 223)) (by rw[World.cell?_alloc_lt _ _ ⟨w.heap.size,0,none⟩ (by simp)];simp)
 have hkk:Keep w ((w.alloc (.cells #[.pointer (some t)] 217)).alloc (.cells #[.pointer (some ⟨1,217,none⟩),.pointer (some ⟨w.heap.size,0,none⟩),.int .u64 150] 223)):=(Keep.one w _).trans (Keep.one _ _);have hg2:((w.alloc (.cells #[.pointer (some t)] 217)).alloc (.cells #[.pointer (some ⟨1,217,none⟩),.pointer (some ⟨w.heap.size,0,none⟩),.int .u64 150] 223)).cell? ⟨0,0,none⟩=some (.iface 206 (.agg #[.pointer (some ⟨1,60,none⟩)])):=hg.keep hkk;have hc:=h ((w.alloc (.cells #[.pointer (some t)] 217)).alloc (.cells #[.pointer (some ⟨1,217,none⟩),.pointer (some ⟨w.heap.size,0,none⟩),.int .u64 150] 223)) ⟨w.heap.size,0,none⟩ hkk (by rw[World.cell?_alloc_lt _ _ ⟨w.heap.size,0,none⟩ (by simp)];simp)
 have hc:=Zq hc;clear h hg hkk
 go_enter Tryz.func147,Tryz.ntmps147
 go_wp2_with (go_at_call 159;refine hc.out.mono ?_;rintro e w' ⟨rfl,hr⟩)
 go_ret
 exact⟨rfl,hr⟩
end Go.Proofs.YtcogiogjpbkeaaaGreatDoor
namespace Go.Proofs.YtcogiogjpbkeaaaGreatDoor
open Go.RowKit Go.Extern.Stop Go.Stop Go.Extern
theorem Hit.from{t:Addr}{w w1 w':World}(h:Hit t w1 w')(k:Keep w w1)(ht:t.block<w.heap.size):Hit t w w':=by
 refine⟨⟨h.1.os.trans k.os,h.1.tape.trans k.tape,h.1.output.trans k.output,Nat.le_trans k.size h.1.size,fun j hj hne=>?_⟩,fun i=>?_⟩
 ·rw[h.1.block j (Nat.lt_of_lt_of_le hj k.size) hne,Below.block k j hj]
 ·rw[h.2,Below.frozen k (p:=⟨t.block,i,none⟩) ht]
theorem Hit.after{w w9:World}{n:Nat}{o1 o2:Obj}(hn:n=w.heap.size)(hh:Hit ⟨n,0,none⟩ ((w.alloc o1).alloc o2) w9):
  Keep w w9/\(∀ i,w9.cell? ⟨n+1,i,none⟩=((w.alloc o1).alloc o2).cell? ⟨n+1,i,none⟩)/\(∀ i,w9.frozen? ⟨n+1,i,none⟩=((w.alloc o1).alloc o2).frozen? ⟨n+1,i,none⟩)/\(∀ i,w9.frozen? ⟨n,i,none⟩=((w.alloc o1).alloc o2).frozen? ⟨n,i,none⟩):=by
 subst hn;have hk0:Keep w ((w.alloc o1).alloc o2):=(Keep.one w _).trans (Keep.one _ _);have hsz:((w.alloc o1).alloc o2).heap.size=w.heap.size+2:=by simp
 have hg:=hh.1;refine⟨⟨hg.os.trans hk0.os,hg.tape.trans hk0.tape,hg.output.trans hk0.output,Nat.le_trans hk0.size hg.size,fun k hk=>?_⟩,fun i=>?_,fun i=>?_,hh.2⟩
 ·rw[hg.block k (by omega) (by simp;omega),Below.block hk0 k hk]
 ·exact World.cell?_of_block (hg.block (w.heap.size+1) (by omega) (by simp))
 ·exact World.frozen?_of_block (hg.block (w.heap.size+1) (by omega) (by simp))
theorem Keep.set{w w':World}(h:Keep w w'){p:Addr}(hp:w.heap.size<=p.block)(u:Value):Keep w (w'.setCell p u):=Below.setCell h hp u
theorem zry(a b:Value)(w:World):
  CallsD Tryz.prog 146 #[a,b] .returning w fun e u' w'=>e=.returned (.tuple #[])/\u'=.returning/\w=w':=by
 refine callsD_of_wpS Tryz.func146 rfl fun c₀ cs hu=>?_
 apply wpS_seq
 apply wpS_region
 simp[wpOpsS,go_sem,recoverD,hu,Tryz.ntmps146,Exit.thenS]
 refine wpS_cond (t:=false) (by simp[Act.eval,Array.replicate]) ?_
 simp only[Bool.false_eq_true,if_false];refine wpS_of_wp (wp_skip ?_);cases c₀
 simp_all [bodyPostS,results,Tryz.results146]
set_option maxHeartbeats 4000000 in
theorem zqa(c:Int)(ks:List Int)(b:Base)(v:Value)(w:World)(hch:zgf w ks b v)(hb:zlw c b)(hg:zbk w):
  Calls Tryz.prog 132 #[v] w fun e w'=>e=.returned (.tuple #[.int .i64 c,.bool true])/\Keep w w':=by
 have hmf:∀ (fn:Fn) (first cap:Array Value) (w:World),(Instr.makeFunc fn first cap).run Tryz.prog w=.ok (.func fn first cap) w:=fun _ _ _ _=>rfl
 obtain⟨tv,xv,rfl⟩:=hch.iface;have hk0:Keep w ((w.alloc (.cells #[.int .i64 0] 103)).alloc (.cells #[.bool false] 4)):=(Keep.one w _).trans (Keep.one _ _);have hA:=afd tv xv ⟨w.heap.size,0,none⟩ ((w.alloc (.cells #[.int .i64 0] 103)).alloc (.cells #[.bool false] 4)) true
  (fun w'=>Hit ⟨w.heap.size,0,none⟩ ((w.alloc (.cells #[.int .i64 0] 103)).alloc (.cells #[.bool false] 4)) w'/\w'.cell? ⟨w.heap.size,0,none⟩=some (.int .i64 c)) (hg.keep hk0)
  (fun w1 aa hk ha=>(zrf c ks b (.iface tv xv) w1 aa ⟨w.heap.size,0,none⟩ (.int .i64 0) ((hch.keep hk0).keep hk) hb (hk.cell (by rw[World.cell?_alloc_lt _ _ ⟨w.heap.size,0,none⟩ (by simp)];simp)) (by rw[zlf hk (by simp;omega)];simp) ha).mono
   fun e w' ⟨he,hh,hc0⟩=>⟨he,hh.from hk (by simp;omega),hc0⟩)
 have hA:=Zq hA;clear hch hg
 go_enter_defers Tryz.func132,Tryz.ntmps132
 go_wp2_with fail;refine hA.out.mono ?_;rintro e w9 ⟨rfl,hh,hc0⟩;obtain⟨hk,c1,f1,f0⟩:=hh.after rfl;have k1:w9.cell? ⟨w.heap.size+1,0,none⟩=some (.bool false):=by rw[c1];simp
 have g1:w9.frozen? ⟨w.heap.size+1,0,none⟩=false:=by rw[f1];simp
 have g00:w9.frozen? ⟨w.heap.size,0,none⟩=false:=by rw[f0];simp
 have hk:=Zq hk;clear c1 f1 f0 hh hA hk0;go_wp2
 go_region
 all_goals go_wp2
 refine leaves_cons (f:=146) (args:=#[.pointer (some ⟨w.heap.size,0,none⟩),.pointer (some ⟨w.heap.size+1,0,none⟩)]) (by simp) (by simp[go_sem]) ?_
 refine(zry _ _ _).mono ?_;rintro e u' w'' ⟨rfl,rfl,rfl⟩;have e1:(((w9.setCell ⟨w.heap.size+1,0,none⟩ (.bool true)).setCell ⟨w.heap.size,0,none⟩ (.int .i64 c)).setCell ⟨w.heap.size+1,0,none⟩ (.bool true)).cell? ⟨w.heap.size+1,0,none⟩=some (.bool true):=by
  refine World.cell?_setCell_same _ _ _ (u:=.bool true) ?_;rw[World.cell?_setCell_other (a:=⟨w.heap.size,0,none⟩) (b:=⟨w.heap.size+1,0,none⟩) (h:=by simp)]
  exact World.cell?_setCell_same _ _ _ k1
 have e20:(((w9.setCell ⟨w.heap.size+1,0,none⟩ (.bool true)).setCell ⟨w.heap.size,0,none⟩ (.int .i64 c)).setCell ⟨w.heap.size+1,0,none⟩ (.bool true)).cell? ⟨w.heap.size,0,none⟩=some (.int .i64 c):=by
  rw[World.cell?_setCell_other (a:=⟨w.heap.size+1,0,none⟩) (b:=⟨w.heap.size,0,none⟩) (h:=by simp)]
  refine World.cell?_setCell_same _ _ _ (u:=.int .i64 c) ?_;rw[World.cell?_setCell_other (a:=⟨w.heap.size+1,0,none⟩) (b:=⟨w.heap.size,0,none⟩) (h:=by simp)]
  exact hc0
 simp[Leaves,settle,results,Tryz.results132,go_sem,e1,e20]
 exact Keep.drew (Keep.set (Keep.set (Keep.set hk.out (Nat.le_succ _) _) (Nat.le_refl _) _) (Nat.le_succ _) _)
set_option maxHeartbeats 4000000 in
theorem zpz(w:World):
  Calls Tryz.prog 132 #[.nilIface] w fun e w'=>e=.returned (.tuple #[.int .i64 0,.bool false])/\Keep w w':=by
 have hmf:∀ (fn:Fn) (first cap:Array Value) (w:World),(Instr.makeFunc fn first cap).run Tryz.prog w=.ok (.func fn first cap) w:=fun _ _ _ _=>rfl
 have hk0:Keep w ((w.alloc (.cells #[.int .i64 0] 103)).alloc (.cells #[.bool false] 4)):=(Keep.one w _).trans (Keep.one _ _);have hA:Calls Tryz.prog 147 #[.nilIface,.iface 217 (.pointer (some ⟨w.heap.size,0,none⟩))] ((w.alloc (.cells #[.int .i64 0] 103)).alloc (.cells #[.bool false] 4)) fun e w'=>e=.returned (.bool false)/\Keep ((w.alloc (.cells #[.int .i64 0] 103)).alloc (.cells #[.bool false] 4)) w':=(ajg _ _).mono fun e w' ⟨he,hw⟩=>⟨he,hw▸Keep.refl _⟩
 have hA:=Zq hA
 skip
 go_enter_defers Tryz.func132,Tryz.ntmps132
 go_wp2_with fail;refine hA.out.mono ?_;rintro e w9 ⟨rfl,hk9⟩;have k1:w9.cell? ⟨w.heap.size+1,0,none⟩=some (.bool false):=hk9.cell (by simp)
 have g1:w9.frozen? ⟨w.heap.size+1,0,none⟩=false:=by rw[Below.frozen hk9 (by simp)];simp
 have hc0:w9.cell? ⟨w.heap.size,0,none⟩=some (.int .i64 0):=hk9.cell (by rw[World.cell?_alloc_lt _ _ ⟨w.heap.size,0,none⟩ (by simp)];simp)
 have g00:w9.frozen? ⟨w.heap.size,0,none⟩=false:=by rw[Below.frozen hk9 (by simp;omega)];simp
 have hk:=Zq (hk0.trans hk9);clear hA hk0 hk9;go_wp2
 go_region
 all_goals go_wp2
 refine leaves_cons (f:=146) (args:=#[.pointer (some ⟨w.heap.size,0,none⟩),.pointer (some ⟨w.heap.size+1,0,none⟩)]) (by simp) (by simp[go_sem]) ?_
 refine(zry _ _ _).mono ?_;rintro e u' w'' ⟨rfl,rfl,rfl⟩;have e1:(((w9.setCell ⟨w.heap.size+1,0,none⟩ (.bool false)).setCell ⟨w.heap.size,0,none⟩ (.int .i64 0)).setCell ⟨w.heap.size+1,0,none⟩ (.bool false)).cell? ⟨w.heap.size+1,0,none⟩=some (.bool false):=by
  refine World.cell?_setCell_same _ _ _ (u:=.bool false) ?_;rw[World.cell?_setCell_other (a:=⟨w.heap.size,0,none⟩) (b:=⟨w.heap.size+1,0,none⟩) (h:=by simp)]
  exact World.cell?_setCell_same _ _ _ k1
 have e20:(((w9.setCell ⟨w.heap.size+1,0,none⟩ (.bool false)).setCell ⟨w.heap.size,0,none⟩ (.int .i64 0)).setCell ⟨w.heap.size+1,0,none⟩ (.bool false)).cell? ⟨w.heap.size,0,none⟩=some (.int .i64 0):=by
  rw[World.cell?_setCell_other (a:=⟨w.heap.size+1,0,none⟩) (b:=⟨w.heap.size,0,none⟩) (h:=by simp)]
  refine World.cell?_setCell_same _ _ _ (u:=.int .i64 0) ?_;rw[World.cell?_setCell_other (a:=⟨w.heap.size+1,0,none⟩) (b:=⟨w.heap.size,0,none⟩) (h:=by simp)]
  exact hc0
 simp[Leaves,settle,results,Tryz.results132,go_sem,e1,e20]
 exact Keep.drew (Keep.set (Keep.set (Keep.set hk.out (Nat.le_succ _) _) (Nat.le_refl _) _) (Nat.le_succ _) _)
end Go.Proofs.YtcogiogjpbkeaaaGreatDoor
namespace Go.Proofs.YtcogiogjpbkeaaaGreatDoor
open Go.RowKit Go.Extern.Stop Go.Stop Go.Extern
theorem Tryz.eqCode(x y:Int)(w:World):(binOp .eql 60 (.iface 103 (.int .i64 x)) (.iface 103 (.int .i64 y))).run Tryz.prog w=.ok (.bool (x == y)) w:=by kernel_rfl
theorem Tryz.neFaultCode(v u:Value)(w:World):(binOp .eql 60 (.iface 148 v) (.iface 103 u)).run Tryz.prog w=.ok (.bool false) w:=run_eql_iface_types _ _ _ _ Tryz.underlying60 (by decide) w
theorem Tryz.cmpCode(w:World):((ReflectliteType.method fun t=>do Rtype.noPackHeld "Comparable" t;(fun a:TypeInfo=>Value.bool a.comparable) <$> typeInfo t) #[.agg #[.pointer (some ⟨1,103,none⟩)]]).run Tryz.prog w=.ok (.bool true) w:=by kernel_rfl
end Go.Proofs.YtcogiogjpbkeaaaGreatDoor
namespace Go.Proofs.YtcogiogjpbkeaaaGreatDoor
open Go.RowKit Go.Extern.Stop Go.Stop Go.Extern
set_option maxRecDepth 100000 in
set_option maxHeartbeats 4000000 in
theorem ama(tv:TypeId)(xv:Value)(t:TypeId)(u:Value)(w:World)(R:World->Prop)
  (hT:∀ W,(ReflectliteType.typeOf #[.iface t u]).run Tryz.prog W=.ok (.iface 206 (.agg #[.pointer (some ⟨1,t,none⟩)])) W)
  (hC:∀ W,((ReflectliteType.method fun t=>do Rtype.noPackHeld "Comparable" t;(fun a:TypeInfo=>Value.bool a.comparable) <$> typeInfo t) #[.agg #[.pointer (some ⟨1,t,none⟩)]]).run Tryz.prog W=.ok (.bool true) W)
  (b:Bool) (h:Calls Tryz.prog 131 #[.iface tv xv,.iface t u,.bool true] w fun e w'=>e=.returned (.bool b)/\R w') :
  Calls Tryz.prog 95 #[.iface tv xv,.iface t u] w fun e w'=>e=.returned (.bool b)/\R w':=by
 have h33:=@run_callFunc_extern Tryz.prog 130 _ ReflectliteType.typeOf Tryz.func130 (by kernel_rfl) (by kernel_rfl) (by kernel_rfl) (by kernel_rfl)
 have h87:=@run_callFunc_extern Tryz.prog 191 _ (ReflectliteType.method fun t=>do Rtype.noPackHeld "Comparable" t;pure (.bool (<- typeInfo t).comparable)) Tryz.func191 (by kernel_rfl) (by kernel_rfl) (by kernel_rfl) (by kernel_rfl)
 have mC:=Tryz.rMethodComparable;replace h:=Zq h
 go_enter Tryz.func95,Tryz.ntmps95
 go_wp2_with (go_at_call 131;refine h.out.mono ?_;rintro e w' ⟨rfl,hr⟩)
 go_ret
 exact⟨rfl,hr⟩
end Go.Proofs.YtcogiogjpbkeaaaGreatDoor
