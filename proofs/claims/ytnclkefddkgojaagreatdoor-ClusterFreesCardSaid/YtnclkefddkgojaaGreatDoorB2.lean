/-
  errors.As at the targets *api.Code, *api.Fault and **fault.located: what errors.as answers; nil. Condition: errors.errorType holds the handle of the type 'error'.
  find at api.Code, api.Fault and *located: what a chain holds, or none. Condition: errors.errorType holds its own.
  '==' between errors as errors.Is asks it. No condition.
  errors.Is at a code, for every chain that has one; at a fault, for that fault. No condition.
  The functions of package fault, and the reference's names. Condition: the three listed variables hold their own.
  What was there stays; slices of numbers; bounds. No condition.
-/
import Derived.Test.YtnclkefddkgojaaGreatDoorB1
import Derived.Defers
import Derived.Recover
import Derived.RegionTactic
import Derived.Deep.RegionWith
import Derived.ChangeAlike
import Derived.WalkKit
import Derived.WalkSpells
import Derived.WalkLawsBesides
import Derived.BigQuiet
import Derived.Deep.QuietTactic
import Derived.Deep.LoopGhost
import Derived.Deep.OwnRows
import Derived.Deep.RegionHeld3
import Derived.Below
import Derived.Lib.Hide
import Derived.WideShapes
import Derived.WalkMore
namespace Go.Proofs.YtnclkefddkgojaaGreatDoor
open Go.RowKit Go.Extern.Stop Go.Stop Go.Extern
def ErrT (w:World):Prop:=w.cell? ⟨0,0,none⟩ = some (.iface 203 (.agg #[.pointer (some ⟨1,56,none⟩)]))
theorem ErrT.keep {w w':World} (h:ErrT w) (k:Keep w w'):ErrT w':=k.cell h
theorem As_nil (t:Value) (w:World):Calls Tryz.prog 109 #[.nilIface,t] w fun e w'=>e = .returned (.bool false)∧w = w':=by
  go_enter Tryz.func109,Tryz.ntmps109
  go_wp2
  go_ret
  exact ⟨rfl,rfl⟩
set_option maxRecDepth 100000 in
set_option maxHeartbeats 4000000 in
theorem As_Code (tv:TypeId) (xv:Value) (t:Addr) (w:World) (b:Bool) (R:World→Prop) (hg:ErrT w)
    (h:∀ w1 a,Keep w w1→w1.cell? a = some (.pointer (some t))→Calls Tryz.prog 128 #[.iface tv xv,.iface 176 (.pointer (some t)),.agg #[.pointer (some ⟨1,176,none⟩),.pointer (some a),.int .u64 150],.iface 203 (.agg #[.pointer (some ⟨1,103,none⟩)])] w1
      fun e w'=>e = .returned (.bool b)∧R w') :
    Calls Tryz.prog 109 #[.iface tv xv,.iface 176 (.pointer (some t))] w fun e w'=>e = .returned (.bool b)∧R w':=by
  have h6:=@run_callFunc_extern Tryz.prog 125 _ (fun args=>ReflectliteValue.unpack (args.getD 0 (.tuple #[]))) Tryz.func125 (by kernel_rfl) (by kernel_rfl) (by kernel_rfl) (by kernel_rfl)
  have h7:=@run_callFunc_extern Tryz.prog 126 _ (ReflectliteValue.methodAny (ReflectliteValue.valueError "reflectlite.Value.Type" 0) (fun t _ _ _=>ReflectliteType.toType t)) Tryz.func126 (by kernel_rfl) (by kernel_rfl) (by kernel_rfl) (by kernel_rfl)
  have h8:=@run_callFunc_extern Tryz.prog 127 _ (ReflectliteValue.method (ReflectliteValue.valueError "reflectlite.Value.IsNil" 0) ReflectliteValue.isNil) Tryz.func127 (by kernel_rfl) (by kernel_rfl) (by kernel_rfl) (by kernel_rfl)
  have h27:=@run_callFunc_extern Tryz.prog 165 _ (ReflectliteType.abiMethod fun t=>do pure (.int .u8 (← Rtype.kind t))) Tryz.func165 (by kernel_rfl) (by kernel_rfl) (by kernel_rfl) (by kernel_rfl)
  have h37:=@run_callFunc_extern Tryz.prog 181 _ (ReflectliteType.method ReflectliteType.elem) Tryz.func181 (by kernel_rfl) (by kernel_rfl) (by kernel_rfl) (by kernel_rfl)
  have h38:=@run_callFunc_extern Tryz.prog 182 _ (ReflectliteType.relation "Implements" ReflectliteType.implements_) Tryz.func182 (by kernel_rfl) (by kernel_rfl) (by kernel_rfl) (by kernel_rfl)
  have f6:=Tryz.rUnpackPCode
  have f7:=Tryz.rTypePCode
  have mK:=Tryz.rMethodKind
  have mE:=Tryz.rMethodElem
  have mI:=Tryz.rMethodImplements
  have k27:=Tryz.rKindPCode
  have k25:=Tryz.rKindCode
  have e27:=Tryz.rElemPCode
  have i25:=Tryz.rImplCode
  have n8:=Tryz.rIsNilPCode ⟨w.heap.size,0,none⟩ t ((w.alloc (.cells #[.pointer (some t)] 176)).alloc (.cells #[.pointer (some ⟨1,176,none⟩),.pointer (some ⟨w.heap.size,0,none⟩),.int .u64 150] 194)) (by rw [World.cell?_alloc_lt _ _ ⟨w.heap.size,0,none⟩ (by simp)];simp)
  have hkk:Keep w ((w.alloc (.cells #[.pointer (some t)] 176)).alloc (.cells #[.pointer (some ⟨1,176,none⟩),.pointer (some ⟨w.heap.size,0,none⟩),.int .u64 150] 194)):=(Keep.one w _).trans (Keep.one _ _)
  have hg2:((w.alloc (.cells #[.pointer (some t)] 176)).alloc (.cells #[.pointer (some ⟨1,176,none⟩),.pointer (some ⟨w.heap.size,0,none⟩),.int .u64 150] 194)).cell? ⟨0,0,none⟩ = some (.iface 203 (.agg #[.pointer (some ⟨1,56,none⟩)])):=hg.keep hkk
  have hc:=h ((w.alloc (.cells #[.pointer (some t)] 176)).alloc (.cells #[.pointer (some ⟨1,176,none⟩),.pointer (some ⟨w.heap.size,0,none⟩),.int .u64 150] 194)) ⟨w.heap.size,0,none⟩ hkk (by rw [World.cell?_alloc_lt _ _ ⟨w.heap.size,0,none⟩ (by simp)];simp)
  have hc:=Lib.hid hc
  clear h hg hkk
  go_enter Tryz.func109,Tryz.ntmps109
  go_wp2_with (go_at_call 128;refine hc.out.mono ?_;rintro e w' ⟨rfl,hr⟩)
  go_ret
  exact ⟨rfl,hr⟩
set_option maxRecDepth 100000 in
set_option maxHeartbeats 4000000 in
theorem As_Fault (tv:TypeId) (xv:Value) (t:Addr) (w:World) (b:Bool) (R:World→Prop) (hg:ErrT w)
    (h:∀ w1 a,Keep w w1→w1.cell? a = some (.pointer (some t))→Calls Tryz.prog 128 #[.iface tv xv,.iface 177 (.pointer (some t)),.agg #[.pointer (some ⟨1,177,none⟩),.pointer (some a),.int .u64 150],.iface 203 (.agg #[.pointer (some ⟨1,145,none⟩)])] w1
      fun e w'=>e = .returned (.bool b)∧R w') :
    Calls Tryz.prog 109 #[.iface tv xv,.iface 177 (.pointer (some t))] w fun e w'=>e = .returned (.bool b)∧R w':=by
  have h6:=@run_callFunc_extern Tryz.prog 125 _ (fun args=>ReflectliteValue.unpack (args.getD 0 (.tuple #[]))) Tryz.func125 (by kernel_rfl) (by kernel_rfl) (by kernel_rfl) (by kernel_rfl)
  have h7:=@run_callFunc_extern Tryz.prog 126 _ (ReflectliteValue.methodAny (ReflectliteValue.valueError "reflectlite.Value.Type" 0) (fun t _ _ _=>ReflectliteType.toType t)) Tryz.func126 (by kernel_rfl) (by kernel_rfl) (by kernel_rfl) (by kernel_rfl)
  have h8:=@run_callFunc_extern Tryz.prog 127 _ (ReflectliteValue.method (ReflectliteValue.valueError "reflectlite.Value.IsNil" 0) ReflectliteValue.isNil) Tryz.func127 (by kernel_rfl) (by kernel_rfl) (by kernel_rfl) (by kernel_rfl)
  have h27:=@run_callFunc_extern Tryz.prog 165 _ (ReflectliteType.abiMethod fun t=>do pure (.int .u8 (← Rtype.kind t))) Tryz.func165 (by kernel_rfl) (by kernel_rfl) (by kernel_rfl) (by kernel_rfl)
  have h37:=@run_callFunc_extern Tryz.prog 181 _ (ReflectliteType.method ReflectliteType.elem) Tryz.func181 (by kernel_rfl) (by kernel_rfl) (by kernel_rfl) (by kernel_rfl)
  have h38:=@run_callFunc_extern Tryz.prog 182 _ (ReflectliteType.relation "Implements" ReflectliteType.implements_) Tryz.func182 (by kernel_rfl) (by kernel_rfl) (by kernel_rfl) (by kernel_rfl)
  have f6:=Tryz.rUnpackPFault
  have f7:=Tryz.rTypePFault
  have mK:=Tryz.rMethodKind
  have mE:=Tryz.rMethodElem
  have mI:=Tryz.rMethodImplements
  have k27:=Tryz.rKindPFault
  have k25:=Tryz.rKindFault
  have e27:=Tryz.rElemPFault
  have i25:=Tryz.rImplFault
  have n8:=Tryz.rIsNilPFault ⟨w.heap.size,0,none⟩ t ((w.alloc (.cells #[.pointer (some t)] 177)).alloc (.cells #[.pointer (some ⟨1,177,none⟩),.pointer (some ⟨w.heap.size,0,none⟩),.int .u64 150] 194)) (by rw [World.cell?_alloc_lt _ _ ⟨w.heap.size,0,none⟩ (by simp)];simp)
  have hkk:Keep w ((w.alloc (.cells #[.pointer (some t)] 177)).alloc (.cells #[.pointer (some ⟨1,177,none⟩),.pointer (some ⟨w.heap.size,0,none⟩),.int .u64 150] 194)):=(Keep.one w _).trans (Keep.one _ _)
  have hg2:((w.alloc (.cells #[.pointer (some t)] 177)).alloc (.cells #[.pointer (some ⟨1,177,none⟩),.pointer (some ⟨w.heap.size,0,none⟩),.int .u64 150] 194)).cell? ⟨0,0,none⟩ = some (.iface 203 (.agg #[.pointer (some ⟨1,56,none⟩)])):=hg.keep hkk
  have hc:=h ((w.alloc (.cells #[.pointer (some t)] 177)).alloc (.cells #[.pointer (some ⟨1,177,none⟩),.pointer (some ⟨w.heap.size,0,none⟩),.int .u64 150] 194)) ⟨w.heap.size,0,none⟩ hkk (by rw [World.cell?_alloc_lt _ _ ⟨w.heap.size,0,none⟩ (by simp)];simp)
  have hc:=Lib.hid hc
  clear h hg hkk
  go_enter Tryz.func109,Tryz.ntmps109
  go_wp2_with (go_at_call 128;refine hc.out.mono ?_;rintro e w' ⟨rfl,hr⟩)
  go_ret
  exact ⟨rfl,hr⟩
end Go.Proofs.YtnclkefddkgojaaGreatDoor

namespace Go.Proofs.YtnclkefddkgojaaGreatDoor
open Go.RowKit Go.Extern.Stop Go.Stop Go.Extern
theorem Hit.from {t:Addr} {w w1 w':World} (h:Hit t w1 w') (k:Keep w w1) (ht:t.block < w.heap.size):Hit t w w':=by
  refine ⟨⟨h.1.os.trans k.os,h.1.tape.trans k.tape,h.1.output.trans k.output,Nat.le_trans k.size h.1.size,fun j hj hne=>?_⟩,fun i=>?_⟩
  · rw [h.1.block j (Nat.lt_of_lt_of_le hj k.size) hne,Below.block k j hj]
  · rw [h.2,Below.frozen k (p:=⟨t.block,i,none⟩) ht]
theorem Hit.after {w w9:World} {n:Nat} {o1 o2:Obj} (hn:n = w.heap.size) (hh:Hit ⟨n,0,none⟩ ((w.alloc o1).alloc o2) w9) :
    Keep w w9∧(∀ i,w9.cell? ⟨n + 1,i,none⟩ = ((w.alloc o1).alloc o2).cell? ⟨n + 1,i,none⟩)∧(∀ i,w9.frozen? ⟨n + 1,i,none⟩ = ((w.alloc o1).alloc o2).frozen? ⟨n + 1,i,none⟩)∧(∀ i,w9.frozen? ⟨n,i,none⟩ = ((w.alloc o1).alloc o2).frozen? ⟨n,i,none⟩):=by
  subst hn
  have hk0:Keep w ((w.alloc o1).alloc o2):=(Keep.one w _).trans (Keep.one _ _)
  have hsz:((w.alloc o1).alloc o2).heap.size = w.heap.size + 2:=by simp
  have hg:=hh.1
  refine ⟨⟨hg.os.trans hk0.os,hg.tape.trans hk0.tape,hg.output.trans hk0.output,Nat.le_trans hk0.size hg.size,fun k hk=>?_⟩,fun i=>?_,fun i=>?_,hh.2⟩
  · rw [hg.block k (by omega) (by simp;omega),Below.block hk0 k hk]
  · exact World.cell?_of_block (hg.block (w.heap.size + 1) (by omega) (by simp))
  · exact World.frozen?_of_block (hg.block (w.heap.size + 1) (by omega) (by simp))
theorem Keep.set {w w':World} (h:Keep w w') {p:Addr} (hp:w.heap.size≤p.block) (u:Value):Keep w (w'.setCell p u):=Below.setCell h hp u
theorem idleCode (a b:Value) (w:World) :
    CallsD Tryz.prog 108 #[a,b] .returning w fun e u' w'=>e = .returned (.tuple #[])∧u' = .returning∧w = w':=by
  refine callsD_of_wpS Tryz.func108 rfl fun c₀ cs hu=>?_
  apply wpS_seq
  apply wpS_region
  simp [wpOpsS,go_sem,recoverD,hu,Tryz.ntmps108,Exit.thenS]
  refine wpS_cond (t:=false) (by simp [Act.eval,Array.replicate]) ?_
  simp only [Bool.false_eq_true,if_false]
  refine wpS_of_wp (wp_skip ?_)
  cases c₀
  simp_all [bodyPostS,results,Tryz.results108]
theorem idleFault (a b:Value) (w:World) :
    CallsD Tryz.prog 110 #[a,b] .returning w fun e u' w'=>e = .returned (.tuple #[])∧u' = .returning∧w = w':=by
  refine callsD_of_wpS Tryz.func110 rfl fun c₀ cs hu=>?_
  apply wpS_seq
  apply wpS_region
  simp [wpOpsS,go_sem,recoverD,hu,Tryz.ntmps110,Exit.thenS]
  refine wpS_cond (t:=false) (by simp [Act.eval,Array.replicate]) ?_
  simp only [Bool.false_eq_true,if_false]
  refine wpS_of_wp (wp_skip ?_)
  cases c₀
  simp_all [bodyPostS,results,Tryz.results110]
set_option maxHeartbeats 4000000 in
theorem findCode_yes (c:Int) (ks:List Int) (b:Base) (v:Value) (w:World) (hch:Chain w ks b v) (hb:hasCode c b) (hg:ErrT w) :
    Calls Tryz.prog 88 #[v] w fun e w'=>e = .returned (.tuple #[.int .i64 c,.bool true])∧Keep w w':=by
  have hmf:∀ (fn:Fn) (first cap:Array Value) (w:World),(Instr.makeFunc fn first cap).run Tryz.prog w = .ok (.func fn first cap) w:=fun _ _ _ _=>rfl
  obtain ⟨tv,xv,rfl⟩:=hch.iface
  have hk0:Keep w ((w.alloc (.cells #[.int .i64 0] 103)).alloc (.cells #[.bool false] 4)):=(Keep.one w _).trans (Keep.one _ _)
  have hA:=As_Code tv xv ⟨w.heap.size,0,none⟩ ((w.alloc (.cells #[.int .i64 0] 103)).alloc (.cells #[.bool false] 4)) true
    (fun w'=>Hit ⟨w.heap.size,0,none⟩ ((w.alloc (.cells #[.int .i64 0] 103)).alloc (.cells #[.bool false] 4)) w'∧w'.cell? ⟨w.heap.size,0,none⟩ = some (.int .i64 c)) (hg.keep hk0)
    (fun w1 aa hk ha=>(as_code_yes c ks b (.iface tv xv) w1 aa ⟨w.heap.size,0,none⟩ (.int .i64 0) ((hch.keep hk0).keep hk) hb (hk.cell (by rw [World.cell?_alloc_lt _ _ ⟨w.heap.size,0,none⟩ (by simp)];simp)) (by rw [frozen_keep hk (by simp;omega)];simp) ha).mono
      fun e w' ⟨he,hh,hc0⟩=>⟨he,hh.from hk (by simp;omega),hc0⟩)
  have hA:=Lib.hid hA
  clear hch hg
  go_enter_defers Tryz.func88,Tryz.ntmps88
  go_wp2_with fail
  refine hA.out.mono ?_
  rintro e w9 ⟨rfl,hh,hc0⟩
  obtain ⟨hk,c1,f1,f0⟩:=hh.after rfl
  have k1:w9.cell? ⟨w.heap.size + 1,0,none⟩ = some (.bool false):=by rw [c1];simp
  have g1:w9.frozen? ⟨w.heap.size + 1,0,none⟩ = false:=by rw [f1];simp
  have g00:w9.frozen? ⟨w.heap.size,0,none⟩ = false:=by rw [f0];simp
  have hk:=Lib.hid hk
  clear c1 f1 f0 hh hA hk0
  go_wp2
  go_region
  all_goals go_wp2
  refine leaves_cons (f:=108) (args:=#[.pointer (some ⟨w.heap.size,0,none⟩),.pointer (some ⟨w.heap.size + 1,0,none⟩)]) (by simp) (by simp [go_sem]) ?_
  refine (idleCode _ _ _).mono ?_
  rintro e u' w'' ⟨rfl,rfl,rfl⟩
  have e1:(((w9.setCell ⟨w.heap.size + 1,0,none⟩ (.bool true)).setCell ⟨w.heap.size,0,none⟩ (.int .i64 c)).setCell ⟨w.heap.size + 1,0,none⟩ (.bool true)).cell? ⟨w.heap.size + 1,0,none⟩ = some (.bool true):=by
    refine World.cell?_setCell_same _ _ _ (u:=.bool true) ?_
    rw [World.cell?_setCell_other (a:=⟨w.heap.size,0,none⟩) (b:=⟨w.heap.size + 1,0,none⟩) (h:=by simp)]
    exact World.cell?_setCell_same _ _ _ k1
  have e20:(((w9.setCell ⟨w.heap.size + 1,0,none⟩ (.bool true)).setCell ⟨w.heap.size,0,none⟩ (.int .i64 c)).setCell ⟨w.heap.size + 1,0,none⟩ (.bool true)).cell? ⟨w.heap.size,0,none⟩ = some (.int .i64 c):=by
    rw [World.cell?_setCell_other (a:=⟨w.heap.size + 1,0,none⟩) (b:=⟨w.heap.size,0,none⟩) (h:=by simp)]
    refine World.cell?_setCell_same _ _ _ (u:=.int .i64 c) ?_
    rw [World.cell?_setCell_other (a:=⟨w.heap.size + 1,0,none⟩) (b:=⟨w.heap.size,0,none⟩) (h:=by simp)]
    exact hc0
  simp [Leaves,settle,results,Tryz.results88,go_sem,e1,e20]
  exact Keep.drew (Keep.set (Keep.set (Keep.set hk.out (Nat.le_succ _) _) (Nat.le_refl _) _) (Nat.le_succ _) _)
set_option maxHeartbeats 4000000 in
theorem findFault_yes (x y:Int) (ks:List Int) (v:Value) (w:World) (hch:Chain w ks (.fault x y) v) (hg:ErrT w) :
    Calls Tryz.prog 89 #[v] w fun e w'=>e = .returned (.tuple #[.agg #[.int .i64 x,.int .i64 y],.bool true])∧Keep w w':=by
  have hmf:∀ (fn:Fn) (first cap:Array Value) (w:World),(Instr.makeFunc fn first cap).run Tryz.prog w = .ok (.func fn first cap) w:=fun _ _ _ _=>rfl
  obtain ⟨tv,xv,rfl⟩:=hch.iface
  have hk0:Keep w ((w.alloc (.cells #[.int .i64 0,.int .i64 0] 145)).alloc (.cells #[.bool false] 4)):=(Keep.one w _).trans (Keep.one _ _)
  have hA:=As_Fault tv xv ⟨w.heap.size,0,none⟩ ((w.alloc (.cells #[.int .i64 0,.int .i64 0] 145)).alloc (.cells #[.bool false] 4)) true
    (fun w'=>Hit ⟨w.heap.size,0,none⟩ ((w.alloc (.cells #[.int .i64 0,.int .i64 0] 145)).alloc (.cells #[.bool false] 4)) w'∧w'.cell? ⟨w.heap.size,0,none⟩ = some (.int .i64 x)∧w'.cell? ⟨w.heap.size,0 + 1,none⟩ = some (.int .i64 y)) (hg.keep hk0)
    (fun w1 aa hk ha=>(as_fault_yes x y ks (.iface tv xv) w1 aa w.heap.size (.int .i64 0) (.int .i64 0) ((hch.keep hk0).keep hk) (hk.cell (by rw [World.cell?_alloc_lt _ _ ⟨w.heap.size,0,none⟩ (by simp)];simp)) (hk.cell (by rw [World.cell?_alloc_lt _ _ ⟨w.heap.size,0 + 1,none⟩ (by simp)];simp)) (by rw [frozen_keep hk (by simp;omega)];simp) (by rw [frozen_keep hk (by simp;omega)];simp) ha).mono
      fun e w' ⟨he,hh,hc0,hc1⟩=>⟨he,hh.from hk (by simp;omega),hc0,hc1⟩)
  have hA:=Lib.hid hA
  clear hch hg
  go_enter_defers Tryz.func89,Tryz.ntmps89
  go_wp2_with fail
  refine hA.out.mono ?_
  rintro e w9 ⟨rfl,hh,hc0,hc1⟩
  obtain ⟨hk,c1,f1,f0⟩:=hh.after rfl
  have k1:w9.cell? ⟨w.heap.size + 1,0,none⟩ = some (.bool false):=by rw [c1];simp
  have g1:w9.frozen? ⟨w.heap.size + 1,0,none⟩ = false:=by rw [f1];simp
  have g00:w9.frozen? ⟨w.heap.size,0,none⟩ = false:=by rw [f0];simp
  have g01:w9.frozen? ⟨w.heap.size,0 + 1,none⟩ = false:=by rw [f0];simp
  have hk:=Lib.hid hk
  clear c1 f1 f0 hh hA hk0
  go_wp2
  go_region
  all_goals go_wp2
  refine leaves_cons (f:=110) (args:=#[.pointer (some ⟨w.heap.size,0,none⟩),.pointer (some ⟨w.heap.size + 1,0,none⟩)]) (by simp) (by simp [go_sem]) ?_
  refine (idleFault _ _ _).mono ?_
  rintro e u' w'' ⟨rfl,rfl,rfl⟩
  have e1:((((w9.setCell ⟨w.heap.size + 1,0,none⟩ (.bool true)).setCell ⟨w.heap.size,0,none⟩ (.int .i64 x)).setCell ⟨w.heap.size,1,none⟩ (.int .i64 y)).setCell ⟨w.heap.size + 1,0,none⟩ (.bool true)).cell? ⟨w.heap.size + 1,0,none⟩ = some (.bool true):=by
    refine World.cell?_setCell_same _ _ _ (u:=.bool true) ?_
    rw [World.cell?_setCell_other (a:=⟨w.heap.size,1,none⟩) (b:=⟨w.heap.size + 1,0,none⟩) (h:=by simp)]
    rw [World.cell?_setCell_other (a:=⟨w.heap.size,0,none⟩) (b:=⟨w.heap.size + 1,0,none⟩) (h:=by simp)]
    exact World.cell?_setCell_same _ _ _ k1
  have e20:((((w9.setCell ⟨w.heap.size + 1,0,none⟩ (.bool true)).setCell ⟨w.heap.size,0,none⟩ (.int .i64 x)).setCell ⟨w.heap.size,1,none⟩ (.int .i64 y)).setCell ⟨w.heap.size + 1,0,none⟩ (.bool true)).cell? ⟨w.heap.size,0,none⟩ = some (.int .i64 x):=by
    rw [World.cell?_setCell_other (a:=⟨w.heap.size + 1,0,none⟩) (b:=⟨w.heap.size,0,none⟩) (h:=by simp)]
    rw [World.cell?_setCell_other (a:=⟨w.heap.size,1,none⟩) (b:=⟨w.heap.size,0,none⟩) (h:=by simp)]
    refine World.cell?_setCell_same _ _ _ (u:=.int .i64 x) ?_
    rw [World.cell?_setCell_other (a:=⟨w.heap.size + 1,0,none⟩) (b:=⟨w.heap.size,0,none⟩) (h:=by simp)]
    exact hc0
  have e21:((((w9.setCell ⟨w.heap.size + 1,0,none⟩ (.bool true)).setCell ⟨w.heap.size,0,none⟩ (.int .i64 x)).setCell ⟨w.heap.size,1,none⟩ (.int .i64 y)).setCell ⟨w.heap.size + 1,0,none⟩ (.bool true)).cell? ⟨w.heap.size,1,none⟩ = some (.int .i64 y):=by
    rw [World.cell?_setCell_other (a:=⟨w.heap.size + 1,0,none⟩) (b:=⟨w.heap.size,1,none⟩) (h:=by simp)]
    refine World.cell?_setCell_same _ _ _ (u:=.int .i64 y) ?_
    rw [World.cell?_setCell_other (a:=⟨w.heap.size,0,none⟩) (b:=⟨w.heap.size,1,none⟩) (h:=by simp)]
    rw [World.cell?_setCell_other (a:=⟨w.heap.size + 1,0,none⟩) (b:=⟨w.heap.size,1,none⟩) (h:=by simp)]
    exact hc1
  simp [Leaves,settle,results,Tryz.results89,go_sem,e1,e20,e21]
  exact Keep.drew (Keep.set (Keep.set (Keep.set (Keep.set hk.out (Nat.le_succ _) _) (Nat.le_refl _) _) (Nat.le_refl _) _) (Nat.le_succ _) _)
set_option maxHeartbeats 4000000 in
theorem findCode_nil (w:World) :
    Calls Tryz.prog 88 #[.nilIface] w fun e w'=>e = .returned (.tuple #[.int .i64 0,.bool false])∧Keep w w':=by
  have hmf:∀ (fn:Fn) (first cap:Array Value) (w:World),(Instr.makeFunc fn first cap).run Tryz.prog w = .ok (.func fn first cap) w:=fun _ _ _ _=>rfl
  have hk0:Keep w ((w.alloc (.cells #[.int .i64 0] 103)).alloc (.cells #[.bool false] 4)):=(Keep.one w _).trans (Keep.one _ _)
  have hA:Calls Tryz.prog 109 #[.nilIface,.iface 176 (.pointer (some ⟨w.heap.size,0,none⟩))] ((w.alloc (.cells #[.int .i64 0] 103)).alloc (.cells #[.bool false] 4)) fun e w'=>e = .returned (.bool false)∧Keep ((w.alloc (.cells #[.int .i64 0] 103)).alloc (.cells #[.bool false] 4)) w':=(As_nil _ _).mono fun e w' ⟨he,hw⟩=>⟨he,hw ▸ Keep.refl _⟩
  have hA:=Lib.hid hA
  skip
  go_enter_defers Tryz.func88,Tryz.ntmps88
  go_wp2_with fail
  refine hA.out.mono ?_
  rintro e w9 ⟨rfl,hk9⟩
  have k1:w9.cell? ⟨w.heap.size + 1,0,none⟩ = some (.bool false):=hk9.cell (by simp)
  have g1:w9.frozen? ⟨w.heap.size + 1,0,none⟩ = false:=by rw [Below.frozen hk9 (by simp)];simp
  have hc0:w9.cell? ⟨w.heap.size,0,none⟩ = some (.int .i64 0):=hk9.cell (by rw [World.cell?_alloc_lt _ _ ⟨w.heap.size,0,none⟩ (by simp)];simp)
  have g00:w9.frozen? ⟨w.heap.size,0,none⟩ = false:=by rw [Below.frozen hk9 (by simp;omega)];simp
  have hk:=Lib.hid (hk0.trans hk9)
  clear hA hk0 hk9
  go_wp2
  go_region
  all_goals go_wp2
  refine leaves_cons (f:=108) (args:=#[.pointer (some ⟨w.heap.size,0,none⟩),.pointer (some ⟨w.heap.size + 1,0,none⟩)]) (by simp) (by simp [go_sem]) ?_
  refine (idleCode _ _ _).mono ?_
  rintro e u' w'' ⟨rfl,rfl,rfl⟩
  have e1:(((w9.setCell ⟨w.heap.size + 1,0,none⟩ (.bool false)).setCell ⟨w.heap.size,0,none⟩ (.int .i64 0)).setCell ⟨w.heap.size + 1,0,none⟩ (.bool false)).cell? ⟨w.heap.size + 1,0,none⟩ = some (.bool false):=by
    refine World.cell?_setCell_same _ _ _ (u:=.bool false) ?_
    rw [World.cell?_setCell_other (a:=⟨w.heap.size,0,none⟩) (b:=⟨w.heap.size + 1,0,none⟩) (h:=by simp)]
    exact World.cell?_setCell_same _ _ _ k1
  have e20:(((w9.setCell ⟨w.heap.size + 1,0,none⟩ (.bool false)).setCell ⟨w.heap.size,0,none⟩ (.int .i64 0)).setCell ⟨w.heap.size + 1,0,none⟩ (.bool false)).cell? ⟨w.heap.size,0,none⟩ = some (.int .i64 0):=by
    rw [World.cell?_setCell_other (a:=⟨w.heap.size + 1,0,none⟩) (b:=⟨w.heap.size,0,none⟩) (h:=by simp)]
    refine World.cell?_setCell_same _ _ _ (u:=.int .i64 0) ?_
    rw [World.cell?_setCell_other (a:=⟨w.heap.size + 1,0,none⟩) (b:=⟨w.heap.size,0,none⟩) (h:=by simp)]
    exact hc0
  simp [Leaves,settle,results,Tryz.results88,go_sem,e1,e20]
  exact Keep.drew (Keep.set (Keep.set (Keep.set hk.out (Nat.le_succ _) _) (Nat.le_refl _) _) (Nat.le_succ _) _)
set_option maxHeartbeats 4000000 in
theorem findFault_nil (w:World) :
    Calls Tryz.prog 89 #[.nilIface] w fun e w'=>e = .returned (.tuple #[.agg #[.int .i64 0,.int .i64 0],.bool false])∧Keep w w':=by
  have hmf:∀ (fn:Fn) (first cap:Array Value) (w:World),(Instr.makeFunc fn first cap).run Tryz.prog w = .ok (.func fn first cap) w:=fun _ _ _ _=>rfl
  have hk0:Keep w ((w.alloc (.cells #[.int .i64 0,.int .i64 0] 145)).alloc (.cells #[.bool false] 4)):=(Keep.one w _).trans (Keep.one _ _)
  have hA:Calls Tryz.prog 109 #[.nilIface,.iface 177 (.pointer (some ⟨w.heap.size,0,none⟩))] ((w.alloc (.cells #[.int .i64 0,.int .i64 0] 145)).alloc (.cells #[.bool false] 4)) fun e w'=>e = .returned (.bool false)∧Keep ((w.alloc (.cells #[.int .i64 0,.int .i64 0] 145)).alloc (.cells #[.bool false] 4)) w':=(As_nil _ _).mono fun e w' ⟨he,hw⟩=>⟨he,hw ▸ Keep.refl _⟩
  have hA:=Lib.hid hA
  skip
  go_enter_defers Tryz.func89,Tryz.ntmps89
  go_wp2_with fail
  refine hA.out.mono ?_
  rintro e w9 ⟨rfl,hk9⟩
  have k1:w9.cell? ⟨w.heap.size + 1,0,none⟩ = some (.bool false):=hk9.cell (by simp)
  have g1:w9.frozen? ⟨w.heap.size + 1,0,none⟩ = false:=by rw [Below.frozen hk9 (by simp)];simp
  have hc0:w9.cell? ⟨w.heap.size,0,none⟩ = some (.int .i64 0):=hk9.cell (by rw [World.cell?_alloc_lt _ _ ⟨w.heap.size,0,none⟩ (by simp)];simp)
  have g00:w9.frozen? ⟨w.heap.size,0,none⟩ = false:=by rw [Below.frozen hk9 (by simp;omega)];simp
  have hc1:w9.cell? ⟨w.heap.size,0 + 1,none⟩ = some (.int .i64 0):=hk9.cell (by rw [World.cell?_alloc_lt _ _ ⟨w.heap.size,0 + 1,none⟩ (by simp)];simp)
  have g01:w9.frozen? ⟨w.heap.size,0 + 1,none⟩ = false:=by rw [Below.frozen hk9 (by simp;omega)];simp
  have hk:=Lib.hid (hk0.trans hk9)
  clear hA hk0 hk9
  go_wp2
  go_region
  all_goals go_wp2
  refine leaves_cons (f:=110) (args:=#[.pointer (some ⟨w.heap.size,0,none⟩),.pointer (some ⟨w.heap.size + 1,0,none⟩)]) (by simp) (by simp [go_sem]) ?_
  refine (idleFault _ _ _).mono ?_
  rintro e u' w'' ⟨rfl,rfl,rfl⟩
  have e1:((((w9.setCell ⟨w.heap.size + 1,0,none⟩ (.bool false)).setCell ⟨w.heap.size,0,none⟩ (.int .i64 0)).setCell ⟨w.heap.size,1,none⟩ (.int .i64 0)).setCell ⟨w.heap.size + 1,0,none⟩ (.bool false)).cell? ⟨w.heap.size + 1,0,none⟩ = some (.bool false):=by
    refine World.cell?_setCell_same _ _ _ (u:=.bool false) ?_
    rw [World.cell?_setCell_other (a:=⟨w.heap.size,1,none⟩) (b:=⟨w.heap.size + 1,0,none⟩) (h:=by simp)]
    rw [World.cell?_setCell_other (a:=⟨w.heap.size,0,none⟩) (b:=⟨w.heap.size + 1,0,none⟩) (h:=by simp)]
    exact World.cell?_setCell_same _ _ _ k1
  have e20:((((w9.setCell ⟨w.heap.size + 1,0,none⟩ (.bool false)).setCell ⟨w.heap.size,0,none⟩ (.int .i64 0)).setCell ⟨w.heap.size,1,none⟩ (.int .i64 0)).setCell ⟨w.heap.size + 1,0,none⟩ (.bool false)).cell? ⟨w.heap.size,0,none⟩ = some (.int .i64 0):=by
    rw [World.cell?_setCell_other (a:=⟨w.heap.size + 1,0,none⟩) (b:=⟨w.heap.size,0,none⟩) (h:=by simp)]
    rw [World.cell?_setCell_other (a:=⟨w.heap.size,1,none⟩) (b:=⟨w.heap.size,0,none⟩) (h:=by simp)]
    refine World.cell?_setCell_same _ _ _ (u:=.int .i64 0) ?_
    rw [World.cell?_setCell_other (a:=⟨w.heap.size + 1,0,none⟩) (b:=⟨w.heap.size,0,none⟩) (h:=by simp)]
    exact hc0
  have e21:((((w9.setCell ⟨w.heap.size + 1,0,none⟩ (.bool false)).setCell ⟨w.heap.size,0,none⟩ (.int .i64 0)).setCell ⟨w.heap.size,1,none⟩ (.int .i64 0)).setCell ⟨w.heap.size + 1,0,none⟩ (.bool false)).cell? ⟨w.heap.size,1,none⟩ = some (.int .i64 0):=by
    rw [World.cell?_setCell_other (a:=⟨w.heap.size + 1,0,none⟩) (b:=⟨w.heap.size,1,none⟩) (h:=by simp)]
    refine World.cell?_setCell_same _ _ _ (u:=.int .i64 0) ?_
    rw [World.cell?_setCell_other (a:=⟨w.heap.size,0,none⟩) (b:=⟨w.heap.size,1,none⟩) (h:=by simp)]
    rw [World.cell?_setCell_other (a:=⟨w.heap.size + 1,0,none⟩) (b:=⟨w.heap.size,1,none⟩) (h:=by simp)]
    exact hc1
  simp [Leaves,settle,results,Tryz.results89,go_sem,e1,e20,e21]
  exact Keep.drew (Keep.set (Keep.set (Keep.set (Keep.set hk.out (Nat.le_succ _) _) (Nat.le_refl _) _) (Nat.le_refl _) _) (Nat.le_succ _) _)
end Go.Proofs.YtnclkefddkgojaaGreatDoor

namespace Go.Proofs.YtnclkefddkgojaaGreatDoor
open Go.RowKit Go.Extern.Stop Go.Stop Go.Extern
theorem Tryz.eqCode (x y:Int) (w:World):(binOp .eql 56 (.iface 103 (.int .i64 x)) (.iface 103 (.int .i64 y))).run Tryz.prog w = .ok (.bool (x == y)) w:=by kernel_rfl
theorem Tryz.neFaultCode (v u:Value) (w:World):(binOp .eql 56 (.iface 145 v) (.iface 103 u)).run Tryz.prog w = .ok (.bool false) w:=run_eql_iface_types _ _ _ _ Tryz.underlying56 (by decide) w
theorem Tryz.cmpCode (w:World):((ReflectliteType.method fun t=>do Rtype.noPackHeld "Comparable" t;(fun a:TypeInfo=>Value.bool a.comparable) <$> typeInfo t) #[.agg #[.pointer (some ⟨1,103,none⟩)]]).run Tryz.prog w = .ok (.bool true) w:=by kernel_rfl
end Go.Proofs.YtnclkefddkgojaaGreatDoor

namespace Go.Proofs.YtnclkefddkgojaaGreatDoor
open Go.RowKit Go.Extern.Stop Go.Stop Go.Extern
set_option maxRecDepth 100000 in
set_option maxHeartbeats 4000000 in
theorem Is_of (tv:TypeId) (xv:Value) (t:TypeId) (u:Value) (w:World) (R:World→Prop)
    (hT:∀ W,(ReflectliteType.typeOf #[.iface t u]).run Tryz.prog W = .ok (.iface 203 (.agg #[.pointer (some ⟨1,t,none⟩)])) W)
    (hC:∀ W,((ReflectliteType.method fun t=>do Rtype.noPackHeld "Comparable" t;(fun a:TypeInfo=>Value.bool a.comparable) <$> typeInfo t) #[.agg #[.pointer (some ⟨1,t,none⟩)]]).run Tryz.prog W = .ok (.bool true) W)
    (b:Bool) (h:Calls Tryz.prog 119 #[.iface tv xv,.iface t u,.bool true] w fun e w'=>e = .returned (.bool b)∧R w') :
    Calls Tryz.prog 98 #[.iface tv xv,.iface t u] w fun e w'=>e = .returned (.bool b)∧R w':=by
  have h33:=@run_callFunc_extern Tryz.prog 118 _ ReflectliteType.typeOf Tryz.func118 (by kernel_rfl) (by kernel_rfl) (by kernel_rfl) (by kernel_rfl)
  have h87:=@run_callFunc_extern Tryz.prog 180 _ (ReflectliteType.method fun t=>do Rtype.noPackHeld "Comparable" t;pure (.bool (← typeInfo t).comparable)) Tryz.func180 (by kernel_rfl) (by kernel_rfl) (by kernel_rfl) (by kernel_rfl)
  have mC:=Tryz.rMethodComparable
  replace h:=Lib.hid h
  go_enter Tryz.func98,Tryz.ntmps98
  go_wp2_with (go_at_call 119;refine h.out.mono ?_;rintro e w' ⟨rfl,hr⟩)
  go_ret
  exact ⟨rfl,hr⟩
end Go.Proofs.YtnclkefddkgojaaGreatDoor

namespace Go.Proofs.YtnclkefddkgojaaGreatDoor
open Go.RowKit Go.Extern.Stop Go.Stop Go.Extern
structure Vars (w:World):Prop where
  err:ErrT w
theorem Vars.keep {w w':World} (h:Vars w) (k:Keep w w'):Vars w' where
  err:=h.err.keep k
theorem code_yes (c:Int) (ks:List Int) (b:Base) (v:Value) (w:World) (hch:Chain w ks b v) (hb:hasCode c b) (hg:ErrT w) :
    Calls Tryz.prog 56 #[v] w fun e w'=>e = .returned (.tuple #[.int .i64 c,.bool true])∧Keep w w':=by
  have h:=Lib.hid (findCode_yes c ks b v w hch hb hg)
  clear hch hb hg
  go_enter Tryz.func56,Tryz.ntmps56
  go_wp2_with (go_at_call 88;refine h.out.mono ?_;rintro e w' ⟨rfl,hr⟩)
  go_ret2
  exact ⟨rfl,hr⟩
theorem code_nil (w:World):Calls Tryz.prog 56 #[.nilIface] w fun e w'=>e = .returned (.tuple #[.int .i64 0,.bool false])∧Keep w w':=by
  go_enter Tryz.func56,Tryz.ntmps56
  go_wp2_with (go_at_call 88;refine (findCode_nil _).mono ?_;rintro e w' ⟨rfl,hr⟩)
  go_ret2
  exact ⟨rfl,hr⟩
theorem at_yes (x y:Int) (ks:List Int) (v:Value) (w:World) (hch:Chain w ks (.fault x y) v) (hg:ErrT w) :
    Calls Tryz.prog 57 #[v] w fun e w'=>e = .returned (.tuple #[.int .i64 y,.bool true])∧Keep w w':=by
  have h:=Lib.hid (findFault_yes x y ks v w hch hg)
  clear hch hg
  go_enter Tryz.func57,Tryz.ntmps57
  go_wp2_with (go_at_call 89;refine h.out.mono ?_;rintro e w' ⟨rfl,hr⟩)
  go_ret2
  exact ⟨rfl,hr.alloc _⟩
theorem new_fn (x n:Int) (w:World):Calls Tryz.prog 62 #[.int .i64 x,.int .i64 n] w fun e w'=>e = .returned (Base.fault x n).val∧w = w':=by
  go_enter Tryz.func62,Tryz.ntmps62
  go_wp2
  go_ret
  exact ⟨rfl,rfl⟩
end Go.Proofs.YtnclkefddkgojaaGreatDoor

namespace Go.Proofs.YtnclkefddkgojaaGreatDoor
open Go.RowKit Go.Extern.Stop Go.Stop Go.Extern
structure Rd (w:World) (A:Option Addr) (n:Nat) (Z:Nat→Int):Prop where
  small:n≤9223372036854775807
  range:∀ k,k < n→-9223372036854775808≤Z k∧Z k≤9223372036854775807
  adr:0 < n→∃ b off,A = some ⟨b,off,none⟩∧∀ j,j < n→w.cell? ⟨b,off + j,none⟩ = some (.int .i64 (Z j))
theorem Rd.below {w w':World} {A n Z} (h:Rd w A n Z) (hb:Below w.heap.size w w'):Rd w' A n Z :=
  ⟨h.small,h.range,fun hn=>by
    obtain ⟨b,off,e,hc⟩:=h.adr hn
    exact ⟨b,off,e,fun j hj=>by rw [hb.cell (p:=⟨b,off + j,none⟩) (World.block_lt_of_cell? _ _ (hc j hj))];exact hc j hj⟩⟩
theorem below_drewN {B:Nat} {a w:World} (h:Below B a w) (q:Nat):Below B a (w.drewN q):=⟨h.os,h.tape,h.output,h.size,h.block⟩
def Drawn (w w':World):Prop:=∃ q,w' = w.drewN q
theorem Drawn.refl (w:World):Drawn w w:=⟨0,rfl⟩
theorem Drawn.drewN {w w':World} (h:Drawn w w') (q:Nat):Drawn w (w'.drewN q):=by
  obtain ⟨p,rfl⟩:=h
  exact ⟨p + q,World.drewN_drewN ..⟩
theorem Drawn.drew {w w':World} (h:Drawn w w'):Drawn w w'.drew:=h.drewN 1
theorem Drawn.trans {w w' w'':World} (h:Drawn w w') (k:Drawn w' w''):Drawn w w'':=by
  obtain ⟨p,rfl⟩:=k
  exact h.drewN p
theorem Drawn.below {w w':World} (h:Drawn w w'):Below w.heap.size w w':=by
  obtain ⟨q,rfl⟩:=h
  exact below_drewN (Below.refl _ _) q
theorem Rd.nil (w:World) (A:Option Addr) (Z:Nat→Int):Rd w A 0 Z:=⟨by omega,fun _ h=>absurd h (Nat.not_lt_zero _),fun h=>absurd h (Nat.lt_irrefl _)⟩
theorem Rd.congr {w:World} {A n Z Y} (h:Rd w A n Z) (e:∀ k,k < n→Z k = Y k):Rd w A n Y :=
  ⟨h.small,fun k hk=>by rw [← e k hk];exact h.range k hk,fun hn=>by
    obtain ⟨b,off,e',hc⟩:=h.adr hn
    exact ⟨b,off,e',fun j hj=>by rw [← e j hj];exact hc j hj⟩⟩
theorem Drawn.keep {w w':World} (h:Drawn w w'):Keep w w':=h.below
theorem Rd.keep {w w':World} {A n Z} (h:Rd w A n Z) (hb:Keep w w'):Rd w' A n Z:=h.below hb
theorem Keep.drewN {w w':World} (h:Keep w w') (q:Nat):Keep w (w'.drewN q):=below_drewN h q
end Go.Proofs.YtnclkefddkgojaaGreatDoor

