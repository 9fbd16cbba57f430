/-
  Errors as values: chains of located errors round a base; what the assertions and the methods of errors answer. No condition.
-/
import Derived.Test.YtfidlljhmebpmaaDoorRefl
import Derived.WalkSpells
import Derived.WalkLawsBesides
import Derived.BigQuiet
import Derived.Deep.QuietTactic
import Derived.Deep.LoopGhost
import Derived.Deep.OwnRows
import Derived.Below
import Derived.Lib.Hide
namespace Go.Proofs.YtfidlljhmebpmaaDoor
open Go.RowKit Go.Extern.Stop Go.Stop Go.Extern

/-- What was there is as it was. -/
def Keep (w w' : World) : Prop := Below w.heap.size w w'
theorem Keep.refl (w : World) : Keep w w := Below.refl _ _
theorem Keep.trans {a b c : World} (h : Keep a b) (k : Keep b c) : Keep a c := Below.trans h (Below.mono k h.size)
theorem Keep.alloc {a b : World} (h : Keep a b) (o : Obj) : Keep a (b.alloc o) := Below.alloc h h.size o
theorem Keep.one (w : World) (o : Obj) : Keep w (w.alloc o) := (Keep.refl w).alloc o
theorem Keep.grown {w w' : World} (h : Keep w w') : w.grownBy w' none := ⟨h.os, h.tape, h.output, h.size, fun k hk _ => h.block k hk⟩
theorem Keep.ofDrew {w w' : World} (h : Keep w.drew w') : Keep w w' := ⟨h.os, h.tape, h.output, h.size, h.block⟩
theorem Keep.drew {w w' : World} (h : Keep w w') : Keep w w'.drew := Below.drew h
theorem cell_lt {w : World} {a : Addr} {v : Value} (hc : w.cell? a = some v) : a.block < w.heap.size := by
  rcases Nat.lt_or_ge a.block w.heap.size with h | h
  · exact h
  · simp [World.cell?, Array.getElem?_eq_none h] at hc
theorem Keep.cell {w w' : World} {a : Addr} {v : Value} (h : Keep w w') (hc : w.cell? a = some v) : w'.cell? a = some v := by
  rw [Below.cell h (cell_lt hc)]; exact hc
theorem Keep.block {w w' : World} {k : Nat} {o : Obj} (h : Keep w w') (hc : w.heap[k]? = some o) : w'.heap[k]? = some o := by
  have hk : k < w.heap.size := by
    rcases Nat.lt_or_ge k w.heap.size with h | h
    · exact h
    · simp [Array.getElem?_eq_none h] at hc
  rw [Below.block h k hk]; exact hc

/-- What an error is made of, inside all that locates it. -/
inductive Base where
  | code (c : Int)
  | fault (c at_ : Int)
  | text (a : Addr)
def Base.val : Base → Value
  | .code c => .iface 77 (.int .i64 c)
  | .fault c n => .iface 88 (.agg #[.int .i64 c, .int .i64 n])
  | .text a => .iface 15 (.pointer (some a))
/-- 'v' is the base 'b', located by the kinds 'ks' (the outermost first). -/
inductive Chain (w : World) : List Int → Base → Value → Prop
  | base (b : Base) : Chain w [] b b.val
theorem Chain.keep {w w' : World} (h : Keep w w') {ks : List Int} {b : Base} {v : Value} (c : Chain w ks b v) : Chain w' ks b v := by
  induction c with
  | base b => have _ := h; exact .base b
theorem Chain.iface {w : World} {ks : List Int} {b : Base} {v : Value} (c : Chain w ks b v) : ∃ t x, v = .iface t x := by
  cases c with
  | base b => cases b <;> exact ⟨_, _, rfl⟩
theorem Chain.open {w : World} {ks : List Int} {b : Base} {v : Value} (c : Chain w ks b v) :
    (ks = [] ∧ v = b.val) ∨ ∃ (k : Int) (ks' : List Int) (a : Nat) (v' : Value), ks = k :: ks' ∧ v = v' ∧ False ∧ a = 0 ∧ Chain w ks' b v' := by
  cases c with
  | base b => exact .inl ⟨rfl, rfl⟩

/-! ### What the assertions answer -/
theorem Tryd.noAsFault (v : Value) (xT : TypeId) (w : World) : (Instr.typeAssert (.iface 88 v) xT 120 true).run Tryd.prog w = .ok (.tuple #[.nilIface, .bool false]) w := run_typeAssert_lacksB Tryd.underlying120 (by kernel_rfl) (by kernel_rfl) v xT w
theorem Tryd.noAsCode (v : Value) (xT : TypeId) (w : World) : (Instr.typeAssert (.iface 77 v) xT 120 true).run Tryd.prog w = .ok (.tuple #[.nilIface, .bool false]) w := run_typeAssert_lacksB Tryd.underlying120 (by kernel_rfl) (by kernel_rfl) v xT w
theorem Tryd.noAsText (v : Value) (xT : TypeId) (w : World) : (Instr.typeAssert (.iface 15 v) xT 120 true).run Tryd.prog w = .ok (.tuple #[.nilIface, .bool false]) w := run_typeAssert_lacksB Tryd.underlying120 (by kernel_rfl) (by kernel_rfl) v xT w
theorem Tryd.unFault (v : Value) (xT : TypeId) (w : World) : (Instr.typeAssert (.iface 88 v) xT 123 true).run Tryd.prog w = .ok (.tuple #[.iface 88 v, .bool true]) w := run_typeAssert_hasB Tryd.underlying123 (by kernel_rfl) v xT w
theorem Tryd.noUnCode (v : Value) (xT : TypeId) (w : World) : (Instr.typeAssert (.iface 77 v) xT 123 true).run Tryd.prog w = .ok (.tuple #[.nilIface, .bool false]) w := run_typeAssert_lacksB Tryd.underlying123 (by kernel_rfl) (by kernel_rfl) v xT w
theorem Tryd.noUnText (v : Value) (xT : TypeId) (w : World) : (Instr.typeAssert (.iface 15 v) xT 123 true).run Tryd.prog w = .ok (.tuple #[.nilIface, .bool false]) w := run_typeAssert_lacksB Tryd.underlying123 (by kernel_rfl) (by kernel_rfl) v xT w
theorem Tryd.noUnsCode (v : Value) (xT : TypeId) (w : World) : (Instr.typeAssert (.iface 77 v) xT 125 true).run Tryd.prog w = .ok (.tuple #[.nilIface, .bool false]) w := run_typeAssert_lacksB Tryd.underlying125 (by kernel_rfl) (by kernel_rfl) v xT w
theorem Tryd.noUnsText (v : Value) (xT : TypeId) (w : World) : (Instr.typeAssert (.iface 15 v) xT 125 true).run Tryd.prog w = .ok (.tuple #[.nilIface, .bool false]) w := run_typeAssert_lacksB Tryd.underlying125 (by kernel_rfl) (by kernel_rfl) v xT w

/-! ### The methods -/
theorem Tryd.mUnFault (x y : Int) (w : World) : (Go.method 257 88 (.agg #[.int .i64 x, .int .i64 y]) "Unwrap").run Tryd.prog w = .ok (86, .agg #[.int .i64 x, .int .i64 y]) w := by kernel_rfl
theorem unwrap_fault (x y : Int) (w : World) : Calls Tryd.prog 86 #[.agg #[.int .i64 x, .int .i64 y]] w fun e w' => e = .returned (Base.val (.code x)) ∧ Keep w w' := by
  go_enter Tryd.func86, Tryd.ntmps86
  go_wp2
  go_ret
  exact ⟨rfl, Keep.one _ _⟩
end Go.Proofs.YtfidlljhmebpmaaDoor
