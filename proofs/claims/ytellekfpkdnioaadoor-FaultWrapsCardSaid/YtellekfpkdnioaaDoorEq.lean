/-
  '==' between errors as errors.Is asks it. No condition.
-/
import Derived.Test.YtellekfpkdnioaaDoorFind
namespace Go.Proofs.YtellekfpkdnioaaDoor
open Go.RowKit Go.Extern.Stop Go.Stop Go.Extern

theorem Tryd.eqCode (x y : Int) (w : World) : (binOp .eql 27 (.iface 29 (.int .i64 x)) (.iface 29 (.int .i64 y))).run Tryd.prog w = .ok (.bool (x == y)) w := by kernel_rfl
theorem Tryd.neFaultCode (v u : Value) (w : World) : (binOp .eql 27 (.iface 40 v) (.iface 29 u)).run Tryd.prog w = .ok (.bool false) w := run_eql_iface_types _ _ _ _ Tryd.underlying27 (by decide) w
theorem Tryd.neLocCode (v u : Value) (w : World) : (binOp .eql 27 (.iface 55 v) (.iface 29 u)).run Tryd.prog w = .ok (.bool false) w := run_eql_iface_types _ _ _ _ Tryd.underlying27 (by decide) w
theorem Tryd.cmpCode (w : World) : ((ReflectliteType.method fun t => do Rtype.noPackHeld "Comparable" t; (fun a : TypeInfo => Value.bool a.comparable) <$> typeInfo t) #[.agg #[.pointer (some ⟨6, 29, none⟩)]]).run Tryd.prog w = .ok (.bool true) w := by kernel_rfl
theorem Tryd.cmpFault (w : World) : ((ReflectliteType.method fun t => do Rtype.noPackHeld "Comparable" t; (fun a : TypeInfo => Value.bool a.comparable) <$> typeInfo t) #[.agg #[.pointer (some ⟨6, 40, none⟩)]]).run Tryd.prog w = .ok (.bool true) w := by kernel_rfl
theorem Tryd.fieldsFault : ∃ i, Tryd.prog.info? 40 = some i ∧ i.comparable = true := by
  have h : (Tryd.prog.info? 40).map (·.comparable) = some true := by kernel_rfl
  obtain ⟨i, hi, hc⟩ := Option.map_eq_some_iff.1 h
  exact ⟨i, hi, hc⟩
theorem eq_int {t : TypeId} (hu : Tryd.prog.underlying t = some (.int .i64)) (d : Nat) (a b : Int) (w : World) : (Op.equalIn (d + 1) t (.int .i64 a) (.int .i64 b)).run Tryd.prog w = .ok (a == b) w := by
  simp [Op.equalIn, run_underlying hu]
theorem eq_fault (d : Nat) (x y : Int) (w : World) : (Op.equalIn (d + 1 + 1) 40 (.agg #[.int .i64 x, .int .i64 y]) (.agg #[.int .i64 x, .int .i64 y])).run Tryd.prog w = .ok true w := by
  have hs : Tryd.prog.stoodInHeld 40 = false := by kernel_rfl
  have h1 := eq_int Tryd.underlying29 d x x w
  have h2 := eq_int Tryd.underlying3 d y y w
  have p1 : ∀ W, (part 29 #[.int .i64 x, .int .i64 y] 0).run Tryd.prog W = .ok (.int .i64 x) W := fun _ => by kernel_rfl
  have p2 : ∀ W, (part 3 #[.int .i64 x, .int .i64 y] 1).run Tryd.prog W = .ok (.int .i64 y) W := fun _ => by kernel_rfl
  have hp : program.run Tryd.prog w = .ok Tryd.prog w := by kernel_rfl
  rw [Op.equalIn]
  simp only [Sem.run_bind, run_underlying Tryd.underlying40, Result.andThen, hp, hs]
  simp [p1, p2, h1, h2, Result.andThen]
theorem eq_faults (x y : Int) (w : World) : (binOp .eql 27 (.iface 40 (.agg #[.int .i64 x, .int .i64 y])) (.iface 40 (.agg #[.int .i64 x, .int .i64 y]))).run Tryd.prog w = .ok (.bool true) w := by
  obtain ⟨i, hi, hc⟩ := Tryd.fieldsFault
  have h1 := eq_fault 9997 x y w
  have h : (Op.equalIn (9999 + 1) 27 (.iface 40 (.agg #[.int .i64 x, .int .i64 y])) (.iface 40 (.agg #[.int .i64 x, .int .i64 y]))).run Tryd.prog w = .ok true w := by
    rw [Op.equalIn]
    simp only [Sem.run_bind, run_underlying Tryd.underlying27, Result.andThen]
    simp [typeInfo, hi, hc]
    exact h1
  simp only [binOp]
  simp [Op.equal, Op.maxDepth, h]
end Go.Proofs.YtellekfpkdnioaaDoor
