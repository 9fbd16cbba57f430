/-
  (Value).Set at the target *api.Fault: two cells. No condition.
-/
import Derived.Test.YtfidlljhmebpmaaDoorErrs
namespace Go.Proofs.YtfidlljhmebpmaaDoor
open Go.RowKit Go.Extern.Stop Go.Stop Go.Extern

theorem Tryd.rSetFault (tb b : Nat) (x y : Int) (o1 o2 : Value) (W : World) (hb : W.cell? ⟨b, 0, none⟩ = some (.int .i64 x)) (hb' : W.cell? ⟨b, 0 + 1, none⟩ = some (.int .i64 y))
    (ht : W.cell? ⟨tb, 0, none⟩ = some o1) (ht' : W.cell? ⟨tb, 0 + 1, none⟩ = some o2) (hf : W.frozen? ⟨tb, 0, none⟩ = false) (hf' : W.frozen? ⟨tb, 0 + 1, none⟩ = false) :
    (ReflectliteValue.set #[.agg #[.pointer (some ⟨1, 88, none⟩), .pointer (some ⟨tb, 0, none⟩), .int .u64 409], .agg #[.pointer (some ⟨1, 88, none⟩), .pointer (some ⟨b, 0, none⟩), .int .u64 153]]).run Tryd.prog W
      = .ok (.tuple #[]) ((W.setCell ⟨tb, 0, none⟩ (.int .i64 x)).setCell ⟨tb, 0 + 1, none⟩ (.int .i64 y)) := by
  rw [rls]
  simp only [Sem.run_bind, Tryd.rPartsAFault, Tryd.rPartsFault, Result.andThen]
  simp [ReflectliteValue.flagAddr, loadVar, isAgg, underlying, Tryd.underlying88, Result.andThen, Tryd.rDirectFault, storeVar]
  have hL : (loadCells ⟨b, 0, none⟩ 2).run Tryd.prog W = .ok #[.int .i64 x, .int .i64 y] W := by
    rw [run_loadCells W _ _ (fun j => if j = 0 then .int .i64 x else .int .i64 y) (fun j hj => by
      rcases j with _ | _ | j
      · simpa [Addr.add] using hb
      · simpa [Addr.add] using hb'
      · omega)]
    rfl
  rw [hL]
  have hc : (Value.agg #[.int .i64 x, .int .i64 y]).cells = #[.int .i64 x, .int .i64 y] := by simp [Value.cells]
  simp only [Nat.zero_add] at ht' hf'
  simp [hc, storeCells, Addr.add]
  rw [run_store Tryd.prog W _ _ _ (by rfl)]
  simp [ht, hf]
  rw [run_store Tryd.prog _ _ _ _ (by rfl)]
  have e : (W.setCell ⟨tb, 0, none⟩ (.int .i64 x)).cell? ⟨tb, 1, none⟩ = some o2 := by
    rw [World.cell?_setCell_other (a := ⟨tb, 0, none⟩) (b := ⟨tb, 1, none⟩) (h := by simp)]; exact ht'
  simp [e, hf']
end Go.Proofs.YtfidlljhmebpmaaDoor
