/-
  How a slice of operations that came in opens. No condition.
-/
import Derived.Test.YtnaeabfmgfipoaaGreatDoorBase5
namespace Go.Proofs.YtnaeabfmgfipoaaGreatDoor
open Go.ChangeShapes Go.WideShapes Go.ChangeAt Go.WideMaps Go.WideElems Go.RowKit

theorem cell_plain {w : World} {a : Addr} {v : Value} (h : w.cell? a = some v) : ∃ b o, a = ⟨b, o, none⟩ := by
  obtain ⟨b, o, s⟩ := a
  have : s = none := by simpa using World.cell?_spot h
  subst this
  exact ⟨b, o, rfl⟩
set_option maxRecDepth 100000 in
theorem op_trod {H : Type} {enc : TypeId × Value → H} {W : World} {fuel : Nat} {l : List Value} {x : DataW H × List MemPlace} (hl : l.length = 6) (hf : DataW.trod enc Tryz.prog W 0 (fun _ => true) true fuel 34 l = some x) :
    ∃ p : OpV, l = p.cells ∧ OpIs W p := by
  obtain ⟨f0, f1, f2, f3, f4, f5, hs, ⟨t0, t1, t2, t3, t4, t5⟩, o0, o1, o2, o3, o4, o5⟩ := Tryz.fieldsOp
  obtain ⟨xs, n', _, _, _, hlen, hg⟩ := DataW.trod_struct hs hf
  match l, hl, xs, hlen with
  | [v0, v1, v2, v3, v4, v5], _, [y0, y1, y2, y3, y4, y5], _ =>
    have g0 := hg 0 f0 rfl
    have g1 := hg 1 f1 rfl
    have g2 := hg 2 f2 rfl
    have g3 := hg 3 f3 rfl
    have g4 := hg 4 f4 rfl
    have g5 := hg 5 f5 rfl
    rw [o0, t0, cells1 Tryz.cellsInt _ 0 v0 rfl] at g0
    rw [o1, t1, cells1 Tryz.cellsInt _ 1 v1 rfl] at g1
    rw [o2, t2, cells1 Tryz.cellsInt _ 2 v2 rfl] at g2
    rw [o3, t3, cells1 Tryz.cellsInt _ 3 v3 rfl] at g3
    rw [o4, t4, cells1 Tryz.cellsBool _ 4 v4 rfl] at g4
    rw [o5, t5, cells1 Tryz.cellsI64s _ 5 v5 rfl] at g5
    obtain ⟨k, e0, _, r0⟩ := DataW.trod_int Tryz.underlying3 (g0.trans (b := some y0) rfl)
    obtain ⟨i, e1, _, r1⟩ := DataW.trod_int Tryz.underlying3 (g1.trans (b := some y1) rfl)
    obtain ⟨c, e2, _, r2⟩ := DataW.trod_int Tryz.underlying3 (g2.trans (b := some y2) rfl)
    obtain ⟨n, e3, _, r3⟩ := DataW.trod_int Tryz.underlying3 (g3.trans (b := some y3) rfl)
    obtain ⟨f, e4, _⟩ := DataW.trod_bool Tryz.underlying4 (g4.trans (b := some y4) rfl)
    obtain ⟨A, m, cp, Z, e5, hR, h0⟩ := rd_trod64 Tryz.underlying32 Tryz.underlying2 Tryz.cellsI64 (g5.trans (b := some y5) rfl)
    simp at e0 e1 e2 e3 e4
    subst e0 e1 e2 e3 e4 e5
    exact ⟨⟨k, i, c, n, f, A, m, cp, Z⟩, rfl, ⟨hR, h0, i64_wf r0, i64_wf r1, i64_wf r2, i64_wf r3⟩⟩
set_option maxRecDepth 100000 in
theorem ops_open {H : Type} {enc : TypeId × Value → H} {W : World} {base : Nat} {v : Value} {d : DataW H} {p : List MemPlace} (hv : Value.okWide Tryz.prog W .any base 23 v) (h : DataW.Trod enc Tryz.prog W 0 (fun _ => true) true 23 v d p) :
    ∃ A n cp P, v = .slice A n cp ∧ RdOps W A n P ∧ n ≤ 9223372036854775807 := by
  obtain ⟨a0, len, cap, rfl⟩ := okWide_slice Tryz.underlying23 hv
  obtain ⟨fuel, hf⟩ := h
  have hcs : (Value.slice a0 len cap).cells.toList = [.slice a0 len cap] := by simp [Value.cells]
  rw [hcs] at hf
  rcases DataW.trod_slice Tryz.underlying23 hf with ⟨e, _⟩ | ⟨a, len', cap', elems, rest, n, _, e, _, hb, hl, hm, hlen, hel, _, _⟩
  · simp at e
    obtain ⟨rfl, rfl, rfl⟩ := e
    exact ⟨none, 0, 0, fun _ => ⟨0, 0, 0, 0, false, none, 0, 0, fun _ => 0⟩, rfl, ⟨fun h => by omega, fun j hj => by omega⟩, by omega⟩
  · simp at e
    obtain ⟨rfl, rfl, rfl⟩ := e
    have each : ∀ j, j < len → ∃ q : OpV, OpIs W q ∧ ∀ i u, q.cells[i]? = some u → W.cell? ((a.add (j * 6)).add i) = some u := by
      intro j hj
      have h1 := hel j hj
      rw [Tryz.cellsOp, List.getElem?_eq_getElem (by omega)] at h1
      rw [Option.bind_eq_some_iff] at h1
      obtain ⟨cs, hc1, hc2⟩ := h1
      obtain ⟨_, hcl, hce⟩ := World.cells?_some hc1
      obtain ⟨q, rfl, hq⟩ := op_trod hcl hc2
      refine ⟨q, hq, fun i u hu => ?_⟩
      have hi : i < 6 := by have := (List.getElem?_eq_some_iff.1 hu).1; exact this
      rw [hce i hi]
      exact hu
    have pick : ∃ P : Nat → OpV, ∀ j, j < len → OpIs W (P j) ∧ ∀ i u, (P j).cells[i]? = some u → W.cell? ((a.add (j * 6)).add i) = some u :=
      ⟨fun j => if hj : j < len then (each j hj).choose else ⟨0, 0, 0, 0, false, none, 0, 0, fun _ => 0⟩, fun j hj => by simp only [dif_pos hj]; exact (each j hj).choose_spec⟩
    obtain ⟨P, hP⟩ := pick
    refine ⟨some a, len, cap, P, rfl, ⟨fun hn => ?_, fun j hj => (hP j hj).1⟩, by unfold maxLen at hm; omega⟩
    obtain ⟨b, o, ea⟩ : ∃ b o, a = ⟨b, o, none⟩ := by
      have h0 := (hP 0 hn).2 0 _ rfl
      obtain ⟨b, o, s⟩ := a
      have hs : s = none := by simpa [Addr.add] using World.cell?_spot h0
      subst hs
      exact ⟨b, o, rfl⟩
    subst ea
    refine ⟨b, o, rfl, fun j hj i u hu => ?_⟩
    have h0 := (hP j hj).2 i u hu
    rw [add_plain, add_plain] at h0
    exact h0
end Go.Proofs.YtnaeabfmgfipoaaGreatDoor
