/-
  maps.Keys and its iterator, over a map as a list of pairs. No condition.
-/
import Derived.Test.YtokopegffeablaaDoorMap12
import Derived.RangeFuncNested
import Derived.RangeFuncBound
import Derived.RangeFuncCalls
import Derived.RangeFuncLeaves
import Derived.Shelf.Abstract
import Derived.Shelf.AbstractIn
import Derived.Shelf.RegionOpen
import Derived.WalkKit
import Derived.OwnWalkIn
import Derived.TacticsInMore
import Derived.LoopNIn
import Derived.LoopIn
import Derived.RegionIn
import Derived.RangeFuncSeq
import Derived.RangeFuncStops
import Derived.RangeFuncFrom
import Derived.Sort.MapsRangeIn
namespace Go.Proofs.YtokopegffeablaaDoor
open Go.RowKit Go.Maps Go.Sort Go.Shelf

namespace MV
section
variable {F : Fence} {n : Nat} {P : Program} {w : World} {ops : Array Oper} {rest : List Oper} {o : Oper} {a : Act} {Q : Exit → Act → World → Prop}
theorem wpi_range (hg : o.guard = none) (m : Operand) (t : TypeId) (hop : o.op = Op.range t m) {tK tE : TypeId} (ht : P.underlying t = some (.map tK tE)) {B : Nat} {l : List (Int × Value)} (hm : a.eval m = .map (some B)) (h : Is w B l)
    (hK : ∀ w', Rng w' B w.heap.size l → Keep w w' → w'.heap.size = w.heap.size + 1 → wpListIn F n P ops Q rest (a.put o.dst (.pointer (some ⟨w.heap.size, 0, none⟩))) w') : wpListIn F n P ops Q (o :: rest) a w := by
  refine wpListIn_plain hg fun K' hK' => ?_
  obtain ⟨w', hrun, r1, r2, r3⟩ := rng_start (P := P) ht h
  unfold Oper.wpIn
  refine ⟨by simp [Oper.about, hop], ?_⟩
  rw [Oper.semAt_plain F _ _ (by rw [hop]; intro c hc'; cases hc')]
  simp [execOp, hop, hm, hrun, Result.andThen]
  exact hK' _ _ (hK w' r1 r2 r3)
theorem wpi_next (hg : o.guard = none) (it : Operand) (hop : o.op = Op.next it false) {b r : Nat} {todo : List (Int × Value)} (hit : a.eval it = .pointer (some ⟨r, 0, none⟩)) (h : Rng w b r todo) (hne : r ≠ b)
    (hDone : todo = [] → wpListIn F n P ops Q rest (a.put o.dst (.tuple #[.bool false])) w)
    (hMore : ∀ k v rs w', todo.Perm ((k, v) :: rs) → Rng w' b r rs → w.grownBy w' (some r) → w'.heap.size = w.heap.size → (Instr.entry (.pointer (some ⟨r, 0, none⟩))).run P w' = .ok (.tuple #[.int .i64 k, v]) w' → wpListIn F n P ops Q rest (a.put o.dst (.tuple #[.bool true, .int .i64 k, v])) w') :
    wpListIn F n P ops Q (o :: rest) a w := by
  refine wpListIn_plain hg fun K' hK' => ?_
  unfold Oper.wpIn
  refine ⟨by simp [Oper.about, hop], ?_⟩
  rw [Oper.semAt_plain F _ _ (by rw [hop]; intro c hc'; cases hc')]
  rcases rng_next (P := P) h hne o.type with ⟨h0, hrun⟩ | ⟨k, v, rs, w', hp, hrun, hr, hg', hs, hen⟩
  · simp [execOp, hop, hit, hrun, Result.andThen]
    exact hK' _ _ (hDone h0)
  · simp [execOp, hop, hit, hrun, Result.andThen]
    exact hK' _ _ (hMore k v rs w' hp hr hg' hs hen)
end
theorem Rng.left {w : World} {b r : Nat} {todo : List (Int × Value)} (h : Rng w b r todo) : w.rangeLeft b r = todo.length := by
  obtain ⟨es, clock, since, seen, c0, h1, h2, h3, h4, h5, h6, h7, h8⟩ := h
  have := h7.length_eq
  rw [List.length_map, List.length_map, Array.length_toList] at this
  simp only [World.rangeLeft, h1, h2]
  exact this
theorem Rng.walks {w w' : World} {b r : Nat} {todo : List (Int × Value)} (h : Rng w b r todo) (k : KeepsWalks w w') : Rng w' b r todo := by
  obtain ⟨es, clock, since, seen, c0, h1, h2, h3⟩ := h
  exact ⟨es, clock, since, seen, c0, k.same b _ h1 rfl, k.same r _ h2 rfl, h3⟩
theorem Rng.iter {w : World} {b r : Nat} {todo : List (Int × Value)} (h : Rng w b r todo) : ∃ o : Obj, w.heap[r]? = some o ∧ o.isWalk = true := by
  obtain ⟨es, clock, since, seen, c0, h1, h2, h3⟩ := h
  exact ⟨_, h2, rfl⟩
end MV

namespace T12
set_option maxRecDepth 100000 in
set_option maxHeartbeats 1000000 in
/-- The iterator of maps.Keys: the keys come, each once, in some order; or a round says 'no more'. -/
theorem keys1_in (F : Fence) (n : Nat) (h10 : F.fn 49) (hro : F.round = none) (hn : 1 ≤ n) (l Bm b : Nat) (L : List (Int × Value)) (J Jx : List Int → World → Prop)
    (hY : ∀ pre x W, J pre W → pre.length < L.length → YieldAt F (n - 1) Tryd.prog l #[.int .i64 x] W fun e W' =>
      (e = .returned (.bool true) ∧ J (pre ++ [x]) W' ∧ KeepsWalks W W') ∨ (e = .returned (.bool false) ∧ Jx (pre ++ [x]) W'))
    (W : World) (hJ : AbidesFrom W.heap.size J) (hm : W.cell? ⟨Bm, 0, none⟩ = some (.map (some b))) (hown : MV.Is W b L) (h0 : J [] W) :
    CallsIn F n Tryd.prog 49 #[.func (.yield l) #[] #[], .pointer (some ⟨Bm, 0, none⟩)] W fun e W' => (∃ v, e = .returned v) ∧
      ((∃ ss : List Int, ss.Perm (L.map (·.1)) ∧ J ss W') ∨ (∃ pre : List Int, True ∧ Jx pre W')) := by
  have hbl := hown.lt
  refine callsIn_of_wp Tryd.func49 rfl h10 ?_ hro
  simp only [Tryd.ntmps49, List.size_toArray, List.length_cons, List.length_nil, Nat.reduceAdd, Nat.reduceSub, Array.replicate_succ, Array.replicate_zero, List.push_toArray, List.append_toArray, List.nil_append, List.cons_append]
  gi_wp2_with (first
    | (gi_at_range; refine MV.wpi_range rfl _ 65 rfl Tryd.underlying65 rfl hown ?_; intro w0 hrg0 hk0 hs0)
    | gi_in)
  go_frame
  gi_loopw [3] (fun _ wr => ∃ (todo : List (Int × Value)) (ss : List Int), MV.Rng wr b W.heap.size todo ∧ (ss ++ todo.map (·.1)).Perm (L.map (·.1)) ∧ J ss wr)
    (fun _ wr => wr.rangeLeft b W.heap.size)
  case atStart =>
    exact ⟨L, [], hrg0, List.Perm.refl _, hJ [] W w0 none h0 hk0.grown (fun r e => by cases e)⟩
  case round =>
    obtain ⟨todo, ss, hrg, hp, hJs⟩ := hrel
    gi_wp2_with (first
      | (gi_at_next; refine MV.wpi_next rfl _ rfl rfl hrg (by omega) ?_ ?_)
      | gi_in)
    · intro ht0
      gi_wp2
      go_end0
      subst ht0
      exact ⟨⟨_, rfl⟩, .inl ⟨ss, by simpa using hp, hJs⟩⟩
    · intro k v rs w2 hpt hrg2 hg2 hs2 hen
      have hJ2 : J ss w2 := hJ ss wr w2 (some W.heap.size) hJs hg2 (fun r e => by cases e; exact ⟨Nat.le_refl _, hrg.iter⟩)
      have hlen : ss.length < L.length := by
        have h1 := hp.length_eq
        have h2 := hpt.length_eq
        simp at h1 h2
        omega
      obtain ⟨fn, tmps, assign, body, hy, hR⟩ := hY ss k w2 hJ2 hlen
      have hp2 : (ss ++ [k] ++ rs.map (·.1)).Perm (L.map (·.1)) := by
        refine List.Perm.trans ?_ hp
        rw [List.append_assoc]
        exact (List.Perm.append_left ss (hpt.map (fun x : Int × Value => x.1)).symm)
      have hme := hrg.left
      have hlt := hpt.length_eq
      clear hs2
      gi_wp2
      refine hR.mono ?_
      rintro e W3 (⟨rfl, hJ3, hk3⟩ | ⟨rfl, hJx3⟩)
      · gi_wp2
        have hrg3 := hrg2.walks hk3
        go_roundw
        case rel => exact ⟨rs, ss ++ [k], hrg3, hp2, hJ3⟩
        case measure => rw [hrg3.left, hme, hlt]; simp
      · gi_wp2
        refine bodyPost_ret (results_none rfl _ _ _) rfl ?_
        exact ⟨⟨_, rfl⟩, .inr ⟨ss ++ [k], trivial, hJx3⟩⟩

theorem keys_stops (F : Fence) (n : Nat) (h10 : F.fn 49) (hro : F.round = none) (hn : 1 ≤ n) (Bm b : Nat) (L : List (Int × Value)) (w : World) (hBm : Bm < w.heap.size) (hm : w.cell? ⟨Bm, 0, none⟩ = some (.map (some b))) (hown : MV.Is w b L) :
    SeqStops F n Tryd.prog 49 #[.pointer (some ⟨Bm, 0, none⟩)] (fun x : Int => .int .i64 x) (fun ss => ss.Perm (L.map (·.1))) (fun _ => True) L.length w := fun l J Jx W hW hJ _ hY h0 => by
  exact keys1_in F n h10 hro hn l Bm b L J Jx hY W hJ ((hW.cell (p := ⟨Bm, 0, none⟩) hBm).trans hm) (hown.of (hW.block b hown.lt)) h0

theorem keys_in (F : Fence) (n : Nat) (h7 : F.fn 44) (hro : F.round = none) (b : Nat) (w : World) :
    CallsIn F n Tryd.prog 44 #[.map (some b)] w fun e w' => e = .returned (.func (.func 49) #[] #[.pointer (some ⟨w.heap.size, 0, none⟩)]) ∧ w' = w.alloc (.cells #[.map (some b)] 65) := by
  have hmf : ∀ (fn : Fn) (first cap : Array Value) (w : World), (Instr.makeFunc fn first cap).run Tryd.prog w = .ok (.func fn first cap) w := fun _ _ _ _ => rfl
  refine callsIn_of_wp Tryd.func44 rfl h7 ?_ hro
  simp only [Tryd.ntmps44, List.size_toArray, List.length_cons, List.length_nil, Nat.reduceAdd, Nat.reduceSub, Array.replicate_succ, Array.replicate_zero, List.push_toArray, List.append_toArray, List.nil_append, List.cons_append]
  gi_wp2
  go_ret
  exact ⟨rfl, rfl⟩
end T12
end Go.Proofs.YtokopegffeablaaDoor
