/-
  A row of pods of the call's own, each with its own request. No condition.
-/
import Derived.Test.YtpkpmoiekjhdnaaDoorClone6
import Derived.Test.YtpkpmoiekjhdnaaDoorStable6
import Derived.Deep.AppendLies
import Derived.Deep.DeepAppendRoom
namespace Go.Proofs.YtpkpmoiekjhdnaaDoor
open Go.RowKit Go.Sort Go.Shelf

theorem Tryd.infoPod : (Tryd.prog.info? 35).map (fun i => (i.zero, i.size, i.bytes)) = some (some (.agg #[.int .i64 0, .int .i64 0, .bool false, .int .i64 0, .slice none 0 0, .int .i64 0, .int .i64 0, .int .i64 0, .int .i64 0]), 9, 88) := by kernel_rfl
theorem cells9 (x : PodV) : x.cells.length = 9 := rfl
theorem cells_one (x : PodV) : ∀ u ∈ x.cells, u.oneCell' = true := by
  intro u hu
  simp only [PodV.cells, List.mem_cons, List.not_mem_nil, or_false] at hu
  rcases hu with rfl | rfl | rfl | rfl | rfl | rfl | rfl | rfl | rfl <;> rfl
def podCs (Q : Nat → PodV) : Nat → List Value
  | 0 => []
  | n + 1 => podCs Q n ++ (Q n).cells
theorem podCs_len (Q : Nat → PodV) : ∀ n, (podCs Q n).length = n * 9
  | 0 => rfl
  | n + 1 => by rw [podCs, List.length_append, podCs_len Q n, cells9]; omega
theorem podCs_congr {Q R : Nat → PodV} : ∀ n, (∀ j, j < n → Q j = R j) → podCs Q n = podCs R n
  | 0, _ => rfl
  | n + 1, h => by rw [podCs, podCs, podCs_congr n (fun j hj => h j (by omega)), h n (by omega)]
theorem podCs_get (Q : Nat → PodV) : ∀ (n j i : Nat), j < n → i < 9 → (podCs Q n)[j * 9 + i]? = (Q j).cells[i]?
  | 0, j, i, h, _ => absurd h (Nat.not_lt_zero _)
  | n + 1, j, i, h, hi => by
    rw [podCs]
    by_cases e : j = n
    · subst e
      rw [List.getElem?_append_right (by rw [podCs_len]; omega), podCs_len]
      congr 1
      omega
    · rw [List.getElem?_append_left (by rw [podCs_len]; omega)]
      exact podCs_get Q n j i (by omega) hi
def put (Q : Nat → PodV) (n : Nat) (x : PodV) : Nat → PodV := fun j => if j = n then x else Q j
theorem put_at (Q : Nat → PodV) (n : Nat) (x : PodV) : put Q n x n = x := if_pos rfl
theorem put_ne (Q : Nat → PodV) (n : Nat) (x : PodV) {j : Nat} (h : j ≠ n) : put Q n x j = Q j := if_neg h
theorem podCs_put (Q : Nat → PodV) (n : Nat) (x : PodV) : podCs (put Q n x) (n + 1) = podCs Q n ++ x.cells := by
  rw [podCs, put_at, podCs_congr n (fun j hj => put_ne Q n x (by omega))]

/-- What does not hang on the world. -/
structure PodOk (x : PodV) : Prop where
  small : x.m ≤ 9223372036854775807
  range : ∀ k, k < x.m → -9223372036854775808 ≤ x.Z k ∧ x.Z k ≤ 9223372036854775807
  nil : x.A = none → x.m = 0 ∧ x.c = 0
  rng : I64 x.k ∧ I64 x.p ∧ I64 x.g ∧ I64 x.a ∧ I64 x.h ∧ I64 x.d ∧ I64 x.t
theorem PodIs.ok {w : World} {x : PodV} (h : PodIs w x) : PodOk x := ⟨h.rd.small, h.rd.range, h.nil, h.rng⟩
/-- The request lies in a row of the call's own. -/
def Req (w : World) (base : Nat) (x : PodV) : Prop := w.ownsRow base 2 1 (.slice x.A x.m x.c) x.m (rowL x.m x.Z)
theorem Req.is {w : World} {base : Nat} {x : PodV} (h : Req w base x) (o : PodOk x) : PodIs w x := ⟨rd_own h o.small o.range, o.nil, o.rng⟩
theorem row_kind {w : World} {base n z : Nat} {e : TypeId} {v : Value} {xs : List Value} (h : w.ownsRow base e z v n xs) {g : Nat} (hg : v.ownBlock = some g) : ∃ cur, w.heap[g]? = some (.cells cur e (0, 0)) := by
  rcases h.2 with ⟨rfl, _⟩ | ⟨g', cap, cur, rfl, _, h5, _⟩
  · simp [Value.ownBlock] at hg
  · have : g' = g := by simpa [Value.ownBlock] using hg
    subst this
    exact ⟨cur, h5⟩
/-- Two rows of different elements lie in different blocks. -/
theorem rows_apart {w : World} {b1 b2 n1 n2 z1 z2 : Nat} {e1 e2 : TypeId} {v1 v2 : Value} {xs1 xs2 : List Value} (h1 : w.ownsRow b1 e1 z1 v1 n1 xs1) (h2 : w.ownsRow b2 e2 z2 v2 n2 xs2) (he : e1 ≠ e2) : v1.ownBlock = none ∨ v1.ownBlock ≠ v2.ownBlock := by
  cases hv : v1.ownBlock with
  | none => exact Or.inl rfl
  | some g =>
    right
    intro e
    obtain ⟨c1, k1⟩ := row_kind h1 hv
    obtain ⟨c2, k2⟩ := row_kind h2 e.symm
    rw [k1] at k2
    injection k2 with k2
    injection k2 with _ k2
    exact he k2
structure RowP (w : World) (base : Nat) (v : Value) (n : Nat) (Q : Nat → PodV) : Prop where
  row : w.ownsRow base 35 9 v n (podCs Q n)
  own : ∀ j, j < n → Req w base (Q j)
  ok : ∀ j, j < n → PodOk (Q j)
theorem RowP.keep {w w' : World} {base : Nat} {v : Value} {n : Nat} {Q : Nat → PodV} (h : RowP w base v n Q) (k : Keep w w') : RowP w' base v n Q := ⟨own_keep h.row k, fun j hj => own_keep (h.own j hj) k, h.ok⟩
theorem RowP.nil (w : World) (base : Nat) (Q : Nat → PodV) : RowP w base (.slice none 0 0) 0 Q := ⟨World.ownsRow_nil _ _ _ _, fun _ h => absurd h (Nat.not_lt_zero _), fun _ h => absurd h (Nat.not_lt_zero _)⟩
/-- One pod more. -/
theorem RowP.more {w w' : World} {base n : Nat} {v v' : Value} {Q : Nat → PodV} {x : PodV} (h : RowP w base v n Q) (hx : Req w base x) (ho : PodOk x) (hr : w'.ownsRow base 35 9 v' (n + 1) (podCs Q n ++ x.cells)) (hg : w.grownBy w' v.ownBlock) : RowP w' base v' (n + 1) (put Q n x) where
  row := by rw [podCs_put]; exact hr
  own := fun j hj => by
    by_cases e : j = n
    · subst e; rw [put_at]; exact World.ownsRow.kept hx hg (rows_apart hx h.row (by decide))
    · rw [put_ne _ _ _ e]
      have := h.own j (by omega)
      exact World.ownsRow.kept this hg (rows_apart this h.row (by decide))
  ok := fun j hj => by
    by_cases e : j = n
    · subst e; rw [put_at]; exact ho
    · rw [put_ne _ _ _ e]; exact h.ok j (by omega)
theorem cel_of {w : World} {g o : Nat} {x : PodV} (h : ∀ i u, x.cells[i]? = some u → w.cell? ⟨g, o + i, none⟩ = some u) : Cel9 w g o x :=
  ⟨h 0 _ rfl, h 1 _ rfl, h 2 _ rfl, h 3 _ rfl, h 4 _ rfl, h 5 _ rfl, h 6 _ rfl, h 7 _ rfl, h 8 _ rfl⟩
theorem row_cel {w : World} {base n g cap : Nat} {Q : Nat → PodV} (h : w.ownsRow base 35 9 (.slice (some ⟨g, 0, none⟩) n cap) n (podCs Q n)) {j : Nat} (hj : j < n) : Cel9 w g (0 + j * 9) (Q j) := by
  refine cel_of fun i u hu => ?_
  have hi : i < 9 := (List.getElem?_eq_some_iff.1 hu).1
  rw [Nat.zero_add, h.cellAt (j * 9 + i) (by omega), podCs_get Q n j i hj hi, hu]
theorem RowP.rd {w : World} {base n : Nat} {v : Value} {Q : Nat → PodV} (h : RowP w base v n Q) (hn : n ≤ 9223372036854775807) : ∃ A c, v = .slice A n c ∧ RdPods w A n Q := by
  obtain ⟨A, c, rfl, h0⟩ := own_form h.row
  refine ⟨A, c, rfl, hn, fun hp => ?_, fun j hj => (h.own j hj).is (h.ok j hj)⟩
  obtain ⟨g, cap, e, _, _⟩ := h.row.form hp
  simp only [Value.slice.injEq] at e
  obtain ⟨rfl, _, rfl⟩ := e
  exact ⟨g, 0, rfl, fun j hj => row_cel h.row hj⟩

/-- x is y but for where its request lies. -/
def SameV (x y : PodV) : Prop := ∃ A c, x = y.at A c
theorem SameV.refl (x : PodV) : SameV x x := ⟨x.A, x.c, rfl⟩
theorem SameV.trans {x y z : PodV} (h : SameV x y) (k : SameV y z) : SameV x z := by
  obtain ⟨A, c, rfl⟩ := h
  obtain ⟨B, d, rfl⟩ := k
  exact ⟨A, c, rfl⟩
theorem SameV.symm {x y : PodV} (h : SameV x y) : SameV y x := by
  obtain ⟨A, c, rfl⟩ := h
  exact ⟨y.A, y.c, rfl⟩

/-! ### The row under the sort -/
theorem swk_grown {enc : Nat → List Value} {k : Nat} {w0 W : World} {blk off : Nat} {dk : Array Nat} (h : SWK enc k w0 blk off dk W) : w0.grownBy W (some blk) := by
  obtain ⟨m, os, rfl⟩ := h
  unfold sortWorldK
  refine ⟨rfl, rfl, rfl, by rw [size_grow, size_putRowK]; exact Nat.le_add_right _ _, fun j hj hne => ?_⟩
  rw [heap_grow_old _ _ (by rw [size_putRowK]; exact hj)]
  unfold putRowK putRow mapBlock
  have : j ≠ blk := fun e => hne (by rw [e])
  rw [Array.getElem?_modify, if_neg (fun e => this e.symm)]
  rfl
def enc9 (Q : Nat → PodV) : Nat → List Value := fun t => (Q t).cells
theorem get_flat9 (Q : Nat → PodV) (n t : Nat) (h : t < n * 9) : (flatK (enc9 Q) 9 (Array.range n))[t]! = (podCs Q n)[t]! := by
  rw [get_flatK _ _ _ _ (by simpa using h)]
  have h1 : t / 9 < n := by omega
  have h2 : t % 9 < 9 := Nat.mod_lt _ (by omega)
  have e : (Array.range n)[t / 9]! = t / 9 := by rw [getElem!_pos _ _ (by simpa using h1)]; simp
  rw [e]
  have hg := podCs_get Q n (t / 9) (t % 9) h1 h2
  rw [show t / 9 * 9 + t % 9 = t by omega] at hg
  show (Q (t / 9)).cells[t % 9]! = _
  rw [List.getElem!_eq_getElem?_getD, List.getElem!_eq_getElem?_getD, hg]
theorem RowP.holds {w : World} {base g n cap : Nat} {Q : Nat → PodV} (h : RowP w base (.slice (some ⟨g, 0, none⟩) n cap) n Q) : HoldsK (enc9 Q) 9 w g 0 (Array.range n) := by
  intro t ht
  rw [size_flatK, Array.size_range] at ht
  rw [Nat.zero_add, get_flat9 Q n t ht]
  refine ⟨?_, h.row.frozenAt t⟩
  rw [h.row.cellAt t ht, List.getElem!_eq_getElem?_getD]
  have : t < (podCs Q n).length := by rw [podCs_len]; exact ht
  rw [List.getElem?_eq_getElem this]
  rfl
theorem holds_cel {w : World} {g : Nat} {Q : Nat → PodV} {dk : Array Nat} (h : HoldsK (enc9 Q) 9 w g 0 dk) {j : Nat} (hj : j < dk.size) : Cel9 w g (0 + j * 9) (Q dk[j]!) := by
  refine cel_of fun i u hu => ?_
  have hi : i < 9 := (List.getElem?_eq_some_iff.1 hu).1
  rw [(h.cell hj hi).1]
  show some ((Q dk[j]!).cells[i]!) = _
  rw [List.getElem!_eq_getElem?_getD, hu]
  rfl
end Go.Proofs.YtpkpmoiekjhdnaaDoor
