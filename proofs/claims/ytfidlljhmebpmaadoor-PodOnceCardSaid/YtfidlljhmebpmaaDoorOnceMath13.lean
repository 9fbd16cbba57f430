/-
  PodOnce: an accepted Bind or Free is never accepted again; the row of what was done. No condition.
-/
import Derived.Test.YtfidlljhmebpmaaDoorWalk13
import Derived.ChangeKeysEq
namespace Go.Proofs.YtfidlljhmebpmaaDoor.T13
open Go.RowKit Go.Sort Go.Lib V12

/-- The pod is there, and the event behind it. -/
def Done (L : List PodV) (p : Int × Int) : Prop := p.1 ∈ keys L ∧ ((p.2 = 1 ∧ 3 ≤ (getL L p.1).h) ∨ (p.2 = 5 ∧ (getL L p.1).h = 5))
theorem nx_three {p e : Int} (h : 3 ≤ p) (h0 : nx p e ≠ 0) : 3 ≤ nx p e := by
  unfold nx at h0 ⊢
  repeat' split
  all_goals first | omega | (exfalso; simp_all; omega)
theorem nx_five (e : Int) : nx 5 e = 0 := by
  unfold nx
  repeat' split
  all_goals first | rfl | omega
theorem done_no {L : List PodV} {p : Int × Int} (h : Done L p) : appC L p.1 p.2 ≠ 0 := by
  obtain ⟨hk, h1⟩ := h
  unfold appC
  rw [if_neg (fun e => e hk)]
  have hz : nx (getL L p.1).h p.2 = 0 := by
    rcases h1 with ⟨e, h1⟩ | ⟨e, h1⟩
    · rw [e]; unfold nx; rw [if_pos rfl, if_neg (by omega)]
    · rw [h1]; exact nx_five _
  rw [if_pos hz]
  decide
theorem get_left {L M : List PodV} {id : Int} (h : id ∈ keys L) : getL (L ++ M) id = getL L id := by
  unfold getL
  rw [List.find?_append]
  have := get_some h
  cases e : L.find? fun y => decide (y.k = id) with
  | none =>
    exfalso
    unfold keys at h
    obtain ⟨y, hy, ek⟩ := List.mem_map.1 h
    have := List.find?_eq_none.1 e y hy
    simp [ek] at this
  | some y => rfl
theorem done_sub {L : List PodV} {p : Int × Int} (h : Done L p) (s : Int) (x : PodV) : Done (subL L s x) p := by
  unfold subL
  split
  · refine ⟨?_, by rw [get_left h.1]; exact h.2⟩
    unfold keys
    rw [List.map_append]
    exact List.mem_append_left _ h.1
  · exact h
theorem get_app {L : List PodV} {id id' e nd dl : Int} (h : id' ∈ keys L) : getL (L.map fun y => if y.k = id then appP y e nd dl else y) id' = if id' = id then appP (getL L id') e nd dl else getL L id' := by
  unfold getL
  rw [List.find?_map]
  have hc : ((fun y : PodV => decide (y.k = id')) ∘ fun y => if y.k = id then appP y e nd dl else y) = fun y => decide (y.k = id') := by
    funext y
    simp only [Function.comp_apply]
    split
    · rfl
    · rfl
  rw [hc]
  cases e1 : L.find? fun y => decide (y.k = id') with
  | none =>
    exfalso
    unfold keys at h
    obtain ⟨y, hy, ek⟩ := List.mem_map.1 h
    have := List.find?_eq_none.1 e1 y hy
    simp [ek] at this
  | some y =>
    have hy := List.find?_some e1
    simp only [decide_eq_true_eq] at hy
    simp only [Option.map_some, Option.getD_some]
    rw [hy]
theorem done_app {L : List PodV} {p : Int × Int} (h : Done L p) (id e nd dl : Int) : Done (appL L id e nd dl) p := by
  refine ⟨by rw [appL_keys]; exact h.1, ?_⟩
  unfold appL
  split
  · rename_i hc
    rw [get_app h.1]
    split
    · rename_i hid
      rw [appP_h]
      unfold appC at hc
      rw [← hid, if_neg (fun e => e h.1)] at hc
      have h0 : nx (getL L p.1).h e ≠ 0 := fun e0 => by rw [if_pos e0] at hc; exact absurd hc (by decide)
      rcases h.2 with ⟨e1, h1⟩ | ⟨e1, h1⟩
      · exact Or.inl ⟨e1, nx_three h1 h0⟩
      · rw [h1, nx_five] at h0
        exact absurd rfl h0
    · exact h.2
  · exact h.2
theorem app_done {L : List PodV} {id e : Int} (hc : appC L id e = 0) (he : e = 1 ∨ e = 5) (nd dl : Int) : Done (appL L id e nd dl) (id, e) := by
  have hk : id ∈ keys L := by
    refine Classical.byContradiction fun h => ?_
    unfold appC at hc
    rw [if_pos h] at hc
    exact absurd hc (by decide)
  have h0 : nx (getL L id).h e ≠ 0 := fun e0 => by
    unfold appC at hc
    rw [if_neg (fun e => e hk), if_pos e0] at hc
    exact absurd hc (by decide)
  refine ⟨by rw [appL_keys]; exact hk, ?_⟩
  unfold appL
  rw [if_pos hc, get_app hk, if_pos rfl, appP_h]
  rcases he with rfl | rfl
  · refine Or.inl ⟨rfl, ?_⟩
    show 3 ≤ nx (getL L id).h 1
    unfold nx at h0 ⊢
    rw [if_pos rfl] at h0 ⊢
    split at h0
    · rename_i h; rw [if_pos h]; omega
    · exact absurd rfl h0
  · refine Or.inr ⟨rfl, ?_⟩
    show nx (getL L id).h 5 = 5
    unfold nx at h0 ⊢
    simp only [show ¬ ((5 : Int) = 1) by omega, show ¬ ((5 : Int) = 2) by omega, show ¬ ((5 : Int) = 3) by omega, show ¬ ((5 : Int) = 4) by omega, if_false, if_true] at h0 ⊢
    split at h0
    · rename_i h; rw [if_pos h]
    · exact absurd rfl h0
/-- A row of pairs. -/
def prC (p : Int × Int) : List Value := [.int .i64 p.1, .int .i64 p.2]
def prCs (D : List (Int × Int)) : List Value := D.flatMap prC
theorem prCs_len (D : List (Int × Int)) : (prCs D).length = D.length * 2 := by
  induction D with
  | nil => rfl
  | cons p D ih =>
    unfold prCs at ih ⊢
    rw [List.flatMap_cons, List.length_append, ih, List.length_cons]
    show 2 + _ = _
    omega
theorem prCs_get : ∀ (D : List (Int × Int)) (j i : Nat) (p : Int × Int), D[j]? = some p → i < 2 → (prCs D)[j * 2 + i]? = (prC p)[i]?
  | [], j, i, p, h, _ => by simp at h
  | d :: D, 0, i, p, h, hi => by
    obtain rfl : d = p := by simpa using h
    show (prC d ++ prCs D)[0 * 2 + i]? = _
    rw [Nat.zero_mul, Nat.zero_add, List.getElem?_append_left (by show i < 2; exact hi)]
  | d :: D, j + 1, i, p, h, hi => by
    show (prC d ++ prCs D)[(j + 1) * 2 + i]? = _
    rw [List.getElem?_append_right (by show 2 ≤ _; omega), show (j + 1) * 2 + i - (prC d).length = j * 2 + i by show _ - 2 = _; omega]
    exact prCs_get D j i p (by simpa using h) hi
theorem prCs_app (D : List (Int × Int)) (p : Int × Int) : prCs (D ++ [p]) = prCs D ++ prC p := by
  unfold prCs
  rw [List.flatMap_append, List.flatMap_cons, List.flatMap_nil, List.append_nil]
theorem pr_cel {w : World} {base n g cap : Nat} {D : List (Int × Int)} (h : w.ownsRow base 52 2 (.slice (some ⟨g, 0, none⟩) n cap) n (prCs D)) {j : Nat} {p : Int × Int} (hj : j < n) (hp : D[j]? = some p) : w.cell? ⟨g, j * 2, none⟩ = some (.int .i64 p.1) ∧ w.cell? ⟨g, j * 2 + 1, none⟩ = some (.int .i64 p.2) := by
  constructor
  · rw [show j * 2 = j * 2 + 0 by omega, h.cellAt (j * 2 + 0) (by omega), prCs_get D j 0 p hp (by omega)]
    rfl
  · rw [h.cellAt (j * 2 + 1) (by omega), prCs_get D j 1 p hp (by omega)]
    rfl
theorem pairs_at (b n cp j : Nat) (hj : j < n) (W : World) : (Instr.indexAt 46 (.slice (some ⟨b, 0, none⟩) n cp) (.int .i64 j)).run Tryd.prog W = .ok (.pointer (some ⟨b, j * 2, none⟩)) W := by
  go_simp
theorem Tryd.infoPr : (Tryd.prog.info? 52).map (fun i => (i.zero, i.size, i.bytes)) = some (some (.agg #[.int .i64 0, .int .i64 0]), 2, 16) := by kernel_rfl
theorem eq_intP {t : TypeId} (hu : Tryd.prog.underlying t = some (.int .i64)) (d : Nat) (a b : Int) (w : World) : (Op.equalIn (d + 1) t (.int .i64 a) (.int .i64 b)).run Tryd.prog w = .ok (a == b) w := by
  simp [Op.equalIn, run_underlying hu]
theorem eq_pair {pa pe id ev : Int} (h : ¬ (pa = id ∧ pe = ev)) (w : World) : (Op.equalIn 10000 52 (.agg #[.int .i64 pa, .int .i64 pe]) (.agg #[.int .i64 id, .int .i64 ev])).run Tryd.prog w = .ok false w := by
  have hs : (Tryd.prog.info? 3).isSome = true := by kernel_rfl
  obtain ⟨i, hi⟩ := Option.isSome_iff_exists.1 hs
  have hu : Tryd.prog.underlying 52 = some (.array 2 3) := by kernel_rfl
  have hc : Tryd.prog.cellsOf 3 = 1 := by kernel_rfl
  have p1 : ∀ (x y : Int) W, (part 3 #[.int .i64 x, .int .i64 y] 0).run Tryd.prog W = .ok (.int .i64 x) W := fun _ _ _ => by kernel_rfl
  have p2 : ∀ (x y : Int) W, (part 3 #[.int .i64 x, .int .i64 y] 1).run Tryd.prog W = .ok (.int .i64 y) W := fun _ _ _ => by kernel_rfl
  have e1 := fun (a b : Int) W => eq_intP Tryd.underlying3 9998 a b W
  rw [show (10000 : Nat) = 9999 + 1 from rfl, run_equalIn_array w 9999 _ _ hu hi, hc]
  by_cases h1 : pa = id
  · have h2 : ¬ pe = ev := fun h2 => h ⟨h1, h2⟩
    simp [Op.eqItems, List.range, List.range.loop, p1, p2, e1, h1, h2, Result.andThen]
  · simp [Op.eqItems, List.range, List.range.loop, p1, e1, h1, Result.andThen]
end Go.Proofs.YtfidlljhmebpmaaDoor.T13
