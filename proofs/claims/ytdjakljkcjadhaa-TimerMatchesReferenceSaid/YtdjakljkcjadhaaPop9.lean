/-
  Pop of a list's heap: the last of the list. Condition: the list is not empty.
-/
import Derived.Test.YtdjakljkcjadhaaPush9
namespace Go.Proofs.Ytdjakljkcjadhaa.T9
open Go.RowKit Go.Sort Go.Lib Go.Shelf
open Go.ChangeMaps (setBlock)

theorem own_shrink {w : World} {base n c : Nat} {A : Option Addr} {Q : Nat → TmV} (h : w.ownsRow base 33 3 (.slice A (n + 1) c) (n + 1) (tmCs Q (n + 1))) : w.ownsRow base 33 3 (.slice A n c) n (tmCs Q n) := by
  rcases h with ⟨h1, ⟨_, h2⟩ | ⟨g, cap, cur, h3, h4, h5, h6, h7, h8, h9⟩⟩
  · omega
  · simp only [Value.slice.injEq] at h3
    obtain ⟨rfl, _, rfl⟩ := h3
    refine ⟨tmCs_len _ _, .inr ⟨g, c, cur, rfl, h4, h5, by omega, h7, h8, ?_⟩⟩
    have : (cur.toList.take ((n + 1) * 3)).take (n * 3) = (tmCs Q (n + 1)).take (n * 3) := by rw [h9]
    rw [List.take_take, Nat.min_eq_left (by omega)] at this
    rw [this, tmCs, List.take_append_of_le_length (by rw [tmCs_len]; exact Nat.le_refl _), List.take_of_length_le (by rw [tmCs_len]; exact Nat.le_refl _)]
theorem places_inj {n : Nat} {Q : Nat → TmV} {f : Int → Option Int} (h : Places n Q f) {s t : Nat} (hs : s < n) (ht : t < n) (e : (Q s).k = (Q t).k) : s = t := by
  have h1 := (h (Q s).k s).2 ⟨s, hs, rfl, rfl⟩
  have h2 := (h (Q s).k t).2 ⟨t, ht, e.symm, rfl⟩
  rw [h1] at h2
  injection h2 with h2
  omega
theorem places_del {n : Nat} {Q : Nat → TmV} {f : Int → Option Int} (h : Places (n + 1) Q f) : Places n Q (del f (Q n).k) := by
  intro k v
  unfold del
  by_cases e : k = (Q n).k
  · rw [if_pos e]
    constructor
    · intro hv; cases hv
    · rintro ⟨j, hj, hk, _⟩
      have := places_inj h (s := j) (t := n) (by omega) (by omega) (by rw [hk, e])
      omega
  · rw [if_neg e, h k v]
    constructor
    · rintro ⟨j, hj, hk, hv⟩
      by_cases e2 : j = n
      · exact absurd (by rw [← hk, e2]) e
      · exact ⟨j, by omega, hk, hv⟩
    · rintro ⟨j, hj, hk, hv⟩
      exact ⟨j, by omega, hk, hv⟩
section
variable {ops : Array Oper} {o : Oper} {a : Act} {w : World} {K : Act → World → Prop} {Q : Exit → Act → World → Prop} {E : Prop}
/-- A delete, at a step of a region that draws. -/
theorem step_del (hgd : o.guard = none) (m x : Operand) (ho : o.op = .call { callee := .builtin .delete, args := #[m, x], argTypes := #[51, 3] })
    (B : Nat) (k : Int) (hm : a.eval m = .map (some B)) (hx : a.eval x = .int .i64 k) (ob : Obj) (hE : ∀ ty, (Builtin.delete_ #[51, 3] ty #[.map (some B), .int .i64 k]).run Try.prog w = .ok (.tuple #[]) (setBlock w B ob))
    (h : ∀ w', w' = setBlock w B ob → K (a.put o.dst (.tuple #[])) w') :
    if Region.wanted o (yielded ops a.tmps) = true then Oper.wp Try.prog o a w K Q else E := by
  have hw : Region.wanted o (yielded ops a.tmps) = true := by simp [Region.wanted, hgd]
  rw [if_pos hw]
  have := h _ rfl
  unfold Oper.wp
  simp [execOp, ho, resolve, invoke, builtin, hm, hx, hE, Result.andThen]
  exact this
end

set_option maxRecDepth 100000 in
set_option maxHeartbeats 8000000 in
theorem hpop_fn {w : World} {b bq B : Nat} {A : Option Addr} {c n : Nat} {Q : Nat → TmV} (h : TMem w b bq B A c (n + 1) Q) :
    Calls Try.prog 73 #[.pointer (some ⟨bq, 0, none⟩)] w fun e w' => e = .returned (.iface 33 (Q n).val) ∧ TMem w' b bq B A c n Q ∧ Fr (Foot bq B A) w w' := by
  have mixed : Try.prog.follows .mixedOrders = true := by kernel_rfl
  have H := Lib.hid h
  obtain ⟨g, rfl, hg⟩ := h.at (by omega)
  have c0 := h.e0
  have c1 := h.e1
  have f0 := h.f0
  have hlim := h.lim
  have hlt := h.lt
  have hne := Lib.hid h.ne
  have X := (hg n (by omega)).1
  have q1 := atT g 0 (n + 1) c n (by omega)
  rw [Nat.zero_add] at q1
  clear hg h
  obtain ⟨f, M0, PL⟩ := H.out.map
  obtain ⟨x, hx⟩ : ∃ x, x = Q n := ⟨_, rfl⟩
  rw [← hx] at X ⊢
  obtain ⟨o, O1, E1⟩ := mapI_del M0 x.k
  replace hx := Lib.hid hx
  have x0 := X.e0; have x1 := X.e1; have x2 := X.e2
  clear X
  have hl1 : (n : Int) + 1 - 1 = (n : Int) := by omega
  have ltg : g < w.heap.size := cell_lt x0
  have nd1 : w.heap.size ≠ bq := by omega
  have nd2 : w.heap.size ≠ B := by omega
  have hcap : (n : Int) ≤ (c : Int) := by have := own_cap H.out.row; omega
  replace O1 := Lib.hid O1
  replace E1 := Lib.hid E1
  replace PL := Lib.hid PL
  replace M0 := Lib.hid M0
  unfold TmV.val
  go_enter Try.func73, Try.ntmps73
  go_wp2_with fail
  clear x0 x1 x2 c0 c1 f0 q1
  obtain ⟨s0, hs0⟩ : ∃ s0, s0 = w.heap.size := ⟨_, rfl⟩
  rw [← hs0] at nd1 nd2 ⊢
  obtain ⟨P0, hP0⟩ : ∃ P0, P0 = Obj.cells #[.int .i64 x.k, .int .i64 x.t, .int .i64 x.a] 33 := ⟨_, rfl⟩
  obtain ⟨W5, hW5⟩ : ∃ W5, W5 = (w.setCell ⟨bq, 0, none⟩ (.slice (some ⟨g, 0, none⟩) n c)).alloc P0 := ⟨_, rfl⟩
  rw [← hP0, ← hW5]
  have sz2 : (w.setCell ⟨bq, 0, none⟩ (.slice (some ⟨g, 0, none⟩) n c)).heap.size = s0 := by rw [hs0]; simp
  have z5 : W5.heap.size = s0 + 1 := by rw [hW5, World.size_alloc, sz2]
  have v5 : W5.heap[s0]? = some P0 := by rw [hW5, ← sz2]; exact heap_alloc_new _ _
  have q5 : W5.heap[bq]? = some (.cells #[.slice (some ⟨g, 0, none⟩) n c, .map (some B)] 55 (0, 0)) := by
    rw [hW5, Below.heap_alloc _ _ _ (by rw [sz2]; omega)]
    exact heap_setCell_same w bq 0 _ _ (.slice (some ⟨g, 0, none⟩) n c) H.out.hq
  have o5 : ∀ k, k < s0 → k ≠ bq → W5.heap[k]? = w.heap[k]? := fun k hk hn => by
    rw [hW5, Below.heap_alloc _ _ _ (by rw [sz2]; exact hk)]
    exact Below.heap_setCell w _ _ k hn
  have B5 : W5.heap[B]? = w.heap[B]? := o5 B (by omega) (fun e => hne.out.1 e.symm)
  have F5 : Fr (Foot bq B (some ⟨g, 0, none⟩)) w W5 := by rw [hW5]; exact ((Fr.refl _ _).set (Or.inl (Or.inl rfl)) _).alloc _
  have R5 : W5.ownsRow b 33 3 (.slice (some ⟨g, 0, none⟩) n c) n (tmCs Q n) := own_blocks1 (own_shrink H.out.row) fun k hk => by
    have e := own_zero (own_shrink H.out.row) hk
    have := hne.out.2 k 0 e
    refine o5 k ?_ this.1
    have e2 := Option.some.inj e
    simp only [Addr.mk.injEq, and_true] at e2
    omega
  rw [hP0] at v5
  have y0 : W5.cell? ⟨s0, 0, none⟩ = some (.int .i64 x.k) := by rw [cell_of_row W5 _ _ _ _ _ v5]; rfl
  have u0 : W5.cell? ⟨bq, 1, none⟩ = some (.map (some B)) := by rw [cell_of_row W5 _ _ _ _ _ q5]; rfl
  have hO : ∀ (W : World) (ty : TypeId), W.heap[B]? = W5.heap[B]? → (Builtin.delete_ #[51, 3] ty #[.map (some B), .int .i64 x.k]).run Try.prog W = .ok (.tuple #[]) (setBlock W B o) := fun W ty e => E1.out W ty (e.trans B5)
  clear hW5 hP0 sz2
  replace v5 := Lib.hid v5
  replace q5 := Lib.hid q5
  replace o5 := Lib.hid o5
  replace B5 := Lib.hid B5
  replace F5 := Lib.hid F5
  replace R5 := Lib.hid R5
  replace z5 := Lib.hid z5
  replace hO := Lib.hid hO
  replace hs0 := Lib.hid hs0
  go_region_law (first
    | (refine step_del rfl (.tmp 30) (.tmp 32) rfl B x.k (by simp [Act.eval]) (by simp [Act.eval]) o (fun ty => hO.out _ ty rfl) ?_
       intro w6 e6
       have h6 : Hid (∀ k, k ≠ B → w6.heap[k]? = W5.heap[k]?) := fun k hk => by rw [e6]; exact heap_setBlock_ne hk
       have b6 : Hid (w6.heap[B]? = some o) := by
         rw [e6]
         refine heap_setBlock ?_
         show B < W5.heap.size
         have := z5.out
         have := hs0.out
         omega
       have z6 : Hid (w6.heap.size = W5.heap.size) := by rw [e6]; show (setBlock W5 B o).heap.size = _; simp [setBlock]
       have F6 : Hid (Fr (Foot bq B (some ⟨g, 0, none⟩)) w w6) := by
         rw [e6]
         exact Fr.put (by first | exact F5.out | exact F5.out.drew) (Or.inl (Or.inr (Or.inl rfl))) o
       have d6 : w6.heap[s0]? = some (.cells #[.int .i64 x.k, .int .i64 x.t, .int .i64 x.a] 33 (0, 0)) := (h6.out s0 (by have := hs0.out; omega)).trans v5.out
       clear e6))
  all_goals
    clear y0 u0
    have y0 : w6.cell? ⟨s0, 0, none⟩ = some (.int .i64 x.k) := by rw [cell_of_row w6 _ _ _ _ _ d6]; rfl
    have y1 : w6.cell? ⟨s0, 1, none⟩ = some (.int .i64 x.t) := by rw [cell_of_row w6 _ _ _ _ _ d6]; rfl
    have y2 : w6.cell? ⟨s0, 2, none⟩ = some (.int .i64 x.a) := by rw [cell_of_row w6 _ _ _ _ _ d6]; rfl
    replace d6 := Lib.hid d6
    go_wp2
    go_ret
    refine ⟨rfl, ⟨(h6.out bq (fun e => hne.out.1 e)).trans q5.out, own_blocks1 R5.out fun k hk => h6.out k (hne.out.2 k 0 (own_zero R5.out hk)).2, fun j hj => H.out.ok j (by omega), ⟨_, ⟨o, b6.out, O1.out⟩, ?_⟩, by omega, H.out.lo.1, H.out.lo.2.1, Nat.le_trans H.out.lo.2.2 F6.out.size⟩, F6.out⟩
    rw [hx.out]
    exact places_del PL.out
end Go.Proofs.Ytdjakljkcjadhaa.T9
