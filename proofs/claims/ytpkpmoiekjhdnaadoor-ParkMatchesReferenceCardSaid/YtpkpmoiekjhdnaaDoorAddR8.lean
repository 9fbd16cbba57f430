/-
  The region of the reference's Add that appends to both lists: whatever its order. No condition but that a list without an array has no room.
-/
import Derived.Test.YtpkpmoiekjhdnaaDoorRRem8
import Derived.OrdersHeld
namespace Go.Proofs.YtpkpmoiekjhdnaaDoor
open Go.RowKit Go.Sort Go.Lib Go.Shelf

/-- Nothing may come up any more: all has come up. -/
theorem ready_done {md : Region.Mode} {ops : Array Oper} {l : Array Bool} (hw : ((List.range ops.size).all fun i => ((ops[i]?).map fun o => o.after.all fun e => decide (e.on < i)).getD true) = true) (hs : l.size = ops.size) (h : Region.ready md ops l = []) :
    ∀ i, i < ops.size → l.getD i false = true := by
  intro i
  induction i using Nat.strongRecOn with
  | _ i ih =>
    intro hi
    cases hl : l.getD i true with
    | true =>
      rw [Array.getD_eq_getD_getElem?, Array.getElem?_eq_getElem (by omega)] at hl ⊢
      exact hl
    | false =>
      exfalso
      have hm : i ∈ Region.ready md ops l := by
        refine mem_ready.2 ⟨hl, ops[i], Array.getElem?_eq_getElem hi, fun e he _ => ?_⟩
        have h1 := List.all_eq_true.1 hw i (List.mem_range.2 hi)
        rw [Array.getElem?_eq_getElem hi] at h1
        simp only [Option.map_some, Option.getD_some] at h1
        have h2 := of_decide_eq_true (Array.all_eq_true_iff_forall_mem.1 h1 e he)
        exact ih e.on h2 (by omega)
      rw [h] at hm
      cases hm
theorem dep_of {md : Region.Mode} {ops : Array Oper} {l : Array Bool} {i : Nat} (hi : i ∈ Region.ready md ops l) {o : Oper} (ho : ops[i]? = some o) (j : Nat) (hj : (o.after.any fun e => e.on == j && Region.binds md e) = true) : l.getD j false = true := by
  obtain ⟨_, o', ho', hall⟩ := mem_ready.1 hi
  rw [ho] at ho'
  obtain rfl := Option.some.inj ho'
  obtain ⟨e, he, h⟩ := Array.any_eq_true'.1 hj
  simp only [Bool.and_eq_true, beq_iff_eq] at h
  rw [← h.1]
  exact hall e he h.2

def regOps : Code → Nat → Array Oper
  | .region k ops _, n => if k = n then ops else #[]
  | .seq a b, n => regOps a n ++ regOps b n
  | .cond _ a b, n => regOps a n ++ regOps b n
  | _, _ => #[]
noncomputable def adOps : Array Oper := ((Tryd.f25.body).map fun c => regOps c 3).getD #[]
theorem ad_size : adOps.size = 17 := by kernel_rfl
def adF (e : Nat → Value) (v7 v23 v26 v28 v29 v30 v33 v35 v36 v37 : Value) : Act :=
  ⟨#[e 0, e 1, e 2, e 3, e 4, e 5, e 6, v7, e 8, e 9, e 10, e 11, e 12, e 13, e 14, e 15, e 16, e 17, e 18, e 19, e 20, e 21, e 22, v23, e 24, e 25, v26, e 27, v28, v29, v30, e 31, e 32, v33, e 34, v35, v36, v37], []⟩
noncomputable def adO (i : Nat) : Oper := (adOps[i]?).getD { dst := none, op := .build 0 #[], type := 0, pos := "", after := #[], guard := none }
theorem ado0 : adOps[0]? = some (adO 0) ∧ (adO 0).op = .buildSlice 27 0 #[] ∧ (adO 0).dst = some 23 ∧ (adO 0).guard = none := ⟨by kernel_rfl, by kernel_rfl, by kernel_rfl, by kernel_rfl⟩
theorem ado3 : adOps[3]? = some (adO 3) ∧ (adO 3).op = .call { callee := .builtin .append, args := #[.tmp 23, .tmp 25], argTypes := #[27, 27] } ∧ (adO 3).dst = some 26 ∧ (adO 3).guard = none := ⟨by kernel_rfl, by kernel_rfl, by kernel_rfl, by kernel_rfl⟩
theorem ado5 : adOps[5]? = some (adO 5) ∧ (adO 5).op = .buildSlice 27 1 #[(0, .tmp 27)] ∧ (adO 5).dst = some 28 ∧ (adO 5).guard = none := ⟨by kernel_rfl, by kernel_rfl, by kernel_rfl, by kernel_rfl⟩
theorem ado6 : adOps[6]? = some (adO 6) ∧ (adO 6).op = .call { callee := .builtin .append, args := #[.tmp 26, .tmp 28], argTypes := #[27, 27] } ∧ (adO 6).dst = some 29 ∧ (adO 6).guard = none := ⟨by kernel_rfl, by kernel_rfl, by kernel_rfl, by kernel_rfl⟩
theorem ado7 : adOps[7]? = some (adO 7) ∧ (adO 7).op = .buildSlice 28 0 #[] ∧ (adO 7).dst = some 30 ∧ (adO 7).guard = none := ⟨by kernel_rfl, by kernel_rfl, by kernel_rfl, by kernel_rfl⟩
theorem ado10 : adOps[10]? = some (adO 10) ∧ (adO 10).op = .call { callee := .builtin .append, args := #[.tmp 30, .tmp 32], argTypes := #[28, 28] } ∧ (adO 10).dst = some 33 ∧ (adO 10).guard = none := ⟨by kernel_rfl, by kernel_rfl, by kernel_rfl, by kernel_rfl⟩
theorem ado12 : adOps[12]? = some (adO 12) ∧ (adO 12).op = .buildSlice 28 1 #[(0, .tmp 34)] ∧ (adO 12).dst = some 35 ∧ (adO 12).guard = none := ⟨by kernel_rfl, by kernel_rfl, by kernel_rfl, by kernel_rfl⟩
theorem ado13 : adOps[13]? = some (adO 13) ∧ (adO 13).op = .call { callee := .builtin .append, args := #[.tmp 33, .tmp 35], argTypes := #[28, 28] } ∧ (adO 13).dst = some 36 ∧ (adO 13).guard = none := ⟨by kernel_rfl, by kernel_rfl, by kernel_rfl, by kernel_rfl⟩
theorem ado14 : adOps[14]? = some (adO 14) ∧ (adO 14).op = .build 30 #[(0, .tmp 29), (1, .tmp 36)] ∧ (adO 14).dst = some 37 ∧ (adO 14).guard = none := ⟨by kernel_rfl, by kernel_rfl, by kernel_rfl, by kernel_rfl⟩
theorem ado15 : adOps[15]? = some (adO 15) ∧ (adO 15).op = .store 30 (.tmp 6) (.tmp 37) ∧ (adO 15).dst = none ∧ (adO 15).guard = none := ⟨by kernel_rfl, by kernel_rfl, by kernel_rfl, by kernel_rfl⟩
theorem ado16 : adOps[16]? = some (adO 16) ∧ (adO 16).op = .assign (.const (.bool true)) ∧ (adO 16).dst = some 7 ∧ (adO 16).guard = none := ⟨by kernel_rfl, by kernel_rfl, by kernel_rfl, by kernel_rfl⟩
section
variable {Q : Exit → Act → World → Prop} {K : Act → World → Prop} {w : World} {e : Nat → Value} {v7 v23 v26 v28 v29 v30 v33 v35 v36 v37 : Value}
theorem ad0 (h : K (adF e v7 (.slice (some ⟨w.heap.size, 0, none⟩) 0 0) v26 v28 v29 v30 v33 v35 v36 v37) (w.alloc (.cells #[] 35))) : wpOp Tryd.prog adOps Q 0 K (adF e v7 v23 v26 v28 v29 v30 v33 v35 v36 v37) w := by
  obtain ⟨h1, h2, h3, h4⟩ := ado0
  refine wpOp_of h1 h4 ?_
  generalize adO 0 = o at *
  obtain ⟨d, op, ty, pos, aft, g⟩ := o
  simp only at h2 h3 h4
  subst h2 h3 h4
  clear h1
  unfold Oper.wp
  revert h
  unfold adF
  intro h
  go_simp
  exact h
theorem ad5 {x : PodV} (he : e 27 = x.val) (h : K (adF e v7 v23 v26 (.slice (some ⟨w.heap.size, 0, none⟩) 1 1) v29 v30 v33 v35 v36 v37) (w.alloc (.cells #[.int .i64 x.k, .int .i64 x.p, .bool x.f, .int .i64 x.g, .slice x.A x.m x.c, .int .i64 x.a, .int .i64 x.h, .int .i64 x.d, .int .i64 x.t] 35))) : wpOp Tryd.prog adOps Q 5 K (adF e v7 v23 v26 v28 v29 v30 v33 v35 v36 v37) w := by
  obtain ⟨h1, h2, h3, h4⟩ := ado5
  refine wpOp_of h1 h4 ?_
  generalize adO 5 = o at *
  obtain ⟨d, op, ty, pos, aft, g⟩ := o
  simp only at h2 h3 h4
  subst h2 h3 h4
  clear h1
  unfold Oper.wp
  unfold PodV.val at he
  revert h
  unfold adF
  intro h
  rw [he] at h
  go_simp
  exact h
theorem ad7 (h : K (adF e v7 v23 v26 v28 v29 (.slice (some ⟨w.heap.size, 0, none⟩) 0 0) v33 v35 v36 v37) (w.alloc (.cells #[] 3))) : wpOp Tryd.prog adOps Q 7 K (adF e v7 v23 v26 v28 v29 v30 v33 v35 v36 v37) w := by
  obtain ⟨h1, h2, h3, h4⟩ := ado7
  refine wpOp_of h1 h4 ?_
  generalize adO 7 = o at *
  obtain ⟨d, op, ty, pos, aft, g⟩ := o
  simp only at h2 h3 h4
  subst h2 h3 h4
  clear h1
  unfold Oper.wp
  revert h
  unfold adF
  intro h
  go_simp
  exact h
theorem ad12 {r : Int} (he : e 34 = .int .i64 r) (h : K (adF e v7 v23 v26 v28 v29 v30 v33 (.slice (some ⟨w.heap.size, 0, none⟩) 1 1) v36 v37) (w.alloc (.cells #[.int .i64 r] 3))) : wpOp Tryd.prog adOps Q 12 K (adF e v7 v23 v26 v28 v29 v30 v33 v35 v36 v37) w := by
  obtain ⟨h1, h2, h3, h4⟩ := ado12
  refine wpOp_of h1 h4 ?_
  generalize adO 12 = o at *
  obtain ⟨d, op, ty, pos, aft, g⟩ := o
  simp only at h2 h3 h4
  subst h2 h3 h4
  clear h1
  unfold Oper.wp
  revert h
  unfold adF
  intro h
  rw [he] at h
  go_simp
  exact h
theorem ad3 {base n : Nat} {P : Nat → PodV} (hown : w.ownsRow base 35 9 v23 0 []) (hsrc : SrcP w (e 25) n (podCs P n)) (hn : n ≤ 1000) (hb : base ≤ w.heap.size)
    (h : ∀ v' w', w'.ownsRow base 35 9 v' n (podCs P n) → w.grownBy w' v23.ownBlock → K (adF e v7 v23 v' v28 v29 v30 v33 v35 v36 v37) w') : wpOp Tryd.prog adOps Q 3 K (adF e v7 v23 v26 v28 v29 v30 v33 v35 v36 v37) w := by
  obtain ⟨h1, h2, h3, h4⟩ := ado3
  refine wpOp_of h1 h4 ?_
  generalize adO 3 = o at *
  obtain ⟨d, op, ty, pos, aft, g⟩ := o
  simp only at h2 h3 h4
  subst h2 h3 h4
  clear h1
  refine wp_ownP (.tmp 23) (.tmp 25) rfl base v23 0 [] rfl hown (e 25) n (podCs P n) rfl hsrc (podCs_one P n) (by omega) hb fun v' w' h5 h6 => ?_
  rw [List.nil_append, Nat.zero_add] at h5
  exact h v' w' h5 h6
theorem ad6 {base n : Nat} {P : Nat → PodV} {x : PodV} (hown : w.ownsRow base 35 9 v26 n (podCs P n)) (hsrc : SrcP w v28 1 x.cells) (hn : n ≤ 1000) (hb : base ≤ w.heap.size)
    (h : ∀ v' w', w'.ownsRow base 35 9 v' (n + 1) (podCs (put P n x) (n + 1)) → w.grownBy w' v26.ownBlock → K (adF e v7 v23 v26 v28 v' v30 v33 v35 v36 v37) w') : wpOp Tryd.prog adOps Q 6 K (adF e v7 v23 v26 v28 v29 v30 v33 v35 v36 v37) w := by
  obtain ⟨h1, h2, h3, h4⟩ := ado6
  refine wpOp_of h1 h4 ?_
  generalize adO 6 = o at *
  obtain ⟨d, op, ty, pos, aft, g⟩ := o
  simp only at h2 h3 h4
  subst h2 h3 h4
  clear h1
  refine wp_ownP (.tmp 26) (.tmp 28) rfl base v26 n (podCs P n) rfl hown v28 1 x.cells rfl hsrc (cells_one x) (by omega) hb fun v' w' h5 h6 => ?_
  rw [← podCs_put] at h5
  exact h v' w' h5 h6
theorem ad10 {base n : Nat} {Z : Nat → Int} (hown : w.ownsRow base 3 1 v30 0 []) (hsrc : SrcN w (e 32) n Z) (hn : n ≤ 1000) (hb : base ≤ w.heap.size)
    (h : ∀ v' w', w'.ownsRow base 3 1 v' n (rowL n Z) → w.grownBy w' v30.ownBlock → K (adF e v7 v23 v26 v28 v29 v30 v' v35 v36 v37) w') : wpOp Tryd.prog adOps Q 10 K (adF e v7 v23 v26 v28 v29 v30 v33 v35 v36 v37) w := by
  obtain ⟨h1, h2, h3, h4⟩ := ado10
  refine wpOp_of h1 h4 ?_
  generalize adO 10 = o at *
  obtain ⟨d, op, ty, pos, aft, g⟩ := o
  simp only at h2 h3 h4
  subst h2 h3 h4
  clear h1
  refine wp_ownN (.tmp 30) (.tmp 32) rfl base v30 0 (fun _ => 0) rfl hown (e 32) n Z rfl hsrc (by omega) hb fun v' w' h5 h6 => ?_
  rw [Nat.zero_add] at h5
  exact h v' w' h5 h6
theorem ad13 {base n : Nat} {Z : Nat → Int} {r : Int} (hown : w.ownsRow base 3 1 v33 n (rowL n Z)) (hsrc : SrcN w v35 1 fun _ => r) (hn : n ≤ 1000) (hb : base ≤ w.heap.size)
    (h : ∀ v' w', w'.ownsRow base 3 1 v' (n + 1) (rowL (n + 1) (putZ Z n r)) → w.grownBy w' v33.ownBlock → K (adF e v7 v23 v26 v28 v29 v30 v33 v35 v' v37) w') : wpOp Tryd.prog adOps Q 13 K (adF e v7 v23 v26 v28 v29 v30 v33 v35 v36 v37) w := by
  obtain ⟨h1, h2, h3, h4⟩ := ado13
  refine wpOp_of h1 h4 ?_
  generalize adO 13 = o at *
  obtain ⟨d, op, ty, pos, aft, g⟩ := o
  simp only at h2 h3 h4
  subst h2 h3 h4
  clear h1
  refine wp_ownN (.tmp 33) (.tmp 35) rfl base v33 n Z rfl hown v35 1 (fun _ => r) rfl hsrc (by omega) hb fun v' w' h5 h6 => ?_
  rw [rowL_put] at h5
  exact h v' w' h5 h6
theorem ad14 {B B2 : Option Addr} {n d d2 : Nat} (e1 : v29 = .slice B n d) (e2 : v36 = .slice B2 n d2) (h : K (adF e v7 v23 v26 v28 v29 v30 v33 v35 v36 (.agg #[.slice B n d, .slice B2 n d2])) w) : wpOp Tryd.prog adOps Q 14 K (adF e v7 v23 v26 v28 v29 v30 v33 v35 v36 v37) w := by
  obtain ⟨h1, h2, h3, h4⟩ := ado14
  refine wpOp_of h1 h4 ?_
  generalize adO 14 = o at *
  obtain ⟨d, op, ty, pos, aft, g⟩ := o
  simp only at h2 h3 h4
  subst h2 h3 h4
  clear h1
  subst e1 e2
  unfold Oper.wp
  revert h
  unfold adF
  intro h
  go_simp
  exact h
theorem ad15 {s : Nat} {B B2 : Option Addr} {n d d2 : Nat} (e1 : v37 = .agg #[.slice B n d, .slice B2 n d2]) (he : e 6 = .pointer (some ⟨s, 0, none⟩)) (hs : w.heap[s]? = some (.cells #[.slice none 0 0, .slice none 0 0] 30 (0, 0)))
    (h : K (adF e v7 v23 v26 v28 v29 v30 v33 v35 v36 v37) ((w.setCell ⟨s, 0, none⟩ (.slice B n d)).setCell ⟨s, 1, none⟩ (.slice B2 n d2))) : wpOp Tryd.prog adOps Q 15 K (adF e v7 v23 v26 v28 v29 v30 v33 v35 v36 v37) w := by
  obtain ⟨h1, h2, h3, h4⟩ := ado15
  refine wpOp_of h1 h4 ?_
  generalize adO 15 = o at *
  obtain ⟨d, op, ty, pos, aft, g⟩ := o
  simp only at h2 h3 h4
  subst h2 h3 h4
  clear h1
  subst e1
  have c0 : w.cell? ⟨s, 0, none⟩ = some (.slice none 0 0) := by rw [cell_of_row w _ _ _ _ _ hs]; rfl
  have c1 : w.cell? ⟨s, 1, none⟩ = some (.slice none 0 0) := by rw [cell_of_row w _ _ _ _ _ hs]; rfl
  have f0 : w.frozen? ⟨s, 0, none⟩ = false := frozen_of_row w _ _ _ _ hs
  have f1 : w.frozen? ⟨s, 1, none⟩ = false := frozen_of_row w _ _ _ _ hs
  clear hs
  unfold Oper.wp
  revert h
  unfold adF
  intro h
  rw [he] at h
  go_simp
  exact h
theorem ad16 (h : K (adF e (.bool true) v23 v26 v28 v29 v30 v33 v35 v36 v37) w) : wpOp Tryd.prog adOps Q 16 K (adF e v7 v23 v26 v28 v29 v30 v33 v35 v36 v37) w := by
  obtain ⟨h1, h2, h3, h4⟩ := ado16
  refine wpOp_of h1 h4 ?_
  generalize adO 16 = o at *
  obtain ⟨d, op, ty, pos, aft, g⟩ := o
  simp only at h2 h3 h4
  subst h2 h3 h4
  clear h1
  unfold Oper.wp
  revert h
  unfold adF
  intro h
  go_simp
  exact h
end
end Go.Proofs.YtpkpmoiekjhdnaaDoor
