/-
  Rows of ints of the call's own. No condition.
-/
import Derived.Test.YtpkpmoiekjhdnaaDoorFr8
import Derived.Test.YtpkpmoiekjhdnaaDoorAny8
namespace Go.Proofs.YtpkpmoiekjhdnaaDoor
open Go.RowKit Go.Sort Go.Lib Go.Shelf

theorem Tryd.infoInt : (Tryd.prog.info? 3).map (fun i => (i.zero, i.size, i.bytes)) = some (some (.int .i64 0), 1, 8) := by kernel_rfl
theorem ints_at (b off n cp j : Nat) (hj : j < n) (W : World) : (Instr.indexAt 28 (.slice (some ⟨b, off, none⟩) n cp) (.int .i64 j)).run Tryd.prog W = .ok (.pointer (some ⟨b, off + j, none⟩)) W := by
  go_simp
/-- What is appended: nothing at all, or numbers. -/
def SrcN (w : World) (X : Value) (m : Nat) (Z : Nat → Int) : Prop :=
  (X = .slice none 0 0 ∧ m = 0) ∨ ∃ ad c, X = .slice (some ad) m c ∧ ∀ j u, (rowL m Z)[j]? = some u → w.cell? (ad.add j) = some u
theorem srcN_rd {w : World} {A : Option Addr} {n c : Nat} {Z : Nat → Int} (h : Rd w A n Z) (h0 : A = none → n = 0 ∧ c = 0) : SrcN w (.slice A n c) n Z := by
  cases A with
  | none =>
    obtain ⟨rfl, rfl⟩ := h0 rfl
    exact .inl ⟨rfl, rfl⟩
  | some a => exact .inr ⟨a, c, rfl, news_of h⟩
theorem srcN_one {w : World} {k : Nat} {z : Int} (h : w.heap[k]? = some (.cells #[.int .i64 z] 3 (0, 0))) : SrcN w (.slice (some ⟨k, 0, none⟩) 1 1) 1 fun _ => z := by
  refine .inr ⟨_, _, rfl, fun j u hu => ?_⟩
  rw [WideShapes.add_plain, Nat.zero_add, cell_of_row w k j _ _ _ h, List.getElem?_toArray]
  exact hu
theorem ownN_empty {W : World} {base k : Nat} (hb : base ≤ k) (h : W.heap[k]? = some (.cells #[] 3 (0, 0))) : W.ownsRow base 3 1 (.slice (some ⟨k, 0, none⟩) 0 0) 0 [] :=
  ⟨rfl, .inr ⟨k, 0, #[], rfl, hb, h, Nat.le_refl _, Nat.zero_le _, rfl, rfl⟩⟩
def cat (m : Nat) (Z Y : Nat → Int) : Nat → Int := fun j => if j < m then Z j else Y (j - m)
theorem rowL_cat (m k : Nat) (Z Y : Nat → Int) : rowL m Z ++ rowL k Y = rowL (m + k) (cat m Z Y) := by
  refine List.ext_getElem? fun t => ?_
  by_cases h1 : t < m
  · rw [List.getElem?_append_left (by simp [rowL]; exact h1)]
    simp [rowL, cat, h1, show t < m + k by omega]
  · rw [List.getElem?_append_right (by simp [rowL]; omega)]
    by_cases h2 : t < m + k
    · simp [rowL, cat, h1, h2, show t - m < k by omega]
    · rw [List.getElem?_eq_none (by simp [rowL]; omega), List.getElem?_eq_none (by simp [rowL]; omega)]
theorem rowL_congr {n : Nat} {Z Y : Nat → Int} (h : ∀ j, j < n → Z j = Y j) : rowL n Z = rowL n Y := List.map_congr_left fun j hj => by rw [h j (List.mem_range.1 hj)]
def putZ (Z : Nat → Int) (n : Nat) (r : Int) : Nat → Int := fun j => if j = n then r else Z j
theorem putZ_at (Z : Nat → Int) (n : Nat) (r : Int) : putZ Z n r n = r := if_pos rfl
theorem putZ_ne (Z : Nat → Int) (n : Nat) (r : Int) {j : Nat} (h : j ≠ n) : putZ Z n r j = Z j := if_neg h
theorem rowL_put (Z : Nat → Int) (n : Nat) (r : Int) : rowL n Z ++ rowL 1 (fun _ => r) = rowL (n + 1) (putZ Z n r) := by
  rw [rowL_cat]
  refine rowL_congr fun j hj => ?_
  unfold cat putZ
  by_cases h : j < n
  · rw [if_pos h, if_neg (by omega)]
  · rw [if_neg h, if_pos (by omega)]
theorem rdN_own {w : World} {base n cap : Nat} {A : Option Addr} {Z : Nat → Int} (h : w.ownsRow base 3 1 (.slice A n cap) n (rowL n Z)) (hn : n ≤ 9223372036854775807) (hr : ∀ k, k < n → -9223372036854775808 ≤ Z k ∧ Z k ≤ 9223372036854775807) : Rd w A n Z := by
  rcases h.2 with ⟨e, rfl⟩ | ⟨g, cap, cur, e, _⟩
  · exact Rd.nil _ _ _
  · simp only [Value.slice.injEq] at e
    obtain ⟨rfl, _, _⟩ := e
    refine ⟨hn, hr, fun _ => ⟨g, 0, rfl, fun j hj => ?_⟩⟩
    have := h.cells (g := g) rfl j (.int .i64 (Z j)) (by simp [rowL, hj])
    rwa [WideShapes.add_plain] at this

section
variable {o : Oper} {a : Act} {w : World} {K : Act → World → Prop} {Q : Exit → Act → World → Prop}
/-- An append of numbers, as an operation. -/
theorem wp_ownN (s x : Operand) (ho : o.op = .call { callee := .builtin .append, args := #[s, x], argTypes := #[28, 28] })
    (base : Nat) (v : Value) (n : Nat) (Y : Nat → Int) (hs : a.eval s = v) (hown : w.ownsRow base 3 1 v n (rowL n Y)) (X : Value) (m : Nat) (Z : Nat → Int) (hx : a.eval x = X) (hsrc : SrcN w X m Z)
    (hlim : n + m ≤ 1048577) (hbase : base ≤ w.heap.size)
    (h : ∀ v' w', w'.ownsRow base 3 1 v' (n + m) (rowL n Y ++ rowL m Z) → w.grownBy w' v.ownBlock → K (a.put o.dst v') w') :
    Oper.wp Tryd.prog o a w K Q := by
  obtain ⟨i0, hi0, hz0, hz1, hz2⟩ := info_parts Tryd.infoInt
  rcases hsrc with ⟨rfl, rfl⟩ | ⟨ad, c, rfl, hc⟩
  · have hrun := run_append_owned_none (P := Tryd.prog) (w := w) base 28 o.type 3 i0 1 Tryd.underlying28 hi0 v n (rowL n Y) hown
    have hg : w.grownBy w v.ownBlock := ⟨rfl, rfl, rfl, Nat.le_refl _, fun _ _ _ => rfl⟩
    have := h v w (by show w.ownsRow _ _ _ _ _ (_ ++ []); rw [List.append_nil]; exact hown) hg
    unfold Oper.wp
    simp [execOp, ho, resolve, invoke, builtin, hs, hx, hrun, Result.andThen]
    exact this
  · exact wp_append_own (P := Tryd.prog) w s x 28 ho base 3 i0 _ 1 8 Tryd.underlying28 hi0 hz0 hz1 hz2 rfl (by decide) v n (rowL n Y) hs hown ad m c (rowL m Z) hx (by simp [rowL]) hc (rowL_one m Z) (by unfold maxLen; omega) (by omega) hbase fun v' w' h2 h3 _ => h v' w' h2 h3
/-- An append of pods, as an operation. -/
theorem wp_ownP (s x : Operand) (ho : o.op = .call { callee := .builtin .append, args := #[s, x], argTypes := #[27, 27] })
    (base : Nat) (v : Value) (n : Nat) (xs : List Value) (hs : a.eval s = v) (hown : w.ownsRow base 35 9 v n xs) (X : Value) (m : Nat) (news : List Value) (hx : a.eval x = X) (hsrc : SrcP w X m news) (h1 : ∀ u ∈ news, u.oneCell' = true)
    (hlim : n + m ≤ 1048577) (hbase : base ≤ w.heap.size)
    (h : ∀ v' w', w'.ownsRow base 35 9 v' (n + m) (xs ++ news) → w.grownBy w' v.ownBlock → K (a.put o.dst v') w') :
    Oper.wp Tryd.prog o a w K Q := by
  obtain ⟨i0, hi0, hz0, hz1, hz2⟩ := info_parts Tryd.infoPod
  rcases hsrc with ⟨rfl, rfl, rfl⟩ | ⟨ad, c, rfl, hl, hc⟩
  · have hrun := run_append_owned_none (P := Tryd.prog) (w := w) base 27 o.type 35 i0 9 Tryd.underlying27 hi0 v n xs hown
    have hg : w.grownBy w v.ownBlock := ⟨rfl, rfl, rfl, Nat.le_refl _, fun _ _ _ => rfl⟩
    have := h v w (by rw [List.append_nil]; exact hown) hg
    unfold Oper.wp
    simp [execOp, ho, resolve, invoke, builtin, hs, hx, hrun, Result.andThen]
    exact this
  · exact wp_append_own (P := Tryd.prog) w s x 27 ho base 35 i0 _ 9 88 Tryd.underlying27 hi0 hz0 hz1 hz2 rfl (by decide) v n xs hs hown ad m c news hx hl hc h1 (by unfold maxLen; omega) (by omega) hbase fun v' w' h2 h3 _ => h v' w' h2 h3
end
section
variable {ops : Array Oper} {rest : List Oper} {o : Oper} {a : Act} {w : World} {K : Act → World → Prop} {Q : Exit → Act → World → Prop} {E : Prop}
/-- .. at a step of a region that draws. -/
theorem step_ownN (hgd : o.guard = none) (s x : Operand) (ho : o.op = .call { callee := .builtin .append, args := #[s, x], argTypes := #[28, 28] })
    (base : Nat) (v : Value) (n : Nat) (Y : Nat → Int) (hs : a.eval s = v) (hown : w.ownsRow base 3 1 v n (rowL n Y)) (X : Value) (m : Nat) (Z : Nat → Int) (hx : a.eval x = X) (hsrc : SrcN w X m Z)
    (hlim : n + m ≤ 1048577) (hbase : base ≤ w.heap.size)
    (h : ∀ v' w', w'.ownsRow base 3 1 v' (n + m) (rowL n Y ++ rowL m Z) → w.grownBy w' v.ownBlock → K (a.put o.dst v') w') :
    if Region.wanted o (yielded ops a.tmps) = true then Oper.wp Tryd.prog o a w K Q else E := by
  have hw : Region.wanted o (yielded ops a.tmps) = true := by simp [Region.wanted, hgd]
  rw [if_pos hw]
  exact wp_ownN s x ho base v n Y hs hown X m Z hx hsrc hlim hbase h
end
end Go.Proofs.YtpkpmoiekjhdnaaDoor
