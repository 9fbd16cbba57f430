/-
  The walk of ClassApart. Condition: errors.errorType holds its own.
-/
import Derived.Test.YtmbeghngnnpmlaaDoorPodsLaw11
namespace Go.Proofs.YtmbeghngnnpmlaaDoor.T11
open Go.RowKit Go.Sort Go.Lib Go.Shelf

section
variable {ops : Array Oper} {rest : List Oper} {o : Oper} {a : Act} {w : World} {Q : Exit → Act → World → Prop}
/-- An append of a row of amounts to an empty row of the call's own. -/
theorem wpl_amounts (hgd : o.guard = none) (s x : Operand) (ho : o.op = .call { callee := .builtin .append, args := #[s, x], argTypes := #[43, 43] })
    (base : Nat) (v : Value) (hs : a.eval s = v) (hown : w.ownsRow base 2 1 v 0 []) (A : Option Addr) (m c : Nat) (Z : Nat → Int) (hx : a.eval x = .slice A m c) (hr : Rd w A m Z) (h0 : A = none → m = 0 ∧ c = 0)
    (hlim : m ≤ 1048576) (hbase : base ≤ w.heap.size)
    (h : ∀ v' w', w'.ownsRow base 2 1 v' m (rowL m Z) → w.grownBy w' v.ownBlock → wpList Tryd.prog ops Q rest (a.put o.dst v') w') : wpList Tryd.prog ops Q (o :: rest) a w := by
  obtain ⟨i0, hi0, hz0, hz1, hz2⟩ := info_parts Tryd.infoI64
  cases A with
  | none =>
    obtain ⟨rfl, rfl⟩ := h0 rfl
    exact wpList_append_own_none hgd s x 43 ho base 2 i0 1 Tryd.underlying43 hi0 v 0 [] hs hown hx (h v w hown ⟨rfl, rfl, rfl, Nat.le_refl _, fun _ _ _ => rfl⟩)
  | some ad =>
    refine wpList_append_own (P := Tryd.prog) w hgd s x 43 ho base 2 i0 _ 1 8 Tryd.underlying43 hi0 hz0 hz1 hz2 rfl (by decide) v 0 [] hs hown ad m c (rowL m Z) hx (by simp [rowL]) (news_of hr) (rowL_one m Z) (by unfold maxLen; omega) (by omega) hbase fun v' w' h2 h3 _ => h v' w' ?_ h3
    rw [Nat.zero_add, List.nil_append] at h2
    exact h2
end
theorem six_cells {w : World} {s : Nat} {x : OpW} {T : TypeId} (h : w.heap[s]? = some (.cells #[.int .i64 x.k, .int .i64 x.i, .int .i64 x.x, .int .i64 x.n, .bool x.f, .slice x.A x.m x.c] T (0, 0))) :
    w.cell? ⟨s, 0, none⟩ = some (.int .i64 x.k) ∧ w.cell? ⟨s, 1, none⟩ = some (.int .i64 x.i) ∧ w.cell? ⟨s, 2, none⟩ = some (.int .i64 x.x) ∧ w.cell? ⟨s, 3, none⟩ = some (.int .i64 x.n) ∧ w.cell? ⟨s, 4, none⟩ = some (.bool x.f) ∧ w.cell? ⟨s, 5, none⟩ = some (.slice x.A x.m x.c) ∧ w.frozen? ⟨s, 5, none⟩ = false := by
  refine ⟨?_, ?_, ?_, ?_, ?_, ?_, frozen_of_row w s 5 _ _ h⟩ <;> rw [cell_of_row w s _ _ _ _ h] <;> rfl
theorem six_set {w : World} {s : Nat} {a0 a1 a2 a3 a4 a5 u : Value} {T : TypeId} (h : w.heap[s]? = some (.cells #[a0, a1, a2, a3, a4, a5] T (0, 0))) :
    (w.setCell ⟨s, 5, none⟩ u).heap[s]? = some (.cells #[a0, a1, a2, a3, a4, u] T (0, 0)) := by
  have hlt := lt_of_block h
  have h' : w.heap[s] = .cells #[a0, a1, a2, a3, a4, a5] T (0, 0) := by simpa [Array.getElem?_eq_getElem hlt] using h
  show (w.heap.modify s _)[s]? = _
  rw [Array.getElem?_eq_getElem (by simpa using hlt), Array.getElem_modify_self, h']
  rfl
/-- A row lies apart from a block of another type. -/
theorem row_ne {w : World} {b n z k : Nat} {e1 e2 : TypeId} {v : Value} {xs : List Value} {cs : Array Value} {fl : Nat × Nat} (h : w.ownsRow b e1 z v n xs) (hb : w.heap[k]? = some (.cells cs e2 fl)) (he : e1 ≠ e2) : ∀ g, v.ownBlock = some g → g ≠ k := by
  intro g hg e
  subst e
  rcases h.2 with ⟨rfl, _⟩ | ⟨g1, c1, u1, rfl, _, k1, _⟩
  · simp [Value.ownBlock] at hg
  · simp [Value.ownBlock] at hg
    subst hg
    rw [hb] at k1
    simp at k1
    exact he k1.2.1.symm
theorem own_none {W : World} {base k : Nat} {e : TypeId} (hb : base ≤ k) (h : W.heap[k]? = some (.cells #[] e (0, 0))) : W.ownsRow base e 1 (.slice (some ⟨k, 0, none⟩) 0 0) 0 [] :=
  ⟨rfl, .inr ⟨k, 0, #[], rfl, hb, h, Nat.le_refl _, Nat.zero_le _, rfl, rfl⟩⟩
theorem atL (b off n cp j : Nat) (hj : j < n) (W : World) : (Instr.indexAt 43 (.slice (some ⟨b, off, none⟩) n cp) (.int .i64 j)).run Tryd.prog W = .ok (.pointer (some ⟨b, off + j, none⟩)) W := by
  go_simp
/-- A row whose cells hold numbers, and may be written. -/
structure Wr (w : World) (A : Option Addr) (n : Nat) (g : Nat) : Prop where
  adr : 0 < n → A = some ⟨g, 0, none⟩
  cell : ∀ j, j < n → ∃ z, I64 z ∧ w.cell? ⟨g, j, none⟩ = some (.int .i64 z)
  free : 0 < n → ∀ j, w.frozen? ⟨g, j, none⟩ = false
theorem Wr.store {w : World} {A : Option Addr} {n g : Nat} (h : Wr w A n g) {i : Nat} (_ : i < n) (z : Int) (hz : I64 z) : Wr (w.setCell ⟨g, i, none⟩ (.int .i64 z)) A n g :=
  ⟨h.adr, fun j hj => by
    by_cases e : j = i
    · subst e
      obtain ⟨y, _, hy⟩ := h.cell j hj
      exact ⟨z, hz, World.cell?_setCell_same _ _ _ hy⟩
    · obtain ⟨y, hyr, hy⟩ := h.cell j hj
      exact ⟨y, hyr, by rw [World.cell?_setCell_other (a := ⟨g, i, none⟩) (b := ⟨g, j, none⟩) (h := by simp only [ne_eq, Addr.mk.injEq, not_and]; intro _ e2; exact absurd e2.symm e)]; exact hy⟩, fun hn j => by rw [World.frozen?_setCell]; exact h.free hn j⟩
theorem wr_of {w : World} {base n : Nat} {A : Option Addr} {d : Nat} {Z : Nat → Int} (h : w.ownsRow base 2 1 (.slice A n d) n (rowL n Z)) (ho : ∀ j, j < n → I64 (Z j)) : ∃ g, Wr w A n g ∧ (0 < n → base ≤ g ∧ g < w.heap.size) := by
  by_cases hn : 0 < n
  · obtain ⟨g, cap, e, h2, _⟩ := h.form hn
    have e' := e
    simp only [Value.slice.injEq] at e'
    obtain ⟨rfl, _, rfl⟩ := e'
    refine ⟨g, ⟨fun _ => rfl, fun j hj => ⟨_, ho j hj, ?_⟩, fun _ j => h.frozenAt j⟩, fun _ => h.lt _ rfl⟩
    rw [h.cellAt j (by omega)]
    simp [rowL, hj]
  · exact ⟨0, ⟨fun h => absurd h hn, fun j hj => absurd hj (by omega), fun h => absurd h hn⟩, fun h => absurd h hn⟩
theorem Wr.keep {w w' : World} {A : Option Addr} {n g : Nat} (h : Wr w A n g) (k : Keep w w') : Wr w' A n g :=
  ⟨h.adr, fun j hj => by obtain ⟨z, r, c⟩ := h.cell j hj; exact ⟨z, r, k.cell c⟩, fun hn j => by
    obtain ⟨z, r, c⟩ := h.cell 0 hn
    have hl := cell_lt c
    rw [Below.frozen k (p := ⟨g, j, none⟩) hl]
    exact h.free hn j⟩
/-- A row of classes whose priorities are Y, and may be written. -/
structure Wc (w : World) (A : Option Addr) (n : Nat) (g : Nat) (Y : Nat → Int) : Prop where
  adr : 0 < n → A = some ⟨g, 0, none⟩
  cell : ∀ j, j < n → w.cell? ⟨g, j * 3 + 1, none⟩ = some (.int .i64 (Y j))
  free : 0 < n → ∀ j, w.frozen? ⟨g, j, none⟩ = false
theorem Wc.store {w : World} {A : Option Addr} {n g : Nat} {Y : Nat → Int} (h : Wc w A n g Y) {i : Nat} (_ : i < n) (z : Int) : Wc (w.setCell ⟨g, i * 3 + 1, none⟩ (.int .i64 z)) A n g (fun j => if j = i then z else Y j) :=
  ⟨h.adr, fun j hj => by
    by_cases e : j = i
    · subst e
      rw [if_pos rfl]
      exact World.cell?_setCell_same _ _ _ (h.cell j hj)
    · rw [if_neg e, World.cell?_setCell_other (a := ⟨g, i * 3 + 1, none⟩) (b := ⟨g, j * 3 + 1, none⟩) (h := by simp only [ne_eq, Addr.mk.injEq, not_and]; intro _ e2; omega)]
      exact h.cell j hj, fun hn j => by rw [World.frozen?_setCell]; exact h.free hn j⟩
theorem Wc.keep {w w' : World} {A : Option Addr} {n g : Nat} {Y : Nat → Int} (h : Wc w A n g Y) (k : Keep w w') : Wc w' A n g Y :=
  ⟨h.adr, fun j hj => k.cell (h.cell j hj), fun hn j => by
    have hl := cell_lt (h.cell 0 hn)
    rw [Below.frozen k (p := ⟨g, j, none⟩) hl]
    exact h.free hn j⟩
theorem Wc.congr {w : World} {A : Option Addr} {n g : Nat} {Y X : Nat → Int} (h : Wc w A n g Y) (e : ∀ j, j < n → Y j = X j) : Wc w A n g X := ⟨h.adr, fun j hj => by rw [← e j hj]; exact h.cell j hj, h.free⟩
theorem wc_of {w : World} {base n : Nat} {A : Option Addr} {d : Nat} {P : Nat → ClV} (h : w.ownsRow base 30 3 (.slice A n d) n (clCs P n)) : ∃ g, Wc w A n g (fun j => (P j).p) ∧ (0 < n → base ≤ g ∧ g < w.heap.size) := by
  by_cases hn : 0 < n
  · obtain ⟨g, cap, e, h2, _⟩ := h.form hn
    have e' := e
    simp only [Value.slice.injEq] at e'
    obtain ⟨rfl, _, rfl⟩ := e'
    refine ⟨g, ⟨fun _ => rfl, fun j hj => ?_, fun _ j => h.frozenAt j⟩, fun _ => h.lt _ rfl⟩
    have := (row_cel h hj).e1
    rwa [Nat.zero_add] at this
  · exact ⟨0, ⟨fun h => absurd h hn, fun j hj => absurd hj (by omega), fun h => absurd h hn⟩, fun h => absurd h hn⟩
section
variable {w : World} {s : Int} {q p m : Nat} {L : List ClV}
theorem pod_any (h : SI w s q p m L) (o : OpW) (a : Int) (ho : OpIs w o) (hm : o.m ≤ 1048576) : Calls Tryd.prog 19 #[.pointer (some ⟨q, 0, none⟩), o.val, .int .i64 a] w fun e w' => ∃ (x : PodV) (ev : Value), e = .returned (.tuple #[x.val, ev]) ∧ Keep w w' ∧ w'.ownsRow w.heap.size 2 1 (.slice x.A x.m x.c) x.m (rowL x.m x.Z) ∧ x.m ≤ o.m ∧ ∀ k, k < x.m → I64 (x.Z k) := by
  by_cases hk : o.x ∈ keys L
  · exact (cspod_ok h o a hk ho hm).mono fun e w' ⟨A, d, he, k, O⟩ => ⟨podV (getL L o.x) o a A d, .nilIface, he, k, O, Nat.le_refl _, ho.rd.range⟩
  · exact (cspod_none h o a hk).mono fun e w' ⟨he, k⟩ => ⟨zpod, flt 5 1, he, k, World.ownsRow_nil _ _ _ _, Nat.zero_le _, fun j hj => absurd hj (Nat.not_lt_zero _)⟩
end
set_option maxRecDepth 100000 in
set_option maxHeartbeats 16000000 in
theorem apart_walk (A : Option Addr) (n c : Nat) (P : Nat → ClV) (o : OpW) (w : World) (hR : RdC w A n P) (ho : OpIs w o) (hv : ErrT w) : Calls Tryd.prog 5 #[.slice A n c, o.val] w fun e w' => e = .returned (.bool true) ∧ Keep w w' := by
  have mixed : Tryd.prog.follows .mixedOrders = true := by kernel_rfl
  have hs := hR.small
  obtain ⟨fb, hfb⟩ := few_or P n
  have cF : Hid (∀ W, Keep w W → Calls Tryd.prog 9 #[.slice A n c] W fun e w' => e = .returned (.bool fb) ∧ W = w') := fun W k => rfew_fn A n c P W (hR.keep k) fb hfb
  replace hfb := Lib.hid hfb
  replace hv := Lib.hid hv
  replace hR := Lib.hid hR
  replace ho := Lib.hid ho
  obtain ⟨W0, hW0⟩ : ∃ W, W = w.alloc (.cells #[.int .i64 o.k, .int .i64 o.i, .int .i64 o.x, .int .i64 o.n, .bool o.f, .slice o.A o.m o.c] 45) := ⟨_, rfl⟩
  have K0 : Hid (Keep w W0) := by rw [hW0]; exact Keep.one _ _
  have O0 : Hid (W0.heap[w.heap.size]? = some (.cells #[.int .i64 o.k, .int .i64 o.i, .int .i64 o.x, .int .i64 o.n, .bool o.f, .slice o.A o.m o.c] 45 (0, 0))) := by rw [hW0]; exact heap_alloc_new _ _
  unfold OpW.val
  go_enter Tryd.func5, Tryd.ntmps5
  go_wp2_with fail
  rw [← hW0]
  replace hW0 := Lib.hid hW0
  refine (csnew_fn 100 (by unfold I64; omega) _).mono ?_
  rintro e w1 ⟨q, rfl, p, m, T1, k1, lq, lp, lm⟩
  rw [if_pos (by decide)] at T1
  have O1 : Hid (w1.heap[w.heap.size]? = some (.cells #[.int .i64 o.k, .int .i64 o.i, .int .i64 o.x, .int .i64 o.n, .bool o.f, .slice o.A o.m o.c] 45 (0, 0))) := k1.block O0.out
  have olt : Hid (w.heap.size < W0.heap.size) := lt_of_block O0.out
  have K1 : Hid (Keep w w1) := K0.out.trans k1
  have mlo : Hid (w.heap.size ≤ m ∧ ¬ w.heap.size = m) := ⟨by have := olt.out; omega, by have := olt.out; omega⟩
  replace T1 := Lib.hid T1
  replace k1 := Lib.hid k1
  replace lm := Lib.hid lm
  replace lp := Lib.hid lp
  replace lq := Lib.hid lq
  obtain ⟨ob, hob⟩ : ∃ ob, ob = w.heap.size := ⟨_, rfl⟩
  rw [← hob] at O1 mlo ⊢
  have mlo2 : Hid (w.heap.size ≤ m) := by rw [← hob]; exact mlo.out.1
  replace hob := Lib.hid hob
  go_wp2_with fail
  refine (csnew_fn 100 (by unfold I64; omega) _).mono ?_
  rintro e w1' ⟨q2, rfl, p2, m2, U1, k1', lq2, lp2, lm2⟩
  rw [if_pos (by decide)] at U1
  have n1 : Hid (¬ q2 = m ∧ ¬ p2 = m ∧ ¬ m2 = m) := by have := T1.out.t.mlt; exact ⟨by omega, by omega, by omega⟩
  have T1' : Hid (SI w1' 100 q p m []) := T1.out.keep k1'
  have O1' : Hid (w1'.heap[ob]? = some (.cells #[.int .i64 o.k, .int .i64 o.i, .int .i64 o.x, .int .i64 o.n, .bool o.f, .slice o.A o.m o.c] 45 (0, 0))) := k1'.block O1.out
  have K1' : Hid (Keep w w1') := K1.out.trans k1'
  replace U1 := Lib.hid U1
  replace k1' := Lib.hid k1'
  replace lm2 := Lib.hid lm2
  replace lp2 := Lib.hid lp2
  replace lq2 := Lib.hid lq2
  clear T1 O1 K1
  have aw1 := Lib.hid (awake_true w1' (hv.out.keep K1'.out))
  go_wp2_with fail
  refine aw1.out.mono ?_
  rintro e w2 ⟨rfl, k2⟩
  have K2 := Lib.hid (K1'.out.trans k2)
  have T2 := Lib.hid (T1'.out.keep k2)
  have U2 := Lib.hid (U1.out.keep k2)
  have O2 : Hid (w2.heap[ob]? = some (.cells #[.int .i64 o.k, .int .i64 o.i, .int .i64 o.x, .int .i64 o.n, .bool o.f, .slice o.A o.m o.c] 45 (0, 0))) := k2.block O1'.out
  replace k2 := Lib.hid k2
  clear aw1
  go_wp2_with fail
  refine (cF.out w2 K2.out).mono ?_
  rintro e w2' ⟨rfl, rfl⟩
  have o5 : w2.cell? ⟨ob, 5, none⟩ = some (.slice o.A o.m o.c) := by rw [cell_of_row w2 _ _ _ _ _ O2.out]; rfl
  by_cases hgo : fb = true ∧ o.m ≤ 20
  rotate_left
  · have aw2 := Lib.hid (awake_true w2 (hv.out.keep K2.out))
    by_cases hf : fb = true
    · subst hf
      have h20n : ¬ o.m ≤ 20 := fun h => hgo ⟨rfl, h⟩
      have h20 : decide ((20 : Int) < (o.m : Int)) = true := decide_eq_true (by omega)
      have h20' : (20 : Int) < (o.m : Int) := by omega
      replace hgo := Lib.hid hgo
      replace h20n := Lib.hid h20n
      go_wp2_with fail
      refine aw2.out.mono ?_
      rintro e w4 ⟨rfl, k4⟩
      go_wp2
      go_ret
      exact ⟨rfl, K2.out.trans k4⟩
    · have hf' : fb = false := by simpa using hf
      subst hf'
      replace hgo := Lib.hid hgo
      clear hf
      go_wp2_with fail
      refine aw2.out.mono ?_
      rintro e w4 ⟨rfl, k4⟩
      go_wp2
      go_ret
      exact ⟨rfl, K2.out.trans k4⟩
  obtain ⟨hfb1, h20⟩ := hgo
  subst hfb1
  have h20' : ¬ (20 : Int) < (o.m : Int) := by omega
  have h20d : decide ((20 : Int) < (o.m : Int)) = false := decide_eq_false h20'
  replace h20 := Lib.hid h20
  have hf := hfb.out.1 rfl
  have hn := hf.1
  replace hf := Lib.hid hf
  go_wp2
  go_loopg [7] n (fun gx s7 wr => ∃ (i : Nat) (L : List ClV), i ≤ n ∧ gx = n - i ∧ s7 = .int .i64 i ∧ L.length ≤ i ∧ Hid (Keep w wr) ∧ Hid (SI wr 100 q p m L) ∧ Hid (SI wr 100 q2 p2 m2 []) ∧ Hid (wr.heap[ob]? = some (.cells #[.int .i64 o.k, .int .i64 o.i, .int .i64 o.x, .int .i64 o.n, .bool o.f, .slice o.A o.m o.c] 45 (0, 0))))
  case atStart => exact ⟨0, [], Nat.zero_le _, rfl, rfl, Nat.le_refl _, K2, T2, U2, O2⟩
  case round =>
    clear T1' T2 K2 k1 k2 O2 o5 h20' h20d U1 U2 O1' K1'
    obtain ⟨i, L, hi, rfl, rfl, hLi, KR, TR, UR, OR⟩ := hrel
    by_cases hlt : i < n
    · obtain ⟨b, off, hA, ca⟩ := (hR.out.keep KR.out).adr (by omega)
      subst hA
      have q1 := atC b off n c i hlt
      have X := ca i hlt
      have ox := hR.out.ok i hlt
      clear ca
      obtain ⟨x, hx⟩ : ∃ x, x = P i := ⟨_, rfl⟩
      rw [← hx] at X ox
      replace hx := Lib.hid hx
      have hol := add_len L 100 x
      have cT := csadd_fn TR.out x ox (hv.out.keep KR.out)
      obtain ⟨M, hM⟩ : ∃ M, M = addL L 100 x := ⟨_, rfl⟩
      obtain ⟨fv, hfv⟩ : ∃ fv, fv = fltC (addC L 100 x) := ⟨_, rfl⟩
      rw [← hM, ← hfv] at cT
      rw [← hM] at hol
      replace hM := Lib.hid hM
      replace hfv := Lib.hid hfv
      unfold ClV.val at cT
      replace cT := Lib.hid cT
      have x0 := X.e0; have x1 := X.e1; have x2 := X.e2
      replace X := Lib.hid X
      replace ox := Lib.hid ox
      go_wp2_with fail
      refine cT.out.mono ?_
      rintro e w4 ⟨rfl, T4, F4⟩
      have K4 : Hid (Keep w w4) := F4.low KR.out (by rintro i rfl; exact mlo2.out)
      have U4 : Hid (SI w4 100 q2 p2 m2 []) := UR.out.fr F4 n1.out.1 n1.out.2.1 n1.out.2.2
      have O4 : Hid (w4.heap[ob]? = some (.cells #[.int .i64 o.k, .int .i64 o.i, .int .i64 o.x, .int .i64 o.n, .bool o.f, .slice o.A o.m o.c] 45 (0, 0))) := (F4.block _ (lt_of_block OR.out) mlo.out.2).trans OR.out
      replace F4 := Lib.hid F4
      replace T4 := Lib.hid T4
      clear cT x0 x1 x2
      go_wp2
      go_roundg (n - (i + 1))
      case measure => omega
      case rel => exact ⟨i + 1, M, hlt, rfl, by go_num, by omega, K4, T4, U4, O4⟩
    · have hin : ¬ (i : Int) < (n : Int) := by omega
      obtain ⟨wo, hwo⟩ : ∃ wo, wo = wr := ⟨_, rfl⟩
      rw [← hwo] at TR UR KR OR ⊢
      clear hwo
      have hl100 : L.length ≤ 100 := by omega
      replace hl100 := Lib.hid hl100
      have a0 : wo.cell? ⟨ob, 0, none⟩ = some (.int .i64 o.k) := by rw [cell_of_row wo _ _ _ _ _ OR.out]; rfl
      have a1 : wo.cell? ⟨ob, 1, none⟩ = some (.int .i64 o.i) := by rw [cell_of_row wo _ _ _ _ _ OR.out]; rfl
      have a2 : wo.cell? ⟨ob, 2, none⟩ = some (.int .i64 o.x) := by rw [cell_of_row wo _ _ _ _ _ OR.out]; rfl
      have a3 : wo.cell? ⟨ob, 3, none⟩ = some (.int .i64 o.n) := by rw [cell_of_row wo _ _ _ _ _ OR.out]; rfl
      have a4 : wo.cell? ⟨ob, 4, none⟩ = some (.bool o.f) := by rw [cell_of_row wo _ _ _ _ _ OR.out]; rfl
      have a5 : wo.cell? ⟨ob, 5, none⟩ = some (.slice o.A o.m o.c) := by rw [cell_of_row wo _ _ _ _ _ OR.out]; rfl
      have hbl := cell_lt a5
      have rdo := Lib.hid (ho.out.rd.keep KR.out)
      obtain ⟨nb, hnb⟩ : ∃ nb, nb = wo.heap.size := ⟨_, rfl⟩
      have hnb1 := Lib.hid hnb
      clear hnb
      go_wp2_with (at_builtin; refine wpl_amounts rfl _ _ rfl wo.heap.size (.slice (some ⟨wo.heap.size + 1, 0, none⟩) 0 0) (by simp [Act.eval]) (own_none (by omega) (hp2 _ _ _ _)) o.A o.m o.c o.Z (by simp [Act.eval]) (rdo.out.keep ((Keep.one _ _).alloc _)) ho.out.nil (by have := h20.out; omega) (by simp; omega) ?_; intro v6 w6 hr6 hg6; have N6 : w6.heap[wo.heap.size]? = some (.cells #[.int .i64 o.k, .int .i64 o.i, .int .i64 o.x, .int .i64 o.n, .bool o.f, .slice o.A o.m o.c] 45 (0, 0)) := (hg6.block wo.heap.size (by simp; omega) (by simp [Value.ownBlock])).trans (hp1 _ _ _ _); have k6 : Hid (Keep wo w6) := keep_grown ((Keep.one _ _).alloc _) hg6 (fun y hy => by simp [Value.ownBlock] at hy; omega); obtain ⟨A6, c6, hv6, hn6⟩ := own_form hr6; subst hv6; rw [← hnb1.out] at N6; obtain ⟨n0, n1, n2, n3, n4, n5, f5⟩ := six_cells N6; replace N6 := Lib.hid N6; replace hr6 := Lib.hid hr6; replace hg6 := Lib.hid hg6; replace hn6 := Lib.hid hn6; clear a0 a1 a2 a3 a4 a5 hbl; rw [← hnb1.out])
      obtain ⟨W7, hW7⟩ : ∃ W, W = w6.setCell ⟨nb, 5, none⟩ (.slice A6 o.m c6) := ⟨_, rfl⟩
      have wn : wo.heap.size ≤ nb := Nat.le_of_eq hnb1.out.symm
      have K7 : Hid (Keep wo W7) := by rw [hW7]; exact k6.out.set wn _
      have N7 : Hid (W7.heap[nb]? = some (.cells #[.int .i64 o.k, .int .i64 o.i, .int .i64 o.x, .int .i64 o.n, .bool o.f, .slice A6 o.m c6] 45 (0, 0))) := by rw [hW7]; exact six_set N6.out
      have R7 : Hid (Rd W7 A6 o.m o.Z) := by
        have hne := row_ne hr6.out N6.out (by decide)
        refine rd_own (base := wo.heap.size) (cap := c6) ?_ ho.out.rd.small ho.out.rd.range
        rw [hW7]
        exact own_blocks1 hr6.out fun g hg => Below.heap_setCell _ _ _ _ (hne g hg)
      have I7 : OpIs W7 { o with A := A6, c := c6 } := ⟨R7.out, hn6.out, ho.out.rng⟩
      have cP : Calls Tryd.prog 19 #[.pointer (some ⟨q, 0, none⟩), .agg #[.int .i64 o.k, .int .i64 o.i, .int .i64 o.x, .int .i64 o.n, .bool o.f, .slice A6 o.m c6], .int .i64 0] W7 _ := pod_any (TR.out.keep K7.out) { o with A := A6, c := c6 } 0 I7 (by have := h20.out; show o.m ≤ _; omega)
      unfold PodV.val at cP
      replace cP := Lib.hid cP
      clear I7
      rw [← hW7]
      replace hW7 := Lib.hid hW7
      clear n0 n1 n2 n3 n4 n5 f5
      refine cP.out.mono ?_
      rintro e w8 ⟨x, ev, rfl, k8, O8, hm8, hz8⟩
      obtain ⟨xk, xp, xf, xg, xA, xm, xc, xZ, xa, xh, xd, xt⟩ := x
      simp only at O8 hm8 hz8
      obtain ⟨g, Wg, gl⟩ := wr_of O8 hz8
      have s8 : Hid (W7.heap.size ≤ w8.heap.size) := k8.size
      obtain ⟨w9, hw9⟩ : ∃ W, W = w8.alloc (.cells #[.int .i64 xk, .int .i64 xp, .bool xf, .int .i64 xg, .slice xA xm xc, .int .i64 xa, .int .i64 xh, .int .i64 xd, .int .i64 xt] 47) := ⟨_, rfl⟩
      have K9 : Hid (Keep W7 w9) := by rw [hw9]; exact k8.alloc _
      have P9 : Hid (w9.cell? ⟨w8.heap.size, 4, none⟩ = some (.slice xA xm xc)) := by show _ = _; rw [hw9]; simp [go_sem]
      have W9 : Hid (Wr w9 xA xm g) := by rw [hw9]; exact Wg.keep (Keep.one _ _)
      obtain ⟨pb, hpb⟩ : ∃ pb, pb = w8.heap.size := ⟨_, rfl⟩
      have far : Hid (0 < xm → W7.heap.size ≤ g ∧ pb ≠ g) := fun h0 => by
        have h1 := gl h0
        exact ⟨h1.1, by omega⟩
      rw [← hpb] at P9
      have hpb1 := Lib.hid hpb
      clear hpb
      replace k8 := Lib.hid k8
      replace O8 := Lib.hid O8
      replace Wg := Lib.hid Wg
      replace gl := Lib.hid gl
      replace hz8 := Lib.hid hz8
      replace hm8 := Lib.hid hm8
      clear cP
      have hxs : Hid (xm ≤ 20) := by have := h20.out; have := hm8.out; show xm ≤ 20; omega
      go_wp2_with fail
      rw [← hw9, ← hpb1.out]
      replace hw9 := Lib.hid hw9
      go_loopg [11] xm (fun gx s11 wr => ∃ j : Nat, j ≤ xm ∧ gx = xm - j ∧ s11 = .int .i64 j ∧ Hid (Keep W7 wr) ∧ Hid (Wr wr xA xm g) ∧ Hid (wr.cell? ⟨pb, 4, none⟩ = some (.slice xA xm xc)))
      case atStart => exact ⟨0, Nat.zero_le _, rfl, rfl, K9, W9, P9⟩
      case round =>
        clear K9 W9 P9
        obtain ⟨j, hj, rfl, rfl, KY, WY, PY⟩ := hrel
        have p4 := PY.out
        have hxb := hxs.out
        by_cases hlt2 : j < xm
        · obtain ⟨f0, f1⟩ := far.out (by omega)
          have hA5 := WY.out.adr (by omega)
          obtain ⟨z, hzr, hz⟩ := WY.out.cell j hlt2
          have hfz := WY.out.free (by omega) j
          subst hA5
          have qx : ∀ W, (Instr.indexAt 43 (.slice (some ⟨g, 0, none⟩) xm xc) (.int .i64 j)).run Tryd.prog W = .ok (.pointer (some ⟨g, j, none⟩)) W := fun W => by
            have := atL g 0 xm xc j hlt2 W
            rwa [Nat.zero_add] at this
          obtain ⟨z2, hz2⟩ : ∃ z2, z2 = IntKind.i64.wrap (z + 1) := ⟨_, rfl⟩
          have oz2 : I64 z2 := by rw [hz2, IntKind.wrap_i64]; unfold I64; omega
          have ez : IntKind.i64.wrap (z + 1) = z2 := hz2.symm
          have WN := WY.out.store hlt2 z2 oz2
          have KN : Hid (Keep W7 (wr.setCell ⟨g, j, none⟩ (.int .i64 z2))) := KY.out.set f0 _
          have PN : Hid ((wr.setCell ⟨g, j, none⟩ (.int .i64 z2)).cell? ⟨pb, 4, none⟩ = some (.slice (some ⟨g, 0, none⟩) xm xc)) := by
            show _ = _
            rw [World.cell?_setCell_other (a := ⟨g, j, none⟩) (b := ⟨pb, 4, none⟩) (h := by simp only [ne_eq, Addr.mk.injEq, not_and]; intro e; exact absurd e.symm f1)]
            exact PY.out
          replace WN := Lib.hid WN
          replace hz2 := Lib.hid hz2
          replace oz2 := Lib.hid oz2
          replace hzr := Lib.hid hzr
          replace f1 := Lib.hid f1
          clear f0
          go_wp2
          go_roundg (xm - (j + 1))
          case measure => omega
          case rel => exact ⟨j + 1, hlt2, rfl, by go_num, KN, WN, PN⟩
        · have hjn : ¬ (j : Int) < (xm : Int) := by omega
          obtain ⟨wB, hwB⟩ : ∃ wB, wB = wr := ⟨_, rfl⟩
          rw [← hwB] at KY p4 ⊢
          clear hwB
          have TB : Hid (SI wB 100 q p m L) := TR.out.keep (K7.out.trans KY.out)
          have UB : Hid (SI wB 100 q2 p2 m2 []) := UR.out.keep (K7.out.trans KY.out)
          have cA := csall_fn TB.out (by have := hl100.out; omega)
          have tA : Hid (∀ W, Keep wB W → Calls Tryd.prog 14 #[.pointer (some ⟨q, 0, none⟩)] W fun e w' => ∃ B d, e = .returned (.slice B L.length d) ∧ Keep W w' ∧ RdC w' B L.length (row L)) := fun W k => (csall_fn (TB.out.keep k) (by have := hl100.out; omega)).mono fun e w' ⟨B, d, he, k2, O⟩ => ⟨B, d, he, k2, all_rd O (by have := hl100.out; omega) TB.out.t.ok⟩
          obtain ⟨l0, hl0⟩ : ∃ l0, l0 = L.length := ⟨_, rfl⟩
          rw [← hl0] at cA tA
          have hl0s : Hid (l0 ≤ 100) := by rw [hl0]; exact hl100.out
          have hok : Hid (∀ t, t < l0 → I64 (row L t).p) := fun t ht => (TR.out.t.ok _ (row_mem (by rw [← hl0]; exact ht))).p
          replace hl0 := Lib.hid hl0
          replace cA := Lib.hid cA
          clear WY PY
          go_wp2_with fail
          refine cA.out.mono ?_
          rintro e w12 ⟨B12, d12, rfl, k12, O12⟩
          obtain ⟨gc, Wc0, gcl⟩ := wc_of O12
          have K12 : Hid (Keep wB w12) := k12
          have W12 : Hid (Wc w12 B12 l0 gc fun t => if t < 0 then IntKind.i64.wrap ((row L t).p + 1) else (row L t).p) := Wc0.congr fun t _ => by rw [if_neg (Nat.not_lt_zero _)]
          have farc : Hid (0 < l0 → wB.heap.size ≤ gc) := fun h0 => (gcl h0).1
          replace k12 := Lib.hid k12
          replace O12 := Lib.hid O12
          replace Wc0 := Lib.hid Wc0
          replace gcl := Lib.hid gcl
          clear cA p4
          go_wp2
          go_loopg [13] l0 (fun gx s13 wr => ∃ j : Nat, j ≤ l0 ∧ gx = l0 - j ∧ s13 = .int .i64 j ∧ Hid (Keep wB wr) ∧ Hid (Wc wr B12 l0 gc fun t => if t < j then IntKind.i64.wrap ((row L t).p + 1) else (row L t).p))
          case atStart => exact ⟨0, Nat.zero_le _, rfl, rfl, K12, W12⟩
          case round =>
            clear K12 W12
            obtain ⟨jc, hjc, rfl, rfl, KC, WC⟩ := hrel
            have hlb := hl0s.out
            by_cases hlt3 : jc < l0
            · have f0 := farc.out (by omega)
              have hA5 := WC.out.adr (by omega)
              have hz := WC.out.cell jc hlt3
              rw [if_neg (Nat.lt_irrefl _)] at hz
              have hfz := WC.out.free (by omega) (jc * 3 + 1)
              subst hA5
              have qx := atC gc 0 l0 d12 jc hlt3
              rw [Nat.zero_add] at qx
              obtain ⟨z2, hz2⟩ : ∃ z2, z2 = IntKind.i64.wrap ((row L jc).p + 1) := ⟨_, rfl⟩
              obtain ⟨z, hzz⟩ : ∃ z, z = (row L jc).p := ⟨_, rfl⟩
              rw [← hzz] at hz hz2
              have ez : IntKind.i64.wrap (z + 1) = z2 := hz2.symm
              have WN : Hid (Wc (wr.setCell ⟨gc, jc * 3 + 1, none⟩ (.int .i64 z2)) (some ⟨gc, 0, none⟩) l0 gc fun t => if t < jc + 1 then IntKind.i64.wrap ((row L t).p + 1) else (row L t).p) := (WC.out.store hlt3 z2).congr fun t ht => by
                by_cases e : t = jc
                · rw [if_pos e, if_pos (by omega), hz2, hzz, e]
                · rw [if_neg e]
                  by_cases e2 : t < jc
                  · rw [if_pos e2, if_pos (by omega)]
                  · rw [if_neg e2, if_neg (by omega)]
              have KN : Hid (Keep wB (wr.setCell ⟨gc, jc * 3 + 1, none⟩ (.int .i64 z2))) := KC.out.set f0 _
              replace hz2 := Lib.hid hz2
              replace hzz := Lib.hid hzz
              clear f0
              go_wp2
              go_roundg (l0 - (jc + 1))
              case measure => omega
              case rel => exact ⟨jc + 1, hlt3, rfl, by go_num, KN, WN⟩
            · obtain ⟨wC, hwC⟩ : ∃ wC, wC = wr := ⟨_, rfl⟩
              rw [← hwC] at KC WC ⊢
              clear hwC
              have hcn : ¬ (jc : Int) < (l0 : Int) := by omega
              have WD : Hid (Wc wC B12 l0 gc fun t => IntKind.i64.wrap ((row L t).p + 1)) := WC.out.congr fun t ht => if_pos (by omega)
              have KoC : Hid (Keep wo wC) := K7.out.trans (KY.out.trans KC.out)
              have cU := cspod_none (UB.out.keep KC.out) o 0 (by unfold keys; simp)
              obtain ⟨v5, hv5⟩ : ∃ v, v = flt 5 1 := ⟨_, rfl⟩
              have cW : Hid (∀ W, Keep w W → Calls Tryd.prog 12 #[v5, .int .i64 5, .int .i64 1] W fun e w' => e = .returned (.bool true) ∧ Keep W w') := fun W k => by rw [hv5]; exact wrong_yes 5 1 W (hv.out.keep k)
              rw [← hv5] at cU
              replace hv5 := Lib.hid hv5
              unfold OpW.val zpod PodV.val at cU
              replace cU := Lib.hid cU
              obtain ⟨b0, b1, b2, b3, b4, b5, _⟩ := six_cells (KoC.out.block OR.out)
              replace WC := Lib.hid WC
              go_wp2_with fail
              refine cU.out.mono ?_
              rintro e w14 ⟨rfl, k14⟩
              obtain ⟨wD, hwD⟩ : ∃ W, W = w14.alloc (.cells #[.int .i64 0, .int .i64 0, .bool false, .int .i64 0, .slice none 0 0, .int .i64 0, .int .i64 0, .int .i64 0, .int .i64 0] 47) := ⟨_, rfl⟩
              have KD : Hid (Keep wC wD) := by rw [hwD]; exact k14.alloc _
              replace k14 := Lib.hid k14
              clear cU b0 b1 b2 b3 b4 b5
              have NDb := (KY.out.trans (KC.out.trans KD.out)).block N7.out
              have ODb := (KoC.out.trans KD.out).block OR.out
              have RD1 : Hid (Rd wD A6 o.m o.Z) := R7.out.keep (KY.out.trans (KC.out.trans KD.out))
              have RD2 : Hid (Rd wD o.A o.m o.Z) := ho.out.rd.keep (KR.out.trans (KoC.out.trans KD.out))
              obtain ⟨_, _, _, _, _, n5, _⟩ := six_cells (x := { o with A := A6, c := c6 }) NDb
              obtain ⟨_, _, _, _, _, m5, _⟩ := six_cells ODb
              simp only at n5
              have n5 := Lib.hid n5
              have m5 := Lib.hid m5
              replace NDb := Lib.hid NDb
              replace ODb := Lib.hid ODb
              go_wp2_with fail
              rw [← hwD]
              replace hwD := Lib.hid hwD
              go_loopg [16] o.m (fun gx s16 wr => ∃ j : Nat, j ≤ o.m ∧ gx = o.m - j ∧ s16 = .int .i64 j ∧ Hid (Drawn wD wr))
              case atStart => exact ⟨0, Nat.zero_le _, rfl, rfl, Drawn.refl _⟩
              case round =>
                obtain ⟨jd, hjd, rfl, rfl, DD⟩ := hrel
                have c5 := DD.out.keep.cell n5.out
                have e5 := DD.out.keep.cell m5.out
                have sm := h20.out
                by_cases hlt4 : jd < o.m
                · obtain ⟨ba, offa, hAa, ca⟩ := (RD1.out.keep DD.out.keep).adr (by omega)
                  obtain ⟨bb, offb, hAb, cb⟩ := (RD2.out.keep DD.out.keep).adr (by omega)
                  have x0 := ca jd hlt4
                  have x1 := cb jd hlt4
                  clear ca cb
                  rw [hAa] at c5
                  rw [hAb] at e5
                  have qa := fun W => atL ba offa o.m c6 jd hlt4 W
                  have qb := fun W => atL bb offb o.m o.c jd hlt4 W
                  obtain ⟨z, hzz⟩ : ∃ z, z = o.Z jd := ⟨_, rfl⟩
                  rw [← hzz] at x0 x1
                  replace hzz := Lib.hid hzz
                  replace hAa := Lib.hid hAa
                  replace hAb := Lib.hid hAb
                  go_wp2_with fail
                  go_quiet (fail)
                  have D2 : Hid (Drawn wD (wr.drewN nq)) := DD.out.drewN nq
                  generalize wr.drewN nq = w2 at D2 ⊢
                  clear x0 x1 c5 e5
                  go_wp2
                  go_roundg (o.m - (jd + 1))
                  case measure => omega
                  case rel => exact ⟨jd + 1, hlt4, rfl, by go_num, D2⟩
                · obtain ⟨wE, hwE⟩ : ∃ wE, wE = wr := ⟨_, rfl⟩
                  rw [← hwE] at DD c5 e5 ⊢
                  clear hwE
                  have hdn : ¬ (jd : Int) < (o.m : Int) := by omega
                  have KE : Hid (Keep wC wE) := KD.out.trans DD.out.keep
                  have tE := Lib.hid (tA.out wE (KC.out.trans KE.out))
                  go_wp2_with fail
                  refine tE.out.mono ?_
                  rintro e w20 ⟨B20, d20, rfl, k20, R20⟩
                  have K20 : Hid (Keep wC w20) := KE.out.trans k20
                  have W20 : Hid (Wc w20 B12 l0 gc fun t => IntKind.i64.wrap ((row L t).p + 1)) := WD.out.keep K20.out
                  replace k20 := Lib.hid k20
                  replace R20 := Lib.hid R20
                  clear tE c5 e5
                  have hl100' := hl0s.out
                  go_wp2
                  go_loopg [18] l0 (fun gx s18 wr => ∃ j : Nat, j ≤ l0 ∧ gx = l0 - j ∧ s18 = .int .i64 j ∧ Hid (Drawn w20 wr))
                  case atStart => exact ⟨0, Nat.zero_le _, rfl, rfl, Drawn.refl _⟩
                  case round =>
                    obtain ⟨jf, hjf, rfl, rfl, DF⟩ := hrel
                    by_cases hlt5 : jf < l0
                    · obtain ⟨gb, g0, hB, cb⟩ := (R20.out.keep DF.out.keep).adr (by omega)
                      subst hB
                      have qb := atC gb g0 l0 d20 jf hlt5
                      have X := cb jf hlt5
                      have x1 := X.e1
                      clear X cb
                      have Y := W20.out.keep DF.out.keep
                      have hA5 := Y.adr (by omega)
                      have y1 := Y.cell jf hlt5
                      clear Y
                      subst hA5
                      have qc := atC gc 0 l0 d12 jf hlt5
                      rw [Nat.zero_add] at qc
                      obtain ⟨z2, hz2⟩ : ∃ z2, z2 = IntKind.i64.wrap ((row L jf).p + 1) := ⟨_, rfl⟩
                      rw [← hz2] at y1
                      obtain ⟨z, hzz⟩ : ∃ z, z = (row L jf).p := ⟨_, rfl⟩
                      rw [← hzz] at x1 hz2
                      have ez : IntKind.i64.wrap (z + 1) = z2 := hz2.symm
                      replace hz2 := Lib.hid hz2
                      replace hzz := Lib.hid hzz
                      go_wp2_with fail
                      go_quiet (fail)
                      have D2 : Hid (Drawn w20 (wr.drewN nq)) := DF.out.drewN nq
                      generalize wr.drewN nq = w2 at D2 ⊢
                      clear x1 y1
                      go_wp2
                      go_roundg (l0 - (jf + 1))
                      case measure => omega
                      case rel => exact ⟨jf + 1, hlt5, rfl, by go_num, D2⟩
                    · obtain ⟨wG, hwG⟩ : ∃ wG, wG = wr := ⟨_, rfl⟩
                      rw [← hwG] at DF ⊢
                      clear hwG
                      have hfn : ¬ (jf : Int) < (l0 : Int) := by omega
                      have KG : Hid (Keep wB wG) := KC.out.trans (K20.out.trans DF.out.keep)
                      have cZ := csall_fn (UB.out.keep KG.out) (by decide)
                      simp only [List.length_nil] at cZ
                      replace cZ := Lib.hid cZ
                      go_wp2_with fail
                      refine cZ.out.mono ?_
                      rintro e w30 ⟨B30, d30, rfl, k30, O30⟩
                      have K30 : Hid (Keep w w30) := KR.out.trans (K7.out.trans (KY.out.trans (KG.out.trans k30)))
                      replace k30 := Lib.hid k30
                      replace O30 := Lib.hid O30
                      go_wp2_with fail
                      refine (cW.out _ K30.out).mono ?_
                      rintro e w31 ⟨rfl, k31⟩
                      have K31 : Hid (Keep w w31) := K30.out.trans k31
                      replace k31 := Lib.hid k31
                      go_wp2
                      go_ret
                      exact ⟨rfl, K31.out⟩
end Go.Proofs.YtmbeghngnnpmlaaDoor.T11
