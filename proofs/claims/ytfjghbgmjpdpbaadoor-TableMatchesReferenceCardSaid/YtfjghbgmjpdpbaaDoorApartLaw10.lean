/-
  The walk of TableApart. Condition: errors.errorType holds its own.
-/
import Derived.Test.YtfjghbgmjpdpbaaDoorRoomLaw10
namespace Go.Proofs.YtfjghbgmjpdpbaaDoor.T10
open Go.RowKit Go.Sort Go.Lib

section
variable {ops : Array Oper} {rest : List Oper} {o : Oper} {a : Act} {w : World} {Q : Exit → Act → World → Prop}
/-- An append of a row of numbers of the call's own to another one. -/
theorem wpl_ints (hgd : o.guard = none) (s x : Operand) (ho : o.op = .call { callee := .builtin .append, args := #[s, x], argTypes := #[34, 34] })
    (base b2 : Nat) (v : Value) (n : Nat) (xs : List Value) (hs : a.eval s = v) (hown : w.ownsRow base 3 1 v n xs) (X : Value) (m : Nat) (news : List Value) (hx : a.eval x = X) (hsrc : w.ownsRow b2 3 1 X m news) (h1 : ∀ u ∈ news, u.oneCell' = true)
    (hlim : n + m ≤ 1048577) (hbase : base ≤ w.heap.size)
    (h : ∀ v' w', w'.ownsRow base 3 1 v' (n + m) (xs ++ news) → w.grownBy w' v.ownBlock → wpList Tryd.prog ops Q rest (a.put o.dst v') w') : wpList Tryd.prog ops Q (o :: rest) a w := by
  obtain ⟨i0, hi0, hz0, hz1, hz2⟩ := info_parts infoZ10
  have hl := hsrc.1
  rw [Nat.mul_one] at hl
  rcases hsrc.2 with ⟨rfl, rfl⟩ | ⟨g, cap, cur, rfl, h4, h5, h6⟩
  · have hn0 : news = [] := List.eq_nil_of_length_eq_zero hl
    subst hn0
    exact wpList_append_own_none hgd s x 34 ho base 3 i0 1 Tryd.underlying34 hi0 v n xs hs hown hx (h v w (by rw [List.append_nil]; exact hown) ⟨rfl, rfl, rfl, Nat.le_refl _, fun _ _ _ => rfl⟩)
  · exact wpList_append_own (P := Tryd.prog) w hgd s x 34 ho base 3 i0 _ 1 8 Tryd.underlying34 hi0 hz0 hz1 hz2 rfl (by decide) v n xs hs hown ⟨g, 0, none⟩ m cap news hx (by rw [Nat.mul_one]; exact hl) (fun j u hu => by
      rw [WideShapes.add_plain, Nat.zero_add]
      have hj : j < news.length := (List.getElem?_eq_some_iff.1 hu).1
      rw [hsrc.cellAt j (by omega)]
      exact hu) h1 (by unfold maxLen; omega) (by omega) hbase fun v' w' h2 h3 _ => h v' w' h2 h3
end
theorem zl_one (P : Nat → PrV) (n : Nat) : ∀ u ∈ zl P n, u.oneCell' = true := by
  intro u hu
  unfold zl at hu
  obtain ⟨x, _, rfl⟩ := List.mem_map.1 hu
  rfl
theorem own_none {W : World} {base k : Nat} (hb : base ≤ k) (h : W.heap[k]? = some (.cells #[] 3 (0, 0))) : W.ownsRow base 3 1 (.slice (some ⟨k, 0, none⟩) 0 0) 0 [] :=
  ⟨rfl, .inr ⟨k, 0, #[], rfl, hb, h, Nat.le_refl _, Nat.zero_le _, rfl, rfl⟩⟩
theorem rd_fr {w w' : World} {A : Option Addr} {n : Nat} {Z : Nat → Int} (h : Rd w A n Z) {g : Nat} (f : Fr (· = g) w w') (ho : ∀ b off, A = some ⟨b, off, none⟩ → b ≠ g) : Rd w' A n Z :=
  ⟨h.small, h.range, fun hn => by
    obtain ⟨b, off, e, c⟩ := h.adr hn
    exact ⟨b, off, e, fun j hj => f.cell (c j hj) (ho b off e)⟩⟩
/-- A row whose cells hold numbers, and may be written. -/
structure Wr (w : World) (A : Option Addr) (n : Nat) (g : Nat) : Prop where
  adr : 0 < n → A = some ⟨g, 0, none⟩
  cell : ∀ j, j < n → ∃ z, I64 z ∧ w.cell? ⟨g, j, none⟩ = some (.int .i64 z)
  free : 0 < n → ∀ j, w.frozen? ⟨g, j, none⟩ = false
theorem Wr.store {w : World} {A : Option Addr} {n g : Nat} (h : Wr w A n g) {i : Nat} (hi : i < n) (z : Int) (hz : I64 z) : Wr (w.setCell ⟨g, i, none⟩ (.int .i64 z)) A n g :=
  ⟨h.adr, fun j hj => by
    by_cases e : j = i
    · subst e
      obtain ⟨y, _, hy⟩ := h.cell j hj
      exact ⟨z, hz, World.cell?_setCell_same _ _ _ hy⟩
    · obtain ⟨y, hyr, hy⟩ := h.cell j hj
      exact ⟨y, hyr, by rw [World.cell?_setCell_other (a := ⟨g, i, none⟩) (b := ⟨g, j, none⟩) (h := by simp)]; exact hy⟩, fun hn j => by rw [World.frozen?_setCell]; exact h.free hn j⟩
theorem wr_of {w : World} {base n : Nat} {A : Option Addr} {d : Nat} {P : Nat → PrV} (h : w.ownsRow base 3 1 (.slice A n d) n (zl P n)) (ho : ∀ j, j < n → PrOk (P j)) : ∃ g, Wr w A n g ∧ (0 < n → base ≤ g ∧ g < w.heap.size) := by
  by_cases hn : 0 < n
  · obtain ⟨g, cap, e, h2, _⟩ := h.form hn
    have e' := e
    simp only [Value.slice.injEq] at e'
    obtain ⟨rfl, _, rfl⟩ := e'
    refine ⟨g, ⟨fun _ => rfl, fun j hj => ⟨_, (ho j hj).k, ?_⟩, fun _ j => h.frozenAt j⟩, fun _ => h.lt _ rfl⟩
    rw [h.cellAt j (by omega)]
    unfold zl
    rw [List.getElem?_map, lst_get hj]
    rfl
  · exact ⟨0, ⟨fun h => absurd h hn, fun j hj => absurd hj (by omega), fun h => absurd h hn⟩, fun h => absurd h hn⟩
theorem Wr.keep {w w' : World} {A : Option Addr} {n g : Nat} (h : Wr w A n g) (k : Keep w w') : Wr w' A n g :=
  ⟨h.adr, fun j hj => by obtain ⟨z, r, c⟩ := h.cell j hj; exact ⟨z, r, k.cell c⟩, fun hn j => by
    obtain ⟨z, r, c⟩ := h.cell 0 hn
    have hl := cell_lt c
    rw [Below.frozen k (p := ⟨g, j, none⟩) hl]
    exact h.free hn j⟩

set_option maxRecDepth 100000 in
set_option maxHeartbeats 16000000 in
theorem apart_walk (A : Option Addr) (n c : Nat) (Z : Nat → Int) (w : World) (hR : Rd w A n Z) (hv : ErrT w) : Calls Tryd.prog 6 #[.slice A n c] w fun e w' => e = .returned (.bool true) ∧ Keep w w' := by
  have hs := hR.small
  replace hv := Lib.hid hv
  replace hR := Lib.hid hR
  go_enter Tryd.func6, Tryd.ntmps6
  go_wp2_with fail
  refine (tnew_fn 1000 (by unfold I64; omega) _).mono ?_
  rintro e w1 ⟨p, rfl, m, T1, k1, lp, lm⟩
  rw [if_pos (by decide)] at T1
  replace T1 := Lib.hid T1
  replace k1 := Lib.hid k1
  replace lm := Lib.hid lm
  replace lp := Lib.hid lp
  go_wp2_with fail
  refine (tnew_fn 1000 (by unfold I64; omega) _).mono ?_
  rintro e w2 ⟨p2, rfl, m2, U2, k2, lp2, lm2⟩
  rw [if_pos (by decide)] at U2
  have T2 := Lib.hid (T1.out.keep k2)
  have n1 : Hid (¬ p2 = m ∧ ¬ m2 = m) := ⟨by have := T1.out.mlt; omega, by have := T1.out.mlt; omega⟩
  have K2 := Lib.hid (k1.out.trans k2)
  replace lm2 := Lib.hid lm2
  replace lp2 := Lib.hid lp2
  replace U2 := Lib.hid U2
  replace k2 := Lib.hid k2
  have aw1 := Lib.hid (awake_true w2 (hv.out.keep K2.out))
  go_wp2_with fail
  refine aw1.out.mono ?_
  rintro e w3 ⟨rfl, k3⟩
  have K3 := Lib.hid (K2.out.trans k3)
  have T3 := Lib.hid (T2.out.keep k3)
  have U3 := Lib.hid (U2.out.keep k3)
  replace k3 := Lib.hid k3
  clear aw1
  by_cases hn : n ≤ 100
  rotate_left
  · have aw2 := Lib.hid (awake_true w3 (hv.out.keep K3.out))
    go_wp2_with fail
    refine aw2.out.mono ?_
    rintro e w4 ⟨rfl, k4⟩
    go_wp2
    go_ret
    exact ⟨rfl, K3.out.trans k4⟩
  go_wp2
  go_loopg [5] n (fun gx s5 wr => ∃ (i : Nat) (L : List PrV), i ≤ n ∧ gx = n - i ∧ s5 = .int .i64 i ∧ L.length ≤ i ∧ Hid (Keep w wr) ∧ Hid (TI wr 1000 p m L) ∧ Hid (TI wr 1000 p2 m2 []))
  case atStart => exact ⟨0, [], Nat.zero_le _, rfl, rfl, Nat.le_refl _, K3, T3, U3⟩
  case round =>
    clear T1 T2 T3 K2 K3 k1 k2 k3 U2 U3
    obtain ⟨i, L, hi, rfl, rfl, hLi, KR, TR, UR⟩ := hrel
    by_cases hlt : i < n
    · obtain ⟨b, off, hA, ca⟩ := (hR.out.below KR.out).adr (by omega)
      subst hA
      have q1 := fun W => atI b off n c i hlt W
      have xk := ca i hlt
      have ox := hR.out.range i hlt
      clear ca
      obtain ⟨z, hz⟩ : ∃ z, z = Z i := ⟨_, rfl⟩
      rw [← hz] at xk ox
      replace hz := Lib.hid hz
      have cA := tadd_fn TR.out ⟨z, (i : Int)⟩ ⟨ox, by show I64 (i : Int); unfold I64; omega⟩
      have hol := op_len 0 L 1000 ⟨z, (i : Int)⟩
      unfold opL at hol
      rw [if_pos rfl] at hol
      obtain ⟨M, hM⟩ : ∃ M, M = addL L 1000 ⟨z, (i : Int)⟩ := ⟨_, rfl⟩
      obtain ⟨cc, hcc⟩ : ∃ cc, cc = addC L 1000 ⟨z, (i : Int)⟩ := ⟨_, rfl⟩
      rw [← hM] at cA hol
      rw [← hcc] at cA
      replace hM := Lib.hid hM
      replace hcc := Lib.hid hcc
      replace ox := Lib.hid ox
      replace cA := Lib.hid cA
      go_wp2_with fail
      refine cA.out.mono ?_
      rintro e w5 ⟨rfl, T5, F5⟩
      have K5 : Hid (Keep w w5) := F5.low KR.out (by rintro k rfl; exact lm.out)
      have U5 : Hid (TI w5 1000 p2 m2 []) := UR.out.fr F5 n1.out.1 n1.out.2
      replace F5 := Lib.hid F5
      replace T5 := Lib.hid T5
      clear cA xk
      go_wp2
      go_roundg (n - (i + 1))
      case measure => omega
      case rel => exact ⟨i + 1, M, hlt, rfl, by go_num, by omega, K5, T5, U5⟩
    · obtain rfl : i = n := by omega
      have cI := tids_fn TR.out (by omega)
      obtain ⟨q, hq⟩ : ∃ q, q = L.length := ⟨_, rfl⟩
      rw [← hq] at cI hLi
      replace hq := Lib.hid hq
      replace cI := Lib.hid cI
      obtain ⟨wo, hwo⟩ : ∃ wo, wo = wr := ⟨_, rfl⟩
      rw [← hwo] at TR UR KR cI ⊢
      clear hwo
      go_wp2_with fail
      refine cI.out.mono ?_
      rintro e w5 ⟨B5, d5, rfl, k5, O5⟩
      have K5 : Hid (Keep w w5) := KR.out.trans k5
      have okL : Hid (∀ j, j < q → PrOk (row L j)) := fun j hj => TR.out.ok _ (row_mem (by rw [← hq.out]; exact hj))
      obtain ⟨g, Wg, gl⟩ := wr_of O5 okL.out
      have k5' := Lib.hid k5
      replace k5 := Lib.hid k5
      replace O5 := Lib.hid O5
      replace Wg := Lib.hid Wg
      replace gl := Lib.hid gl
      clear cI
      go_wp2_with (at_builtin; refine wpl_ints rfl _ _ rfl w5.heap.size wo.heap.size (.slice (some ⟨w5.heap.size, 0, none⟩) 0 0) 0 [] (by simp [Act.eval]) (own_none (Nat.le_refl _) (heap_alloc_new _ _)) (.slice B5 q d5) q (zl (row L) q) (by simp [Act.eval]) (own_keep O5.out (Keep.one _ _)) (zl_one _ _) (by omega) (by simp) ?_; intro v3 w6 hr6 hg6; have k6 : Hid (Keep w5 w6) := keep_grown (Keep.one _ _) hg6 (fun y hy => by simp [Value.ownBlock] at hy; omega); rw [List.nil_append, Nat.zero_add] at hr6; obtain ⟨B6, d6, hB6, _⟩ := own_form hr6; subst hB6; replace hg6 := Lib.hid hg6; have R6 : Hid (Rd w6 B6 q fun j => (row L j).k) := (ids_rd hr6 (by omega) okL.out); have b6 : Hid (∀ b off, B6 = some ⟨b, off, none⟩ → w5.heap.size ≤ b) := (fun b off e => (hr6.lt b (by rw [e]; rfl)).1); replace hr6 := Lib.hid hr6)
      have K6 : Hid (Keep w w6) := K5.out.trans k6.out
      have k56 : Hid (Keep wo w6) := k5'.out.trans k6.out
      have T6 : Hid (TI w6 1000 p m L) := TR.out.keep k56.out
      have U6 : Hid (TI w6 1000 p2 m2 []) := UR.out.keep k56.out
      have W6 : Hid (Wr w6 B5 q g) := Wg.out.keep k6.out
      have far : Hid (0 < q → w.heap.size ≤ g ∧ ¬ p = g ∧ ¬ m = g ∧ ¬ p2 = g ∧ ¬ m2 = g ∧ ∀ b off, B6 = some ⟨b, off, none⟩ → b ≠ g) := fun h0 => by
        have h1 := gl.out h0
        have h2 := TR.out.plt
        have h3 := TR.out.mlt
        have h4 := UR.out.plt
        have h5 := UR.out.mlt
        have h6 := KR.out.size
        exact ⟨by omega, by omega, by omega, by omega, by omega, fun b off e => by have := b6.out b off e; omega⟩
      go_loopg [8] q (fun gx s8 wy => ∃ i : Nat, i ≤ q ∧ gx = q - i ∧ s8 = .int .i64 i ∧ Hid (Keep w wy) ∧ Hid (TI wy 1000 p m L) ∧ Hid (TI wy 1000 p2 m2 []) ∧ Hid (Wr wy B5 q g) ∧ Hid (Rd wy B6 q fun j => (row L j).k))
      case atStart => exact ⟨0, Nat.zero_le _, rfl, rfl, K6, T6, U6, W6, R6⟩
      case round =>
        clear T6 U6 W6 R6 K6
        obtain ⟨j, hj, rfl, rfl, KY, TY, UY, WY, RY⟩ := hrel
        by_cases hlt2 : j < q
        · obtain ⟨f0, f1, f2, f3, f4, f5⟩ := far.out (by omega)
          have hA5 := WY.out.adr (by omega)
          obtain ⟨z, hzr, hz⟩ := WY.out.cell j hlt2
          have hfz := WY.out.free (by omega) j
          subst hA5
          have q1 : ∀ W, (Instr.indexAt 34 (.slice (some ⟨g, 0, none⟩) q d5) (.int .i64 j)).run Tryd.prog W = .ok (.pointer (some ⟨g, j, none⟩)) W := fun W => by
            have := atI g 0 q d5 j hlt2 W
            rwa [Nat.zero_add] at this
          obtain ⟨z2, hz2⟩ : ∃ z2, z2 = IntKind.i64.wrap (z + 1) := ⟨_, rfl⟩
          have oz2 : I64 z2 := by rw [hz2, IntKind.wrap_i64]; unfold I64; omega
          have ez : IntKind.i64.wrap (z + 1) = z2 := hz2.symm
          have WN := WY.out.store hlt2 z2 oz2
          have ff : Fr (· = g) wr (wr.setCell ⟨g, j, none⟩ (.int .i64 z2)) := (Fr.refl _ wr).set (by left; rfl) _
          have KN : Hid (Keep w (wr.setCell ⟨g, j, none⟩ (.int .i64 z2))) := ff.low KY.out (by rintro k rfl; exact f0)
          have TN : Hid (TI (wr.setCell ⟨g, j, none⟩ (.int .i64 z2)) 1000 p m L) := TY.out.fr ff f1 f2
          have UN : Hid (TI (wr.setCell ⟨g, j, none⟩ (.int .i64 z2)) 1000 p2 m2 []) := UY.out.fr ff f3 f4
          have RN : Hid (Rd (wr.setCell ⟨g, j, none⟩ (.int .i64 z2)) B6 q fun j => (row L j).k) := rd_fr RY.out ff f5
          replace WN := Lib.hid WN
          replace ff := Lib.hid ff
          replace hz2 := Lib.hid hz2
          replace oz2 := Lib.hid oz2
          replace hzr := Lib.hid hzr
          replace f5 := Lib.hid f5
          clear f0 f1 f2 f3 f4
          go_wp2
          go_roundg (q - (j + 1))
          case measure => omega
          case rel => exact ⟨j + 1, hlt2, rfl, by go_num, KN, TN, UN, WN, RN⟩
        · obtain rfl : j = q := by omega
          have cI := tids_fn TY.out (by rw [← hq.out]; omega)
          rw [← hq.out] at cI
          replace cI := Lib.hid cI
          go_wp2_with fail
          refine cI.out.mono ?_
          rintro e w8 ⟨B8, d8, rfl, k8, O8⟩
          have k8' := Lib.hid k8
          have cE := Lib.hid (equal_yes B8 B6 j d8 d6 _ _ w8 (ids_rd O8 (by omega) okL.out) (RY.out.below k8) fun _ _ => rfl)
          replace k8 := Lib.hid k8
          replace O8 := Lib.hid O8
          clear cI
          go_wp2_with fail
          refine cE.out.mono ?_
          rintro e w9 ⟨rfl, D9⟩
          have k9 : Hid (Keep wr w9) := k8'.out.trans D9.keep
          have cS := Lib.hid (sorted_yes B6 j d6 (fun j => (row L j).k) w9 (RY.out.below k9.out) fun t ht => Int.le_of_lt (srt_lt TY.out.srt (Nat.lt_succ_self t) (by rw [← hq.out]; exact ht)))
          replace D9 := Lib.hid D9
          clear cE
          go_wp2_with fail
          refine cS.out.mono ?_
          rintro e w10 ⟨rfl, D10⟩
          have k10 : Hid (Keep wr w10) := k9.out.trans D10.keep
          have cL := Lib.hid (tlen_fn (UY.out.keep k10.out))
          replace D10 := Lib.hid D10
          clear cS
          go_wp2_with fail
          refine cL.out.mono ?_
          rintro e w11 ⟨rfl, rfl⟩
          have cJ := Lib.hid (tids_fn (UY.out.keep k10.out) (by decide))
          clear cL
          go_wp2_with fail
          refine cJ.out.mono ?_
          rintro e w12 ⟨B12, d12, rfl, k12, O12⟩
          have K12 : Hid (Keep w w12) := KY.out.trans (k10.out.trans k12)
          replace k12 := Lib.hid k12
          replace O12 := Lib.hid O12
          clear cJ
          go_wp2
          go_ret
          exact ⟨rfl, K12.out⟩
end Go.Proofs.YtfjghbgmjpdpbaaDoor.T10
