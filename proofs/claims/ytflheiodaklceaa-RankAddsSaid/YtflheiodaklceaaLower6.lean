/-
  The pods with a lesser priority, the program's and the reference's. Condition: at most 1048576 pods; the program's: each with at most 1048576 amounts.
-/
import Derived.Test.YtflheiodaklceaaRowP6
namespace Go.Proofs.Ytflheiodaklceaa
open Go.RowKit Go.Sort Go.Shelf

def lowL (P : Nat → PodV) (q : Int) : Nat → List Nat
  | 0 => []
  | n + 1 => if (P n).p < q then lowL P q n ++ [n] else lowL P q n
theorem lowL_len (P : Nat → PodV) (q : Int) : ∀ n, (lowL P q n).length ≤ n
  | 0 => Nat.le_refl _
  | n + 1 => by
    have := lowL_len P q n
    unfold lowL
    split
    · rw [List.length_append]; exact Nat.succ_le_succ this
    · omega
theorem lowL_lt (P : Nat → PodV) (q : Int) : ∀ n t, t < (lowL P q n).length → (lowL P q n).getD t 0 < n
  | 0, t, h => absurd h (Nat.not_lt_zero _)
  | n + 1, t, h => by
    unfold lowL at h ⊢
    split at h
    · rename_i hp
      rw [if_pos hp]
      rw [List.length_append] at h
      rw [List.getD_eq_getElem?_getD]
      by_cases e : t < (lowL P q n).length
      · rw [List.getElem?_append_left e, ← List.getD_eq_getElem?_getD]
        have := lowL_lt P q n t e
        omega
      · rw [List.getElem?_append_right (by omega), show t - (lowL P q n).length = 0 by simp at h; omega]
        simp
    · rename_i hp
      rw [if_neg hp]
      have := lowL_lt P q n t h
      omega
theorem getD_snoc (L : List Nat) (x t : Nat) : (L ++ [x]).getD t 0 = if t < L.length then L.getD t 0 else if t = L.length then x else 0 := by
  rw [List.getD_eq_getElem?_getD]
  by_cases e : t < L.length
  · rw [if_pos e, List.getElem?_append_left e, List.getD_eq_getElem?_getD]
  · rw [if_neg e, List.getElem?_append_right (by omega)]
    by_cases e2 : t = L.length
    · rw [if_pos e2, e2]; simp
    · rw [if_neg e2, List.getElem?_eq_none (by simp; omega)]; rfl

/-- What a list of chosen pods is. -/
structure Chosen (w w' : World) (P : Nat → PodV) (L : List Nat) (v : Value) : Prop where
  keep : Keep w w'
  at_ : ∃ A c S, v = .slice A L.length c ∧ RdPods w' A L.length S ∧ ∀ t, t < L.length → SameV (S t) (P (L.getD t 0))

set_option maxRecDepth 100000 in
set_option maxHeartbeats 8000000 in
theorem klower_fn (A : Option Addr) (n c : Nat) (P : Nat → PodV) (q : Int) (w : World) (hR : RdPods w A n P) (hn : n ≤ 1048576) (hm : ∀ j, j < n → (P j).m ≤ 1048576) :
    Calls Try.prog 20 #[.slice A n c, .int .i64 q] w fun e w' => ∃ v, e = .returned v ∧ Chosen w w' P (lowL P q n) v := by
  replace hR := Lib.hid hR
  replace hm := Lib.hid hm
  obtain ⟨i0, hi0, hz0, hz1, hz2⟩ := info_parts Try.infoPod
  go_enter Try.func20, Try.ntmps20
  go_wp2
  go_loopg [5, 10] n (fun gx s5 s10 wr => ∃ (j : Nat) (Q : Nat → PodV), j ≤ n ∧ gx = n - j ∧ s10 = .int .i64 j ∧ Hid (Keep w wr) ∧ Hid (RowP wr w.heap.size s5 (lowL P q j).length Q) ∧ Hid (∀ t, t < (lowL P q j).length → SameV (Q t) (P ((lowL P q j).getD t 0))))
  case atStart => exact ⟨0, P, Nat.zero_le _, rfl, rfl, Keep.refl _, RowP.nil _ _ _, fun t ht => absurd ht (Nat.not_lt_zero _)⟩
  case round =>
    obtain ⟨j, Q, hj, rfl, rfl, G, RW, SV⟩ := hrel
    have R2 := Lib.hid (hR.out.keep G.out)
    by_cases hlt : j < n
    · obtain ⟨b, off, hA, ca⟩ := R2.out.adr (by omega)
      subst hA
      have q1 := pods_at b off n c j hlt
      have X := ca j hlt
      have Xi := R2.out.is j hlt
      have hxm := hm.out j hlt
      have hll := lowL_len P q j
      clear ca
      obtain ⟨x, hx⟩ : ∃ x, x = P j := ⟨_, rfl⟩
      have hL : Hid (lowL P q (j + 1) = if x.p < q then lowL P q j ++ [j] else lowL P q j) := by show _ = _; rw [hx]; rfl
      rw [← hx] at X Xi hxm
      replace hx := Lib.hid hx
      replace Xi := Lib.hid Xi
      generalize lowL P q j = L at *
      have x0 := X.e0; have x1 := X.e1; have x2 := X.e2; have x3 := X.e3; have x4 := X.e4; have x5 := X.e5; have x6 := X.e6; have x7 := X.e7; have x8 := X.e8
      clear X
      by_cases hp : x.p < q
      · have hk : ∀ W : World, PodIs W x → Calls Try.prog 24 #[.agg #[.int .i64 x.k, .int .i64 x.p, .bool x.f, .int .i64 x.g, .slice x.A x.m x.c, .int .i64 x.a, .int .i64 x.h, .int .i64 x.d, .int .i64 x.t]] W fun e w' => ∃ A c, e = .returned (.agg #[.int .i64 x.k, .int .i64 x.p, .bool x.f, .int .i64 x.g, .slice A x.m c, .int .i64 x.a, .int .i64 x.h, .int .i64 x.d, .int .i64 x.t]) ∧ Keep W w' ∧ PodIs w' (x.at A c) ∧ w'.ownsRow W.heap.size 2 1 (.slice A x.m c) x.m (rowL x.m x.Z) := fun W h => kclone_fn x W h hxm
        have hL2 : Hid (lowL P q (j + 1) = L ++ [j]) := hL.out.trans (if_pos hp)
        replace hk := Lib.hid hk
        go_wp2_with fail
        refine (hk.out _ (Xi.out.keep (Keep.one _ _))).mono ?_
        rintro e w1 ⟨A', c', rfl, k1, is1, rq1⟩
        have RW1 := Lib.hid (RW.out.keep ((Keep.one _ _).trans k1))
        have G1 := Lib.hid (G.out.trans ((Keep.one _ _).trans k1))
        have hg1 : w.heap.size ≤ w1.heap.size := G1.out.size
        have rq2 : Hid (Req w1 w.heap.size (x.at A' c')) := own_base rq1 (by
          have := G.out.size
          rw [World.size_alloc]
          omega)
        have ok2 := Lib.hid is1.ok
        replace is1 := Lib.hid is1
        replace rq1 := Lib.hid rq1
        replace k1 := Lib.hid k1
        clear x0 x1 x2 x3 x4 x5 x6 x7 x8 q1 Xi R2
        have N1 : Hid (∀ o : Obj, ∀ i u, (x.at A' c').cells[i]? = some u → o = .cells #[.int .i64 x.k, .int .i64 x.p, .bool x.f, .int .i64 x.g, .slice A' x.m c', .int .i64 x.a, .int .i64 x.h, .int .i64 x.d, .int .i64 x.t] 25 → (w1.alloc o).cell? ((⟨w1.heap.size, 0, none⟩ : Addr).add i) = some u) := by
          intro o i u hu ho
          subst ho
          rw [WideShapes.add_plain, Nat.zero_add, World.cell?_alloc_new, ← hu, List.getElem?_toArray]
          rfl
        go_wp2_with (at_builtin; refine wpList_append_own _ rfl _ _ 22 rfl w.heap.size 25 i0 _ 9 88 Try.underlying22 hi0 hz0 hz1 hz2 rfl (by decide) u5 L.length (podCs Q L.length) (by simp [Act.eval]) ((RW1.out.keep (Keep.one _ _)).row) ⟨w1.heap.size, 0, none⟩ 1 1 (x.at A' c').cells (by simp [Act.eval]) (by rw [cells9]) (fun i u hu => N1.out _ i u hu rfl) (cells_one _) (by unfold maxLen; omega) (by omega) (by simp; omega) ?_; intro v2 w2 hr2 hg2 _)
        have RW2 : Hid (RowP w2 w.heap.size v2 (L.length + 1) (put Q L.length (x.at A' c'))) := (RW1.out.keep (Keep.one _ _)).more (own_keep rq2.out (Keep.one _ _)) ok2.out hr2 hg2
        have G2 : Hid (Keep w w2) := keep_grown (G1.out.trans (Keep.one _ _)) hg2 (fun g hq => (RW1.out.row.lt g hq).1)
        replace hr2 := Lib.hid hr2
        replace hg2 := Lib.hid hg2
        go_roundg (n - (j + 1))
        case measure => omega
        case rel =>
          refine ⟨j + 1, put Q L.length (x.at A' c'), hlt, rfl, by go_num, G2, by rw [hL2.out, List.length_append]; exact RW2.out, fun t ht => ?_⟩
          rw [hL2.out] at ht ⊢
          rw [List.length_append] at ht
          rw [getD_snoc]
          by_cases e : t = L.length
          · rw [if_neg (by omega), if_pos e, e, put_at, ← hx.out]
            exact ⟨A', c', rfl⟩
          · have ht2 : t < L.length := by simp at ht; omega
            rw [if_pos ht2, put_ne _ _ _ e]
            exact SV.out t ht2
      · have hL2 : Hid (lowL P q (j + 1) = L) := hL.out.trans (if_neg hp)
        have G2 := fun o => Lib.hid (G.out.alloc o)
        have RW2 := fun o => Lib.hid (RW.out.keep (Keep.one wr o))
        go_wp2
        go_roundg (n - (j + 1))
        case measure => omega
        case rel => exact ⟨j + 1, Q, hlt, rfl, by go_num, G2 _, by rw [hL2.out]; exact RW2 _, by rw [hL2.out]; exact SV⟩
    · obtain rfl : j = n := by omega
      obtain ⟨B, d, hB, hrd⟩ := RW.out.rd (by have := lowL_len P q j; omega)
      subst hB
      go_wp2
      go_ret
      exact ⟨_, rfl, G.out, B, d, Q, rfl, hrd, SV.out⟩

set_option maxRecDepth 100000 in
set_option maxHeartbeats 8000000 in
theorem rlower_fn (A : Option Addr) (n c : Nat) (P : Nat → PodV) (q : Int) (w : World) (hR : RdPods w A n P) (hn : n ≤ 1048576) :
    Calls Try.prog 21 #[.slice A n c, .int .i64 q] w fun e w' => ∃ v, e = .returned v ∧ Chosen w w' P (lowL P q n) v := by
  replace hR := Lib.hid hR
  obtain ⟨i0, hi0, hz0, hz1, hz2⟩ := info_parts Try.infoPod
  go_enter Try.func21, Try.ntmps21
  go_wp2
  go_loopg [5, 6] n (fun gx s5 s10 wr => ∃ (j : Nat), j ≤ n ∧ gx = n - j ∧ s10 = .int .i64 j ∧ Hid (Keep w wr) ∧ Hid (wr.ownsRow w.heap.size 25 9 s5 (lowL P q j).length (podCs (fun t => P ((lowL P q j).getD t 0)) (lowL P q j).length)))
  case atStart => exact ⟨0, Nat.zero_le _, rfl, rfl, Keep.refl _, World.ownsRow_nil _ _ _ _⟩
  case round =>
    obtain ⟨j, hj, rfl, rfl, G, RW⟩ := hrel
    have R2 := Lib.hid (hR.out.keep G.out)
    by_cases hlt : j < n
    · obtain ⟨b, off, hA, ca⟩ := R2.out.adr (by omega)
      subst hA
      have q1 := pods_at b off n c j hlt
      have X := ca j hlt
      have hll := lowL_len P q j
      clear ca
      obtain ⟨x, hx⟩ : ∃ x, x = P j := ⟨_, rfl⟩
      have hL : Hid (lowL P q (j + 1) = if x.p < q then lowL P q j ++ [j] else lowL P q j) := by show _ = _; rw [hx]; rfl
      rw [← hx] at X
      replace hx := Lib.hid hx
      generalize lowL P q j = L at *
      have x0 := X.e0; have x1 := X.e1; have x2 := X.e2; have x3 := X.e3; have x4 := X.e4; have x5 := X.e5; have x6 := X.e6; have x7 := X.e7; have x8 := X.e8
      clear X
      have hg1 : w.heap.size ≤ wr.heap.size := G.out.size
      by_cases hp : x.p < q
      · have hL2 : Hid (lowL P q (j + 1) = L ++ [j]) := hL.out.trans (if_pos hp)
        have N1 : Hid (∀ o : Obj, ∀ i u, x.cells[i]? = some u → o = .cells #[.int .i64 x.k, .int .i64 x.p, .bool x.f, .int .i64 x.g, .slice x.A x.m x.c, .int .i64 x.a, .int .i64 x.h, .int .i64 x.d, .int .i64 x.t] 25 → (wr.alloc o).cell? ((⟨wr.heap.size, 0, none⟩ : Addr).add i) = some u) := by
          intro o i u hu ho
          subst ho
          rw [WideShapes.add_plain, Nat.zero_add, World.cell?_alloc_new, ← hu, List.getElem?_toArray]
          rfl
        go_wp2_with (at_builtin; refine wpList_append_own _ rfl _ _ 22 rfl w.heap.size 25 i0 _ 9 88 Try.underlying22 hi0 hz0 hz1 hz2 rfl (by decide) u5 L.length (podCs (fun t => P (L.getD t 0)) L.length) (by simp [Act.eval]) (own_keep RW.out (Keep.one _ _)) ⟨wr.heap.size, 0, none⟩ 1 1 x.cells (by simp [Act.eval]) (by rw [cells9]) (fun i u hu => N1.out _ i u hu rfl) (cells_one _) (by unfold maxLen; omega) (by omega) (by simp; omega) ?_; intro v2 w2 hr2 hg2 _)
        have RW2 : Hid (w2.ownsRow w.heap.size 25 9 v2 (lowL P q (j + 1)).length (podCs (fun t => P ((lowL P q (j + 1)).getD t 0)) (lowL P q (j + 1)).length)) := by
          rw [hL2.out, List.length_append]
          show World.ownsRow _ _ _ _ _ (L.length + 1) (podCs _ L.length ++ (P ((L ++ [j]).getD L.length 0)).cells)
          rw [getD_snoc, if_neg (Nat.lt_irrefl _), if_pos rfl, ← hx.out, podCs_congr (R := fun t => P (L.getD t 0)) L.length (fun t ht => by rw [getD_snoc, if_pos ht])]
          exact hr2
        have G2 : Hid (Keep w w2) := keep_grown (G.out.trans (Keep.one _ _)) hg2 (fun g hq => (RW.out.lt g hq).1)
        replace hr2 := Lib.hid hr2
        replace hg2 := Lib.hid hg2
        clear x0 x1 x2 x3 x4 x5 x6 x7 x8
        go_roundg (n - (j + 1))
        case measure => omega
        case rel => exact ⟨j + 1, hlt, rfl, by go_num, G2, RW2⟩
      · have hL2 : Hid (lowL P q (j + 1) = L) := hL.out.trans (if_neg hp)
        go_wp2
        go_roundg (n - (j + 1))
        case measure => omega
        case rel => exact ⟨j + 1, hlt, rfl, by go_num, G, by rw [hL2.out]; exact RW⟩
    · obtain rfl : j = n := by omega
      have hll := lowL_len P q j
      obtain ⟨B, d, hB, h0⟩ := own_form RW.out
      subst hB
      go_wp2
      go_ret
      refine ⟨_, rfl, G.out, B, d, fun t => P ((lowL P q j).getD t 0), rfl, ⟨by omega, fun hp => ?_, fun t ht => (hR.out.is _ (lowL_lt P q j t ht)).keep G.out⟩, fun t ht => SameV.refl _⟩
      obtain ⟨g, cap, e, _, _⟩ := RW.out.form hp
      have e' := e
      simp only [Value.slice.injEq] at e'
      obtain ⟨rfl, _, rfl⟩ := e'
      exact ⟨g, 0, rfl, fun t ht => row_cel RW.out ht⟩
end Go.Proofs.Ytflheiodaklceaa
