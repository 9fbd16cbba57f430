/-
  The walk of PodArrivals. Condition: errors.errorType holds its own.
-/
import Derived.Test.YtfidlljhmebpmaaDoorWalk13
namespace Go.Proofs.YtfidlljhmebpmaaDoor.T13
open Go.RowKit Go.Sort Go.Lib V12

/-- One row behind another. -/
def cat (f : Nat) (S T : Nat → PodV) : Nat → PodV := fun j => if j < f then S j else T (j - f)
theorem cat_cs (f g : Nat) (S T : Nat → PodV) : podCs (cat f S T) (f + g) = podCs S f ++ podCs T g := by
  rw [podCs_add]
  congr 1
  · exact podCs_congr f fun j hj => by unfold cat; rw [if_pos hj]
  · exact podCs_congr g fun j _ => by
      unfold cat
      rw [if_neg (by omega)]
      congr 1
      omega
theorem arr_lst {S : Nat → PodV} {f : Nat} {F : List PodV} (h : (lst S f).map nm = F) (hs : F.Pairwise fun x y => x.a < y.a) {i j : Nat} (hij : i < j) (hj : j < f) : (S i).a < (S j).a := by
  subst h
  have e : ∀ t, t < f → ∃ ht : t < ((lst S f).map nm).length, ((lst S f).map nm)[t] = nm (S t) := fun t ht => by
    have hl : t < ((lst S f).map nm).length := by rw [List.length_map, lst_len]; exact ht
    refine ⟨hl, ?_⟩
    have := List.getElem?_eq_getElem hl
    rw [List.getElem?_map, lst_get ht] at this
    exact (Option.some.inj this).symm
  obtain ⟨h1, e1⟩ := e i (by omega)
  obtain ⟨h2, e2⟩ := e j hj
  have := List.pairwise_iff_getElem.1 hs i j h1 h2 hij
  rw [e1, e2] at this
  exact this
theorem cat_arr {f g : Nat} {S T : Nat → PodV} {F G : List PodV} (h1 : (lst S f).map nm = F) (h2 : (lst T g).map nm = G) (s1 : F.Pairwise fun x y => x.a < y.a) (s2 : G.Pairwise fun x y => x.a < y.a) {j : Nat} (hj : j + 1 < f + g) (h : (cat f S T (j + 1)).a ≤ (cat f S T j).a) : j + 1 = f := by
  refine Classical.byContradiction fun hne => ?_
  unfold cat at h
  by_cases h3 : j + 1 < f
  · rw [if_pos h3, if_pos (by omega)] at h
    have := arr_lst h1 s1 (i := j) (j := j + 1) (by omega) h3
    omega
  · rw [if_neg h3, if_neg (by omega)] at h
    have := arr_lst h2 s2 (i := j - f) (j := j + 1 - f) (by omega) (by omega)
    omega
theorem arr_at {S : Nat → PodV} {f : Nat} {L : List PodV} (h : (lst S f).map nm = L) (hok : LOk L) {j : Nat} (hj : j < f) : (S j).a = j := by
  subst h
  have hl : j < ((lst S f).map nm).length := by rw [List.length_map, lst_len]; exact hj
  have h1 := hok.arr j hl
  have := List.getElem?_eq_getElem hl
  rw [List.getElem?_map, lst_get hj] at this
  rw [← Option.some.inj this] at h1
  exact h1
set_option maxRecDepth 100000 in
set_option maxHeartbeats 8000000 in
theorem arr_walk {OS : Pred} (C : Con OS) (A : Option Addr) (n c : Nat) (P : Nat → OpV) (nd : Int) (w : World) (hR : RdO w A n P) (hg : ErrT w) : Calls Tryd.prog 7 #[.slice A n c, .int .i64 nd] w fun e w' => e = .returned (.bool true) ∧ Keep w w' := by
  have hs := hR.small
  obtain ⟨fb, hfb⟩ := few_or P n
  have cF : Hid (∀ W, Keep w W → Calls Tryd.prog 10 #[.slice A n c] W fun e w' => e = .returned (.bool fb) ∧ Keep W w') := fun W k => few_fn A n c P W (hR.keep k) fb hfb
  have aw : Hid (∀ W, Keep w W → Calls Tryd.prog 9 #[] W fun e w' => e = .returned (.bool true) ∧ Keep W w') := fun W k => awake_true C W (hg.keep k)
  have cN : Hid (Calls Tryd.prog 8 #[.int .i64 100] w fun e w' => ∃ q, e = .returned (.pointer (some ⟨q, 0, none⟩)) ∧ OS w 100 q [] (fun _ => False) w' ∧ Keep w w') := C.new 100 w w (Keep.refl w) (by unfold I64; omega)
  replace hfb := Lib.hid hfb
  replace hg := Lib.hid hg
  replace hR := Lib.hid hR
  go_enter Tryd.func7, Tryd.ntmps7
  go_wp2_with fail
  refine cN.out.mono ?_
  rintro e w1 ⟨q, rfl, o1, _⟩
  have K1 := Lib.hid (C.kp o1)
  replace o1 := Lib.hid o1
  go_wp2_with fail
  refine (aw.out _ K1.out).mono ?_
  rintro e w2 ⟨rfl, k2⟩
  replace o1 := Lib.hid (C.keep o1.out k2)
  replace K1 := Lib.hid (C.kp o1.out)
  replace k2 := Lib.hid k2
  go_wp2_with fail
  refine (cF.out w2 K1.out).mono ?_
  rintro e w3 ⟨rfl, k3⟩
  replace o1 := Lib.hid (C.keep o1.out k3)
  replace K1 := Lib.hid (C.kp o1.out)
  replace k3 := Lib.hid k3
  cases fb with
  | false =>
    go_wp2_with fail
    refine (aw.out _ K1.out).mono ?_
    rintro e w4 ⟨rfl, k4⟩
    go_wp2
    go_ret
    exact ⟨rfl, K1.out.trans k4⟩
  | true =>
  have hf := hfb.out.1 rfl
  have hn := hf.1
  replace hf := Lib.hid hf
  clear cN aw cF
  go_wp2
  go_loopg [6, 7] n (fun gx s6 s7 wr => ∃ (i m : Nat) (B : Option Addr) (d : Nat) (Q : Nat → PodV) (M : List PodV) (X : Nat → Prop), i ≤ n ∧ gx = n - i ∧ s7 = .int .i64 i ∧ s6 = .slice B m d ∧ m ≤ i ∧ Hid (St OS w 100 q M X wr B d m Q))
  case atStart => exact ⟨0, 0, none, 0, _, [], _, Nat.zero_le _, rfl, rfl, rfl, Nat.le_refl _, St.new o1.out⟩
  case round =>
    clear o1 K1 k2 k3
    obtain ⟨i, m, B, d, Q, M, X, hi, rfl, rfl, rfl, hmi, SS⟩ := hrel
    by_cases hlt : i < n
    · have KR := Lib.hid (C.kp SS.out.o)
      have RP := hR.out.keep KR.out
      obtain ⟨b, off, hA, ca⟩ := RP.adr (by omega)
      subst hA
      have q1 := atO b off n c i hlt
      have X0 := ca i hlt
      have ox := hR.out.is i hlt
      have hnx := (hf.out.2 i hlt).m
      clear ca RP
      obtain ⟨x, hx⟩ : ∃ x, x = P i := ⟨_, rfl⟩
      rw [← hx] at X0 ox hnx
      replace hx := Lib.hid hx
      have x_e := X0.e; have x_n := X0.n; have x_d := X0.d
      have y0 := X0.x.e0; have y1 := X0.x.e1; have y2 := X0.x.e2; have y3 := X0.x.e3; have y4 := X0.x.e4; have y5 := X0.x.e5; have y6 := X0.x.e6; have y7 := X0.x.e7; have y8 := X0.x.e8
      clear X0
      have cP := st_play C SS.out hg.out x ox hnx (by omega)
      unfold OpV.val at cP
      replace cP := Lib.hid cP
      replace ox := Lib.hid ox
      replace hnx := Lib.hid hnx
      go_wp2_with fail
      refine cP.out.mono ?_
      rintro e w4 ⟨B4, d4, m4, Q4, X4, rfl, hm4, S4⟩
      replace S4 := Lib.hid S4
      clear x_e x_n x_d y0 y1 y2 y3 y4 y5 y6 y7 y8 cP
      go_wp2
      go_roundg (n - (i + 1))
      case measure => omega
      case rel => exact ⟨i + 1, m4, B4, d4, Q4, _, X4, hlt, rfl, by go_num, rfl, by omega, S4⟩
    · obtain rfl : i = n := by omega
      obtain ⟨wo, hwo⟩ : ∃ wo, wo = wr := ⟨_, rfl⟩
      subst hwo
      have KR := Lib.hid (C.kp SS.out.o)
      have hlen := SS.out.len
      have hok := Lib.hid (C.ok SS.out.o)
      have hm60 : m ≤ 60 := by omega
      have cA := C.all SS.out.o SS.out.m3 (by rw [hlen]; omega)
      rw [hlen] at cA
      replace cA := Lib.hid cA
      replace hlen := Lib.hid hlen
      go_wp2_with fail
      refine cA.out.mono ?_
      rintro e w5 ⟨v, S, rfl, R5, E5, k5⟩
      obtain ⟨A5, d5, rfl, D5⟩ := R5.rd (by omega)
      have S5 := Lib.hid (SS.out.keep C k5)
      have K5 := Lib.hid (KR.out.trans k5)
      replace R5 := Lib.hid R5
      replace D5 := Lib.hid D5
      replace E5 := Lib.hid E5
      replace k5 := Lib.hid k5
      clear cA
      go_wp2
      go_loopg [9] m (fun gx s9 wr2 => ∃ (k : Nat), k ≤ m ∧ gx = m - k ∧ s9 = .int .i64 k ∧ Hid (Keep w5 wr2))
      case atStart => exact ⟨0, Nat.zero_le _, rfl, rfl, Keep.refl _⟩
      case round =>
        obtain ⟨k, hk, rfl, rfl, KQ⟩ := hrel
        by_cases hlk : k < m
        · obtain ⟨b, off, e5, c5⟩ := (D5.out.keep KQ.out).adr (by omega)
          subst e5
          have q1 := pods_at b off m d5 k hlk
          have z5 := (c5 k hlk).e5
          rw [arr_at E5.out hok.out hlk] at z5
          clear c5
          go_wp2
          go_roundg (m - (k + 1))
          case measure => omega
          case rel => exact ⟨k + 1, hlk, rfl, by go_num, KQ⟩
        · obtain rfl : k = m := by omega
          have KW := Lib.hid (K5.out.trans KQ.out)
          have S6 := Lib.hid (S5.out.keep C KQ.out)
          have hlf : (M.filter (onB nd)).length ≤ k := by rw [← hlen.out]; exact List.length_filter_le _ _
          have hlg : (M.filter (withB 1)).length ≤ k := by rw [← hlen.out]; exact List.length_filter_le _ _
          have sF := Lib.hid (hok.out.filter (onB nd))
          have sG := Lib.hid (hok.out.filter (withB 1))
          have cO : Hid (∀ W, Keep wr W → Calls Tryd.prog 18 #[.pointer (some ⟨q, 0, none⟩), .int .i64 nd] W fun e w' => ∃ v S, e = .returned v ∧ RowP w' W.heap.size v (M.filter (onB nd)).length S ∧ (lst S (M.filter (onB nd)).length).map nm = M.filter (onB nd) ∧ Keep W w') := fun W kw => C.on nd (C.keep S6.out.o kw) S6.out.m3 (by rw [hlen.out]; omega)
          have cW : Hid (∀ W, Keep wr W → Calls Tryd.prog 20 #[.pointer (some ⟨q, 0, none⟩), .int .i64 1] W fun e w' => ∃ v S, e = .returned v ∧ RowP w' W.heap.size v (M.filter (withB 1)).length S ∧ (lst S (M.filter (withB 1)).length).map nm = M.filter (withB 1) ∧ Keep W w') := fun W kw => C.withP 1 (C.keep S6.out.o kw) S6.out.m3 (by rw [hlen.out]; omega)
          obtain ⟨F, hF⟩ : ∃ F, F = M.filter (onB nd) := ⟨_, rfl⟩
          obtain ⟨G, hG⟩ : ∃ G, G = M.filter (withB 1) := ⟨_, rfl⟩
          rw [← hF] at hlf sF cO
          rw [← hG] at hlg sG cW
          obtain ⟨f, hf2⟩ : ∃ f, f = F.length := ⟨_, rfl⟩
          obtain ⟨g0, hg2⟩ : ∃ g0, g0 = G.length := ⟨_, rfl⟩
          rw [← hf2] at hlf cO
          rw [← hg2] at hlg cW
          replace hF := Lib.hid hF
          replace hG := Lib.hid hG
          replace hf2 := Lib.hid hf2
          replace hg2 := Lib.hid hg2
          have cO1 := Lib.hid (cO.out wr (Keep.refl _))
          go_wp2_with fail
          refine cO1.out.mono ?_
          rintro e w6 ⟨v6, T6, rfl, R6, E6, k6⟩
          obtain ⟨A6, d6, rfl, _⟩ := R6.rd (by omega)
          have cW1 := Lib.hid (cW.out w6 k6)
          replace R6 := Lib.hid R6
          replace E6 := Lib.hid E6
          replace k6 := Lib.hid k6
          clear cO1 cW
          go_wp2_with fail
          refine cW1.out.mono ?_
          rintro e w7 ⟨v7, T7, rfl, R7, E7, k7⟩
          obtain ⟨A7, d7, rfl, D7⟩ := R7.rd (by omega)
          have n7 := Lib.hid (own_form R7.row)
          have K7 := Lib.hid (k6.out.trans k7)
          have R67 := Lib.hid (R6.out.row)
          replace R67 := Lib.hid (own_keep R67.out k7)
          replace R7 := Lib.hid R7
          replace D7 := Lib.hid D7
          replace E7 := Lib.hid E7
          have sz7 : Hid (wr.heap.size ≤ w7.heap.size) := (k6.out.trans k7).size
          replace k7 := Lib.hid k7
          clear cW1
          have nl7 : Hid (A7 = none → g0 = 0 ∧ d7 = 0) := by
            obtain ⟨A', c', e', h'⟩ := n7.out
            simp only [Value.slice.injEq] at e'
            obtain ⟨rfl, _, rfl⟩ := e'
            exact h'
          go_wp2_with (at_builtin; refine wpl_own Tryd.tyP13 rfl _ _ rfl wr.heap.size (.slice A6 f d6) f (podCs T6 f) (by simp [Act.eval]) R67.out (.slice A7 g0 d7) g0 (podCs T7 g0) (by simp [Act.eval]) (src_rd D7.out nl7.out) (podCs_one _ _) (by omega) sz7.out (f + g0) rfl ?_; intro v8 w8 hr8 hg8)
          have K8 : Hid (Keep wr w8) := keep_grown K7.out hg8 (fun q hq => (R67.out.lt q hq).1)
          rw [← cat_cs] at hr8
          obtain ⟨A8, d8, rfl, nl8⟩ := own_form hr8
          obtain ⟨N, hN⟩ : ∃ N, N = f + g0 := ⟨_, rfl⟩
          rw [← hN] at hr8 nl8 ⊢
          have cO8 := Lib.hid (fun W (k : Keep w8 W) => cO.out W (K8.out.trans k))
          have KW8 := Lib.hid (KW.out.trans K8.out)
          have hN120 : N ≤ 120 := by omega
          replace hN := Lib.hid hN
          replace hr8 := Lib.hid hr8
          replace hg8 := Lib.hid hg8
          replace nl8 := Lib.hid nl8
          go_wp2
          go_loopg [11] N (fun gx s11 wr3 => ∃ (j : Nat), gx = N - j ∧ (j = 0 ∨ j < N) ∧ s11 = .int .i64 ((j + 1 : Nat) : Int) ∧ Hid (Keep w8 wr3))
          case atStart => exact ⟨0, rfl, Or.inl rfl, rfl, Keep.refl _⟩
          case round =>
            clear cO K8 K7 R67 R6 R7 D7 n7 k6 k7 sz7 hg8 nl7
            obtain ⟨j, rfl, hj, rfl, KQ3⟩ := hrel
            by_cases hlj : j + 1 < N
            · have hA8 : A8 ≠ none := fun h => by have := (nl8.out h).1; omega
              obtain ⟨gg, eg⟩ : ∃ gg, A8 = some ⟨gg, 0, none⟩ := by
                obtain ⟨gg, cap, eg, _, _⟩ := hr8.out.form (by omega)
                simp only [Value.slice.injEq] at eg
                exact ⟨gg, eg.1⟩
              subst eg
              have y1 := KQ3.out.cell (row_cel (j := j + 1) hr8.out (by omega)).e5
              have y0 := KQ3.out.cell (row_cel (j := j) hr8.out (by omega)).e5
              have q0 := pods_at gg 0 N d8 j (by omega)
              have hca : Hid ((cat f T6 T7 (j + 1)).a ≤ (cat f T6 T7 j).a → j + 1 = f) := cat_arr E6.out E7.out sF.out sG.out (by rw [← hN.out]; omega)
              obtain ⟨a1, ha1⟩ : ∃ a, a = (cat f T6 T7 (j + 1)).a := ⟨_, rfl⟩
              obtain ⟨a0, ha0⟩ : ∃ a, a = (cat f T6 T7 j).a := ⟨_, rfl⟩
              rw [← ha1] at y1 hca
              rw [← ha0] at y0 hca
              replace ha1 := Lib.hid ha1
              replace ha0 := Lib.hid ha0
              obtain ⟨J, hJ⟩ : ∃ J, J = j + 1 := ⟨_, rfl⟩
              have ej : IntKind.i64.wrap ((J : Int) + 1) = ((j + 1 + 1 : Nat) : Int) := by rw [IntKind.wrap_i64]; omega
              rw [← hJ] at y1 hca hlj ⊢
              have q1 := pods_at gg 0 N d8 J hlj
              have ew : IntKind.i64.wrap ((J : Int) - 1) = (j : Int) := by rw [IntKind.wrap_i64]; omega
              have z1 := y1
              have z0 := y0
              simp only [Nat.zero_add] at z1 z0 q1 q0
              have hJn : J ≤ 121 := by omega
              have hjn : j < N := by omega
              have hmes : N - J < N - j := by omega
              replace hJ := Lib.hid hJ
              clear y1 y0
              by_cases hle : a1 ≤ a0
              · have hjf := Lib.hid (hca.out hle)
                rw [← hjf.out] at cO8
                replace cO8 := Lib.hid (fun W (k : Keep wr W) => cO8.out W (KQ3.out.trans k))
                go_wp2
                have HELD : ∀ Wz, Keep wr Wz → (Wz.cell? ⟨gg, J * 9 + 5, none⟩ = some (.int .i64 a1) ∧ Wz.cell? ⟨gg, j * 9 + 5, none⟩ = some (.int .i64 a0)) := fun Wz KK => ⟨KK.cell z1, KK.cell z0⟩
                refine wp_region_held_drew (S := fun w' => w'.cell? ⟨gg, J * 9 + 5, none⟩ = some (.int .i64 a1) ∧ w'.cell? ⟨gg, j * 9 + 5, none⟩ = some (.int .i64 a0)) (by kernel_rfl) ?_ (fun hHeld => ?_)
                · exact HELD _ (by repeat (with_reducible first | exact Keep.refl wr | apply Keep.alloc | apply Keep.drew | apply Keep.drewN))
                refine wpAnyH_take (i := 0) (v := .slice (some ⟨gg, 0, none⟩) N d8) rfl (by kernel_rfl) (by kernel_rfl) (by kernel_rfl) (fun _ _ _ h => h) (Or.inl ⟨by rfl, fun Wz hW => by obtain ⟨s1, s0⟩ := hW; go_simp⟩) hHeld ?_
                simp only [Act.put, List.getElem_toArray, List.getElem_cons_zero, List.setIfInBounds_toArray, List.set_cons_zero, List.set_cons_succ]
                refine wpAnyH_take (i := 1) (v := .int .i64 J) rfl (by kernel_rfl) (by kernel_rfl) (by kernel_rfl) (fun _ _ _ h => h) (Or.inl ⟨by rfl, fun Wz hW => by obtain ⟨s1, s0⟩ := hW; go_simp⟩) hHeld ?_
                simp only [Act.put, List.getElem_toArray, List.getElem_cons_succ, List.getElem_cons_zero, List.setIfInBounds_toArray, List.set_cons_zero, List.set_cons_succ]
                refine wpAnyH_take (i := 2) (v := .pointer (some ⟨gg, J * 9, none⟩)) rfl (by kernel_rfl) (by kernel_rfl) (by kernel_rfl) (fun _ _ _ h => h) (Or.inl ⟨by rfl, fun Wz hW => by obtain ⟨s1, s0⟩ := hW; go_simp⟩) hHeld ?_
                simp only [Act.put, List.getElem_toArray, List.getElem_cons_succ, List.getElem_cons_zero, List.setIfInBounds_toArray, List.set_cons_zero, List.set_cons_succ]
                refine wpAnyH_take (i := 3) (v := .pointer (some ⟨gg, J * 9 + 5, none⟩)) rfl (by kernel_rfl) (by kernel_rfl) (by kernel_rfl) (fun _ _ _ h => h) (Or.inl ⟨by rfl, fun Wz hW => by obtain ⟨s1, s0⟩ := hW; go_simp⟩) hHeld ?_
                simp only [Act.put, List.getElem_toArray, List.getElem_cons_succ, List.getElem_cons_zero, List.setIfInBounds_toArray, List.set_cons_zero, List.set_cons_succ]
                refine wpAnyH_take (i := 4) (v := .int .i64 a1) rfl (by kernel_rfl) (by kernel_rfl) (by kernel_rfl) (fun _ _ _ h => h) (Or.inl ⟨by rfl, fun Wz hW => by obtain ⟨s1, s0⟩ := hW; go_simp⟩) hHeld ?_
                simp only [Act.put, List.getElem_toArray, List.getElem_cons_succ, List.getElem_cons_zero, List.setIfInBounds_toArray, List.set_cons_zero, List.set_cons_succ]
                refine wpAnyH_take (i := 5) (v := .slice (some ⟨gg, 0, none⟩) N d8) rfl (by kernel_rfl) (by kernel_rfl) (by kernel_rfl) (fun _ _ _ h => h) (Or.inl ⟨by rfl, fun Wz hW => by obtain ⟨s1, s0⟩ := hW; go_simp⟩) hHeld ?_
                simp only [Act.put, List.getElem_toArray, List.getElem_cons_succ, List.getElem_cons_zero, List.setIfInBounds_toArray, List.set_cons_zero, List.set_cons_succ]
                refine wpAnyH_take (i := 6) (v := .int .i64 J) rfl (by kernel_rfl) (by kernel_rfl) (by kernel_rfl) (fun _ _ _ h => h) (Or.inl ⟨by rfl, fun Wz hW => by obtain ⟨s1, s0⟩ := hW; go_simp⟩) hHeld ?_
                simp only [Act.put, List.getElem_toArray, List.getElem_cons_succ, List.getElem_cons_zero, List.setIfInBounds_toArray, List.set_cons_zero, List.set_cons_succ]
                refine wpAnyH_take (i := 7) (v := .int .i64 j) rfl (by kernel_rfl) (by kernel_rfl) (by kernel_rfl) (fun _ _ _ h => h) (Or.inl ⟨by rfl, fun Wz hW => by obtain ⟨s1, s0⟩ := hW; first | (go_simp; done) | (go_simp; rw [ew]; done) | (go_simp; simp [ew]; done)⟩) hHeld ?_
                simp only [Act.put, List.getElem_toArray, List.getElem_cons_succ, List.getElem_cons_zero, List.setIfInBounds_toArray, List.set_cons_zero, List.set_cons_succ]
                refine wpAnyH_take (i := 8) (v := .pointer (some ⟨gg, j * 9, none⟩)) rfl (by kernel_rfl) (by kernel_rfl) (by kernel_rfl) (fun _ _ _ h => h) (Or.inl ⟨by rfl, fun Wz hW => by obtain ⟨s1, s0⟩ := hW; go_simp⟩) hHeld ?_
                simp only [Act.put, List.getElem_toArray, List.getElem_cons_succ, List.getElem_cons_zero, List.setIfInBounds_toArray, List.set_cons_zero, List.set_cons_succ]
                refine wpAnyH_take (i := 9) (v := .pointer (some ⟨gg, j * 9 + 5, none⟩)) rfl (by kernel_rfl) (by kernel_rfl) (by kernel_rfl) (fun _ _ _ h => h) (Or.inl ⟨by rfl, fun Wz hW => by obtain ⟨s1, s0⟩ := hW; go_simp⟩) hHeld ?_
                simp only [Act.put, List.getElem_toArray, List.getElem_cons_succ, List.getElem_cons_zero, List.setIfInBounds_toArray, List.set_cons_zero, List.set_cons_succ]
                refine wpAnyH_take (i := 10) (v := .int .i64 a0) rfl (by kernel_rfl) (by kernel_rfl) (by kernel_rfl) (fun _ _ _ h => h) (Or.inl ⟨by rfl, fun Wz hW => by obtain ⟨s1, s0⟩ := hW; go_simp⟩) hHeld ?_
                simp only [Act.put, List.getElem_toArray, List.getElem_cons_succ, List.getElem_cons_zero, List.setIfInBounds_toArray, List.set_cons_zero, List.set_cons_succ]
                refine wpAnyH_take (i := 11) (v := .bool true) rfl (by kernel_rfl) (by kernel_rfl) (by kernel_rfl) (fun _ _ _ h => h) (Or.inl ⟨by rfl, fun Wz hW => by obtain ⟨s1, s0⟩ := hW; first | (go_simp; done) | (go_simp; simp [hle]; done) | (simp [hle]; done)⟩) hHeld ?_
                simp only [Act.put, List.getElem_toArray, List.getElem_cons_succ, List.getElem_cons_zero, List.setIfInBounds_toArray, List.set_cons_zero, List.set_cons_succ]
                refine wpAnyH_take (i := 12) (v := .bool true) rfl (by kernel_rfl) (by kernel_rfl) (by kernel_rfl) (fun _ _ _ h => h) (Or.inl ⟨by rfl, fun Wz hW => by obtain ⟨s1, s0⟩ := hW; go_simp⟩) hHeld ?_
                simp only [Act.put, List.getElem_toArray, List.getElem_cons_succ, List.getElem_cons_zero, List.setIfInBounds_toArray, List.set_cons_zero, List.set_cons_succ]
                refine wpAnyH_take (i := 13) (v := .int .i64 J) rfl (by kernel_rfl) (by kernel_rfl) (by kernel_rfl) (fun _ _ _ h => h) (Or.inl ⟨by rfl, fun Wz hW => by obtain ⟨s1, s0⟩ := hW; go_simp⟩) hHeld ?_
                simp only [Act.put, List.getElem_toArray, List.getElem_cons_succ, List.getElem_cons_zero, List.setIfInBounds_toArray, List.set_cons_zero, List.set_cons_succ]
                refine wpAnyH_take (i := 14) (v := .pointer (some ⟨q, 0, none⟩)) rfl (by kernel_rfl) (by kernel_rfl) (by kernel_rfl) (fun _ _ _ h => h) (Or.inl ⟨by rfl, fun Wz hW => by obtain ⟨s1, s0⟩ := hW; go_simp⟩) hHeld ?_
                simp only [Act.put, List.getElem_toArray, List.getElem_cons_succ, List.getElem_cons_zero, List.setIfInBounds_toArray, List.set_cons_zero, List.set_cons_succ]
                refine wpAnyH_take (i := 15) (v := .int .i64 nd) rfl (by kernel_rfl) (by kernel_rfl) (by kernel_rfl) (fun _ _ _ h => h) (Or.inl ⟨by rfl, fun Wz hW => by obtain ⟨s1, s0⟩ := hW; go_simp⟩) hHeld ?_
                simp only [Act.put, List.getElem_toArray, List.getElem_cons_succ, List.getElem_cons_zero, List.setIfInBounds_toArray, List.set_cons_zero, List.set_cons_succ]
                refine wpAnyH_ready (rs := [16]) (by kernel_rfl) (by simp) ?_
                refine AllReadyH.cons rfl (fun K hK => ?_) AllReadyH.nil
                simp only [List.getElem_toArray, List.getElem_cons_succ, List.getElem_cons_zero]
                rw [if_pos (by rfl)]
                go_simp
                refine (cO8.out _ (by repeat (with_reducible first | exact Keep.refl wr | apply Keep.alloc | apply Keep.drew | apply Keep.drewN))).mono ?_
                rintro e w9 ⟨v9, S9, rfl, R9, _, k9⟩; obtain ⟨A9, d9, rfl, _⟩ := R9.rd (by omega); replace R9 := Lib.hid R9; replace k9 := Lib.hid k9
                go_wp2_with fail
                refine hK.out _ _ ?_ (fun hHeld => ?_)
                · exact HELD _ (by repeat (with_reducible first | exact Keep.refl wr | apply Keep.alloc | apply Keep.drew | apply Keep.drewN | (refine Keep.trans ?_ k9.out)))
                clear hK K
                try simp only [Act.put, List.getElem_toArray, List.getElem_cons_succ, List.getElem_cons_zero, List.setIfInBounds_toArray, List.set_cons_zero, List.set_cons_succ]
                refine wpAnyH_take (i := 17) (v := .int .i64 J) rfl (by kernel_rfl) (by kernel_rfl) (by kernel_rfl) (fun _ _ _ h => h) (Or.inl ⟨by rfl, fun Wz hW => by obtain ⟨s1, s0⟩ := hW; go_simp⟩) hHeld ?_
                simp only [Act.put, List.getElem_toArray, List.getElem_cons_succ, List.getElem_cons_zero, List.setIfInBounds_toArray, List.set_cons_zero, List.set_cons_succ]
                refine wpAnyH_take (i := 18) (v := .bool false) rfl (by kernel_rfl) (by kernel_rfl) (by kernel_rfl) (fun _ _ _ h => h) (Or.inl ⟨by rfl, fun Wz hW => by obtain ⟨s1, s0⟩ := hW; first | (go_simp; done) | (go_simp; simp; done)⟩) hHeld ?_
                simp only [Act.put, List.getElem_toArray, List.getElem_cons_succ, List.getElem_cons_zero, List.setIfInBounds_toArray, List.set_cons_zero, List.set_cons_succ]
                refine wpAnyH_take (i := 19) (v := .bool false) rfl (by kernel_rfl) (by kernel_rfl) (by kernel_rfl) (fun _ _ _ h => h) (Or.inl ⟨by rfl, fun Wz hW => by obtain ⟨s1, s0⟩ := hW; go_simp⟩) hHeld ?_
                simp only [Act.put, List.getElem_toArray, List.getElem_cons_succ, List.getElem_cons_zero, List.setIfInBounds_toArray, List.set_cons_zero, List.set_cons_succ]
                refine wpAnyH_done (by kernel_rfl) ?_ _
                go_wp2
                go_roundg (N - J)
                case measure => exact hmes
                case rel => exact ⟨J, rfl, Or.inr hlj, by rw [hJ.out] at ej ⊢; go_num, KQ3.out.trans (by repeat (with_reducible first | exact Keep.refl wr | apply Keep.alloc | apply Keep.drew | apply Keep.drewN | (refine Keep.trans ?_ k9.out)))⟩
              · go_wp2
                have HELD : ∀ Wz, Keep wr Wz → (Wz.cell? ⟨gg, J * 9 + 5, none⟩ = some (.int .i64 a1) ∧ Wz.cell? ⟨gg, j * 9 + 5, none⟩ = some (.int .i64 a0)) := fun Wz KK => ⟨KK.cell z1, KK.cell z0⟩
                refine wp_region_held_drew (S := fun w' => w'.cell? ⟨gg, J * 9 + 5, none⟩ = some (.int .i64 a1) ∧ w'.cell? ⟨gg, j * 9 + 5, none⟩ = some (.int .i64 a0)) (by kernel_rfl) ?_ (fun hHeld => ?_)
                · exact HELD _ (by repeat (with_reducible first | exact Keep.refl wr | apply Keep.alloc | apply Keep.drew | apply Keep.drewN))
                refine wpAnyH_take (i := 0) (v := .slice (some ⟨gg, 0, none⟩) N d8) rfl (by kernel_rfl) (by kernel_rfl) (by kernel_rfl) (fun _ _ _ h => h) (Or.inl ⟨by rfl, fun Wz hW => by obtain ⟨s1, s0⟩ := hW; go_simp⟩) hHeld ?_
                simp only [Act.put, List.getElem_toArray, List.getElem_cons_zero, List.setIfInBounds_toArray, List.set_cons_zero, List.set_cons_succ]
                refine wpAnyH_take (i := 1) (v := .int .i64 J) rfl (by kernel_rfl) (by kernel_rfl) (by kernel_rfl) (fun _ _ _ h => h) (Or.inl ⟨by rfl, fun Wz hW => by obtain ⟨s1, s0⟩ := hW; go_simp⟩) hHeld ?_
                simp only [Act.put, List.getElem_toArray, List.getElem_cons_succ, List.getElem_cons_zero, List.setIfInBounds_toArray, List.set_cons_zero, List.set_cons_succ]
                refine wpAnyH_take (i := 2) (v := .pointer (some ⟨gg, J * 9, none⟩)) rfl (by kernel_rfl) (by kernel_rfl) (by kernel_rfl) (fun _ _ _ h => h) (Or.inl ⟨by rfl, fun Wz hW => by obtain ⟨s1, s0⟩ := hW; go_simp⟩) hHeld ?_
                simp only [Act.put, List.getElem_toArray, List.getElem_cons_succ, List.getElem_cons_zero, List.setIfInBounds_toArray, List.set_cons_zero, List.set_cons_succ]
                refine wpAnyH_take (i := 3) (v := .pointer (some ⟨gg, J * 9 + 5, none⟩)) rfl (by kernel_rfl) (by kernel_rfl) (by kernel_rfl) (fun _ _ _ h => h) (Or.inl ⟨by rfl, fun Wz hW => by obtain ⟨s1, s0⟩ := hW; go_simp⟩) hHeld ?_
                simp only [Act.put, List.getElem_toArray, List.getElem_cons_succ, List.getElem_cons_zero, List.setIfInBounds_toArray, List.set_cons_zero, List.set_cons_succ]
                refine wpAnyH_take (i := 4) (v := .int .i64 a1) rfl (by kernel_rfl) (by kernel_rfl) (by kernel_rfl) (fun _ _ _ h => h) (Or.inl ⟨by rfl, fun Wz hW => by obtain ⟨s1, s0⟩ := hW; go_simp⟩) hHeld ?_
                simp only [Act.put, List.getElem_toArray, List.getElem_cons_succ, List.getElem_cons_zero, List.setIfInBounds_toArray, List.set_cons_zero, List.set_cons_succ]
                refine wpAnyH_take (i := 5) (v := .slice (some ⟨gg, 0, none⟩) N d8) rfl (by kernel_rfl) (by kernel_rfl) (by kernel_rfl) (fun _ _ _ h => h) (Or.inl ⟨by rfl, fun Wz hW => by obtain ⟨s1, s0⟩ := hW; go_simp⟩) hHeld ?_
                simp only [Act.put, List.getElem_toArray, List.getElem_cons_succ, List.getElem_cons_zero, List.setIfInBounds_toArray, List.set_cons_zero, List.set_cons_succ]
                refine wpAnyH_take (i := 6) (v := .int .i64 J) rfl (by kernel_rfl) (by kernel_rfl) (by kernel_rfl) (fun _ _ _ h => h) (Or.inl ⟨by rfl, fun Wz hW => by obtain ⟨s1, s0⟩ := hW; go_simp⟩) hHeld ?_
                simp only [Act.put, List.getElem_toArray, List.getElem_cons_succ, List.getElem_cons_zero, List.setIfInBounds_toArray, List.set_cons_zero, List.set_cons_succ]
                refine wpAnyH_take (i := 7) (v := .int .i64 j) rfl (by kernel_rfl) (by kernel_rfl) (by kernel_rfl) (fun _ _ _ h => h) (Or.inl ⟨by rfl, fun Wz hW => by obtain ⟨s1, s0⟩ := hW; first | (go_simp; done) | (go_simp; rw [ew]; done) | (go_simp; simp [ew]; done)⟩) hHeld ?_
                simp only [Act.put, List.getElem_toArray, List.getElem_cons_succ, List.getElem_cons_zero, List.setIfInBounds_toArray, List.set_cons_zero, List.set_cons_succ]
                refine wpAnyH_take (i := 8) (v := .pointer (some ⟨gg, j * 9, none⟩)) rfl (by kernel_rfl) (by kernel_rfl) (by kernel_rfl) (fun _ _ _ h => h) (Or.inl ⟨by rfl, fun Wz hW => by obtain ⟨s1, s0⟩ := hW; go_simp⟩) hHeld ?_
                simp only [Act.put, List.getElem_toArray, List.getElem_cons_succ, List.getElem_cons_zero, List.setIfInBounds_toArray, List.set_cons_zero, List.set_cons_succ]
                refine wpAnyH_take (i := 9) (v := .pointer (some ⟨gg, j * 9 + 5, none⟩)) rfl (by kernel_rfl) (by kernel_rfl) (by kernel_rfl) (fun _ _ _ h => h) (Or.inl ⟨by rfl, fun Wz hW => by obtain ⟨s1, s0⟩ := hW; go_simp⟩) hHeld ?_
                simp only [Act.put, List.getElem_toArray, List.getElem_cons_succ, List.getElem_cons_zero, List.setIfInBounds_toArray, List.set_cons_zero, List.set_cons_succ]
                refine wpAnyH_take (i := 10) (v := .int .i64 a0) rfl (by kernel_rfl) (by kernel_rfl) (by kernel_rfl) (fun _ _ _ h => h) (Or.inl ⟨by rfl, fun Wz hW => by obtain ⟨s1, s0⟩ := hW; go_simp⟩) hHeld ?_
                simp only [Act.put, List.getElem_toArray, List.getElem_cons_succ, List.getElem_cons_zero, List.setIfInBounds_toArray, List.set_cons_zero, List.set_cons_succ]
                refine wpAnyH_take (i := 11) (v := .bool false) rfl (by kernel_rfl) (by kernel_rfl) (by kernel_rfl) (fun _ _ _ h => h) (Or.inl ⟨by rfl, fun Wz hW => by obtain ⟨s1, s0⟩ := hW; first | (go_simp; done) | (go_simp; simp [hle]; done) | (simp [hle]; done)⟩) hHeld ?_
                simp only [Act.put, List.getElem_toArray, List.getElem_cons_succ, List.getElem_cons_zero, List.setIfInBounds_toArray, List.set_cons_zero, List.set_cons_succ]
                refine wpAnyH_take (i := 12) (v := .bool false) rfl (by kernel_rfl) (by kernel_rfl) (by kernel_rfl) (fun _ _ _ h => h) (Or.inl ⟨by rfl, fun Wz hW => by obtain ⟨s1, s0⟩ := hW; go_simp⟩) hHeld ?_
                simp only [Act.put, List.getElem_toArray, List.getElem_cons_succ, List.getElem_cons_zero, List.setIfInBounds_toArray, List.set_cons_zero, List.set_cons_succ]
                refine wpAnyH_take (i := 13) (v := undef) rfl (by kernel_rfl) (by kernel_rfl) (by kernel_rfl) (fun _ _ _ h => h) (Or.inr ⟨by rfl, rfl⟩) hHeld ?_
                simp only [Act.put, List.getElem_toArray, List.getElem_cons_succ, List.getElem_cons_zero, List.setIfInBounds_toArray, List.set_cons_zero, List.set_cons_succ]
                refine wpAnyH_take (i := 14) (v := undef) rfl (by kernel_rfl) (by kernel_rfl) (by kernel_rfl) (fun _ _ _ h => h) (Or.inr ⟨by rfl, rfl⟩) hHeld ?_
                simp only [Act.put, List.getElem_toArray, List.getElem_cons_succ, List.getElem_cons_zero, List.setIfInBounds_toArray, List.set_cons_zero, List.set_cons_succ]
                refine wpAnyH_take (i := 15) (v := undef) rfl (by kernel_rfl) (by kernel_rfl) (by kernel_rfl) (fun _ _ _ h => h) (Or.inr ⟨by rfl, rfl⟩) hHeld ?_
                simp only [Act.put, List.getElem_toArray, List.getElem_cons_succ, List.getElem_cons_zero, List.setIfInBounds_toArray, List.set_cons_zero, List.set_cons_succ]
                refine wpAnyH_take (i := 16) (v := undef) rfl (by kernel_rfl) (by kernel_rfl) (by kernel_rfl) (fun _ _ _ h => h) (Or.inr ⟨by rfl, rfl⟩) hHeld ?_
                simp only [Act.put, List.getElem_toArray, List.getElem_cons_succ, List.getElem_cons_zero, List.setIfInBounds_toArray, List.set_cons_zero, List.set_cons_succ]
                refine wpAnyH_take (i := 17) (v := undef) rfl (by kernel_rfl) (by kernel_rfl) (by kernel_rfl) (fun _ _ _ h => h) (Or.inr ⟨by rfl, rfl⟩) hHeld ?_
                simp only [Act.put, List.getElem_toArray, List.getElem_cons_succ, List.getElem_cons_zero, List.setIfInBounds_toArray, List.set_cons_zero, List.set_cons_succ]
                refine wpAnyH_take (i := 18) (v := undef) rfl (by kernel_rfl) (by kernel_rfl) (by kernel_rfl) (fun _ _ _ h => h) (Or.inr ⟨by rfl, rfl⟩) hHeld ?_
                simp only [Act.put, List.getElem_toArray, List.getElem_cons_succ, List.getElem_cons_zero, List.setIfInBounds_toArray, List.set_cons_zero, List.set_cons_succ]
                refine wpAnyH_take (i := 19) (v := .bool false) rfl (by kernel_rfl) (by kernel_rfl) (by kernel_rfl) (fun _ _ _ h => h) (Or.inl ⟨by rfl, fun Wz hW => by obtain ⟨s1, s0⟩ := hW; go_simp⟩) hHeld ?_
                simp only [Act.put, List.getElem_toArray, List.getElem_cons_succ, List.getElem_cons_zero, List.setIfInBounds_toArray, List.set_cons_zero, List.set_cons_succ]
                refine wpAnyH_done (by kernel_rfl) ?_ _
                go_wp2
                go_roundg (N - J)
                case measure => exact hmes
                case rel => exact ⟨J, rfl, Or.inr hlj, by rw [hJ.out] at ej ⊢; go_num, KQ3.out.trans (by repeat (with_reducible first | exact Keep.refl wr | apply Keep.alloc | apply Keep.drew | apply Keep.drewN))⟩
            · go_wp2
              go_ret
              exact ⟨rfl, KW8.out.trans KQ3.out⟩
end Go.Proofs.YtfidlljhmebpmaaDoor.T13
