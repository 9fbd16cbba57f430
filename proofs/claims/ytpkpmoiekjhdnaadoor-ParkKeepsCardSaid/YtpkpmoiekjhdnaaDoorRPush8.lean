/-
  The reference's Push. Conditions: at most 1000 pods in all, priorities up to 2^30.
-/
import Derived.Test.YtpkpmoiekjhdnaaDoorRef8
namespace Go.Proofs.YtpkpmoiekjhdnaaDoor
open Go.RowKit Go.Sort Go.Lib Go.Shelf

theorem rs_list {P : Nat → PodV} {n : Nat} {T : List Nat} (h : T.Perm (List.range n)) (hs : SortedL (ltOf (cfP P)) T) : (lst (fun t => P (T.getD t 0)) n).Perm (lst P n) ∧ ((lst (fun t => P (T.getD t 0)) n).map nm).Pairwise leP := by
  obtain ⟨hl, hb⟩ := perm_range_lt h
  have e : (List.range n).map (fun t => T.getD t 0) = T := by
    refine List.ext_getElem? fun t => ?_
    by_cases ht : t < n
    · rw [List.getElem?_map, List.getElem?_range ht, Option.map_some, List.getD_eq_getElem?_getD, List.getElem?_eq_getElem (by omega)]
      rfl
    · rw [List.getElem?_eq_none (by simp; omega), List.getElem?_eq_none (by omega)]
  refine ⟨?_, ?_⟩
  · have e2 : lst (fun t => P (T.getD t 0)) n = T.map P := by
      unfold lst
      rw [← e, List.map_map]
      refine List.map_congr_left fun t ht => ?_
      rw [e]
      rfl
    rw [e2]
    exact h.map P
  · unfold lst
    rw [List.map_map, List.pairwise_map]
    refine (List.pairwise_lt_range (n := n)).imp_of_mem fun {a b} ha hb' hab => ?_
    have hb' := List.mem_range.1 hb'
    have := hs a b hab (by omega)
    show befP (P (T.getD b 0)) (P (T.getD a 0)) = false
    unfold lo at this
    simp only [Bool.or_eq_false_iff] at this
    exact this.1

/-- What the reference's list is behind a Push. -/
structure RList (w w' : World) (L : List PodV) (B : Option Addr) (m : Nat) (S : Nat → PodV) (X Y : Nat → PodV) (n k : Nat) : Prop where
  keep : Keep w w'
  rd : RdPods w' B m S
  perm : ((lst S m).map nm).Perm L
  sort : ((lst S m).map nm).Pairwise leP
  low : ∀ b off, B = some ⟨b, off, none⟩ → w.heap.size ≤ b
  from_ : ∀ j, j < m → (∃ t, t < n ∧ S j = X t) ∨ ∃ t, t < k ∧ S j = Y t

set_option maxRecDepth 100000 in
set_option maxHeartbeats 16000000 in
theorem rpush_fn (A : Option Addr) (n c : Nat) (P : Nat → PodV) (A2 : Option Addr) (m c2 : Nat) (R : Nat → PodV) (w : World) (hR : RdPods w A n P) (h0 : A = none → n = 0 ∧ c = 0) (hR2 : RdPods w A2 m R) (hn : n + m ≤ 1000) (hp : ∀ j, j < n → -1073741824 ≤ (P j).p ∧ (P j).p ≤ 1073741824) (hp2 : ∀ j, j < m → -1073741824 ≤ (R j).p ∧ (R j).p ≤ 1073741824) :
    Calls Tryd.prog 22 #[.slice A n c, .slice A2 m c2] w fun e w' => ∃ B d S, e = .returned (.slice B (addN ((lst P n).map nm) R m).length d) ∧ RList w w' (addN ((lst P n).map nm) R m) B (addN ((lst P n).map nm) R m).length S P R n m ∧ (B = none → d = 0) ∧ (addN ((lst P n).map nm) R m).length ≤ d := by
  have hn1 : n ≤ 1000 := by omega
  have R0 := Lib.hid hR
  replace hR2 := Lib.hid hR2
  replace hp := Lib.hid hp
  replace hp2 := Lib.hid hp2
  have s0 : Hid (SrcP (w.alloc (.cells #[] 35)) (.slice A n c) n (podCs P n)) := src_rd (hR.keep (Keep.one _ _)) h0
  clear hR h0
  obtain ⟨M, hM⟩ : ∃ M, M = (addN ((lst P n).map nm) R m).length := ⟨_, rfl⟩
  rw [← hM]
  replace hM := Lib.hid hM
  go_enter Tryd.func22, Tryd.ntmps22
  go_wp2_with (at_builtin; refine wpl_own rfl _ _ rfl w.heap.size (.slice (some ⟨w.heap.size, 0, none⟩) 0 0) 0 [] (by simp [Act.eval]) (own_empty (Nat.le_refl _) (heap_alloc_new _ _)) (.slice A n c) n (podCs P n) (by simp [Act.eval]) s0.out (podCs_one P n) (by omega) (by simp) n (by omega) ?_; intro v3 w3 hr3 hg3)
  have K3 : Hid (Keep w w3) := keep_grown (Keep.one _ _) hg3 (fun q hq => by
    have e : w.heap.size = q := Option.some.inj hq
    omega)
  rw [List.nil_append] at hr3
  replace hg3 := Lib.hid hg3
  obtain ⟨B3, d3, hB3, _⟩ := own_form hr3
  subst hB3
  replace hr3 := Lib.hid hr3
  clear s0
  go_wp2
  go_loopg [5, 6] m (fun gx s5 s6 wr => ∃ (j k : Nat) (B : Option Addr) (d : Nat) (T : Nat → PodV), j ≤ m ∧ gx = m - j ∧ s6 = .int .i64 j ∧ s5 = .slice B k d ∧ k ≤ n + j ∧ Hid (Keep w wr) ∧ Hid (wr.ownsRow w.heap.size 35 9 (.slice B k d) k (podCs T k)) ∧ Hid ((lst T k).map nm = addN ((lst P n).map nm) R j) ∧ Hid (∀ t, t < k → (∃ s, s < n ∧ T t = P s) ∨ ∃ s, s < m ∧ T t = R s))
  case atStart => exact ⟨0, n, B3, d3, P, Nat.zero_le _, rfl, rfl, rfl, by omega, K3, hr3, rfl, fun t ht => Or.inl ⟨t, ht, rfl⟩⟩
  case round =>
    clear hr3 hg3 K3
    obtain ⟨j, k, B, d, T, hj, rfl, rfl, rfl, hkj, G, RW, LT, FR⟩ := hrel
    have isT : Hid (∀ t, t < k → PodIs wr (T t)) := fun t ht => by
      rcases FR.out t ht with ⟨s, hs, e⟩ | ⟨s, hs, e⟩
      · rw [e]; exact (R0.out.is s hs).keep G.out
      · rw [e]; exact (hR2.out.is s hs).keep G.out
    have RT : Hid (RdPods wr B k T) := rows_rd RW.out (by omega) isT.out
    by_cases hlt : j < m
    · have R2 := hR2.out.keep G.out
      obtain ⟨b, off, hA, ca⟩ := R2.adr (by omega)
      subst hA
      have q1 := pods_at b off m c2 j hlt
      have X := ca j hlt
      clear ca
      replace R2 := Lib.hid R2
      obtain ⟨x, hx⟩ : ∃ x, x = R j := ⟨_, rfl⟩
      rw [← hx] at X
      have hadd : Hid (addN ((lst P n).map nm) R (j + 1) = addP (addN ((lst P n).map nm) R j) x) := by rw [hx]; exact rfl
      replace hx := Lib.hid hx
      have cF := Lib.hid (rfind_fn B k d T x.k wr RT.out)
      have hmem : x.k ∈ (addN ((lst P n).map nm) R j).map (·.k) ↔ 0 ≤ findN T x.k k := by
        rw [find_iff, ← LT.out, List.map_map]
        simp [lst, nm, PodV.at]
      obtain ⟨r, hr⟩ : ∃ r, r = findN T x.k k := ⟨_, rfl⟩
      rw [← hr] at cF hmem
      replace hr := Lib.hid hr
      have x0 := X.e0; have x1 := X.e1; have x2 := X.e2; have x3 := X.e3; have x4 := X.e4; have x5 := X.e5; have x6 := X.e6; have x7 := X.e7; have x8 := X.e8
      clear X
      by_cases hin : 0 ≤ r
      · have L2 : Hid ((lst T k).map nm = addN ((lst P n).map nm) R (j + 1)) := by
          show _ = _
          rw [hadd.out, LT.out]
          exact (if_pos (hmem.2 hin)).symm
        replace hmem := Lib.hid hmem
        go_wp2_with fail
        refine cF.out.mono ?_
        rintro e w4 ⟨rfl, rfl⟩
        clear cF
        go_wp2
        go_roundg (m - (j + 1))
        case measure => omega
        case rel => exact ⟨j + 1, k, B, d, T, hlt, rfl, by go_num, rfl, by omega, G, RW, L2, FR⟩
      · have L2 : Hid ((lst (put T k x) (k + 1)).map nm = addN ((lst P n).map nm) R (j + 1)) := by
          show _ = _
          rw [hadd.out, lst_put, List.map_append, LT.out]
          exact (if_neg (fun h => hin (hmem.1 h))).symm
        have F2 : Hid (∀ t, t < k + 1 → (∃ s, s < n ∧ put T k x t = P s) ∨ ∃ s, s < m ∧ put T k x t = R s) := fun t ht => by
          by_cases e : t = k
          · right
            exact ⟨j, hlt, by rw [e, put_at, hx.out]⟩
          · rw [put_ne _ _ _ e]
            exact FR.out t (by omega)
        have hin2 : r < 0 := by omega
        replace hmem := Lib.hid hmem
        have gsz : Hid (w.heap.size ≤ wr.heap.size) := G.out.size
        go_wp2_with fail
        refine cF.out.mono ?_
        rintro e w4 ⟨rfl, rfl⟩
        clear cF
        go_wp2_with (at_builtin; refine wpl_own rfl _ _ rfl w.heap.size (.slice B k d) k (podCs T k) (by simp [Act.eval]) (own_keep RW.out (Keep.one _ _)) (.slice (some ⟨wr.heap.size, 0, none⟩) 1 1) 1 x.cells (by simp [Act.eval]) (src_one (heap_alloc_new _ _)) (cells_one _) (by omega) (by rw [World.size_alloc]; have := gsz.out; omega) (k + 1) rfl ?_; intro v3 w3 hr3 hg3)
        have K3 : Hid (Keep w w3) := keep_grown (G.out.trans (Keep.one _ _)) hg3 (fun q hq => (RW.out.lt q hq).1)
        obtain ⟨B4, d4, hB4, _⟩ := own_form hr3
        subst hB4
        rw [← podCs_put] at hr3
        replace hr3 := Lib.hid hr3
        replace hg3 := Lib.hid hg3
        clear x0 x1 x2 x3 x4 x5 x6 x7 x8 q1
        go_wp2
        go_roundg (m - (j + 1))
        case measure => omega
        case rel => exact ⟨j + 1, k + 1, B4, d4, put T k x, hlt, rfl, by go_num, rfl, by omega, K3, hr3, L2, F2⟩
    · obtain rfl : j = m := by omega
      obtain rfl : k = M := by rw [hM.out, ← LT.out, List.length_map, lst_len]
      have gsz : Hid (w.heap.size ≤ wr.heap.size) := G.out.size
      have cS := Lib.hid (rsort7_fn B k d T wr RT.out (by omega) (fun t ht => by
        rcases FR.out t ht with ⟨s, hs, e⟩ | ⟨s, hs, e⟩
        · rw [e]; exact hp.out s hs
        · rw [e]; exact hp2.out s hs))
      go_wp2_with fail
      refine cS.out.mono ?_
      rintro e w5 ⟨v, rfl, k5, B5, d5, TT, rfl, R5, P5, S5, L5, N5, C5⟩
      have RL := rs_list P5 S5
      have hb := Lib.hid (perm_range_lt P5)
      replace k5 := Lib.hid k5
      replace R5 := Lib.hid R5
      replace P5 := Lib.hid P5
      replace S5 := Lib.hid S5
      replace L5 := Lib.hid L5
      replace RL := Lib.hid RL
      replace N5 := Lib.hid N5
      go_wp2
      go_ret
      refine ⟨B5, d5, _, rfl, ⟨G.out.trans k5.out, R5.out, ?_, RL.out.2, fun b off e => Nat.le_trans gsz.out (L5.out b off e), fun t ht => FR.out _ (by have := hb.out.2 t (by rw [hb.out.1]; exact ht); exact this)⟩, fun e => (N5.out e).2, C5⟩
      rw [← LT.out]
      exact RL.out.1.map nm
end Go.Proofs.YtpkpmoiekjhdnaaDoor
