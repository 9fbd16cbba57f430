/-
  The walk of TableRoom. Condition: errors.errorType holds its own.
-/
import Derived.Test.YtfjghbgmjpdpbaaDoorAgainLaw10
namespace Go.Proofs.YtfjghbgmjpdpbaaDoor.T10
open Go.RowKit Go.Sort Go.Lib

/-- The pairs that are added. -/
def rp (f : Int) (j : Nat) : PrV := ⟨f + j, j⟩
theorem rp_keys (f : Int) (i : Nat) (k : Int) : k ∈ keys (lst (rp f) i) ↔ ∃ j, j < i ∧ k = f + (j : Nat) := by
  unfold keys
  rw [List.mem_map]
  constructor
  · rintro ⟨y, hy, rfl⟩
    obtain ⟨j, hj, rfl⟩ := lst_mem.1 hy
    exact ⟨j, hj, rfl⟩
  · rintro ⟨j, hj, rfl⟩
    exact ⟨rp f j, lst_mem.2 ⟨j, hj, rfl⟩, rfl⟩
theorem ins_last {x : PrV} : ∀ {L : List PrV}, (∀ y ∈ L, y.k < x.k) → insL x L = L ++ [x]
  | [], _ => rfl
  | y :: L, h => by
    unfold insL
    rw [if_neg (by rw [bef_iff]; have := h y (List.mem_cons_self ..); omega), ins_last fun z hz => h z (List.mem_cons_of_mem _ hz)]
    rfl
theorem rp_add {f s : Int} {i : Nat} (h : (i : Int) < s) : addC (lst (rp f) i) s (rp f i) = 0 ∧ addL (lst (rp f) i) s (rp f i) = lst (rp f) (i + 1) := by
  have nk : (rp f i).k ∉ keys (lst (rp f) i) := fun hk => by
    obtain ⟨j, hj, e⟩ := (rp_keys f i _).1 hk
    have : f + (i : Int) = f + (j : Int) := e
    omega
  have nl : ¬ ((lst (rp f) i).length : Int) = s := by rw [lst_len]; omega
  unfold addC addL
  rw [if_neg nk, if_neg nl, if_neg nk, if_neg nl, lst_succ, ins_last fun y hy => ?_]
  · exact ⟨rfl, rfl⟩
  · obtain ⟨j, hj, rfl⟩ := lst_mem.1 hy
    show f + (j : Int) < f + (i : Int)
    omega
theorem rp_out {f : Int} {i : Nat} : f + (i : Int) ∉ keys (lst (rp f) i) := fun hk => by
  obtain ⟨j, hj, e⟩ := (rp_keys f i _).1 hk
  omega
theorem rp_full {f : Int} {i : Nat} : addC (lst (rp f) i) i ⟨f + i, 0⟩ = 7 ∧ addL (lst (rp f) i) i ⟨f + i, 0⟩ = lst (rp f) i := by
  unfold addC addL
  rw [if_neg rp_out, if_pos (by rw [lst_len]), if_neg rp_out, if_pos (by rw [lst_len])]
  exact ⟨rfl, rfl⟩
theorem wo_less (f : Int) : ∀ i, (woL (lst (rp f) (i + 1)) f).length = i
  | 0 => by
    unfold woL
    rw [lst_succ]
    simp [lst, rp]
  | i + 1 => by
    have h := wo_less f i
    unfold woL at h ⊢
    rw [lst_succ, List.filter_append, List.length_append, h, List.filter_cons_of_pos (by rw [decide_eq_true_eq]; show f + ((i + 1 : Nat) : Int) ≠ f; omega)]
    rfl
theorem rp_again {f : Int} {i : Nat} (h : 0 < i) : addC (woL (lst (rp f) i) f) i ⟨f + i, 0⟩ = 0 ∧ (addL (woL (lst (rp f) i) f) i ⟨f + i, 0⟩).length = i := by
  obtain ⟨i, rfl⟩ : ∃ k, i = k + 1 := ⟨i - 1, by omega⟩
  have hl := wo_less f i
  have nk : f + ((i + 1 : Nat) : Int) ∉ keys (woL (lst (rp f) (i + 1)) f) := fun hk => by
    obtain ⟨y, hy, e⟩ := List.mem_map.1 hk
    exact rp_out (by rw [← e]; exact List.mem_map_of_mem (wo_mem hy))
  have nl : ¬ ((woL (lst (rp f) (i + 1)) f).length : Int) = ((i + 1 : Nat) : Int) := by rw [hl]; omega
  unfold addC addL
  rw [if_neg nk, if_neg nl, if_neg nk, if_neg nl, ins_len, hl]
  exact ⟨rfl, rfl⟩

set_option maxRecDepth 100000 in
set_option maxHeartbeats 16000000 in
theorem room_walk (a : Int) (ha : 0 ≤ a ∧ a ≤ 255) (f : Int) (hf0 : I64 f) (w : World) (hv : ErrT w) : Calls Tryd.prog 7 #[.int .u8 a, .int .i64 f] w fun e w' => e = .returned (.bool true) ∧ Keep w w' := by
  obtain ⟨n, rfl⟩ : ∃ n : Nat, a = n := ⟨a.toNat, by omega⟩
  have hn : n ≤ 255 := by omega
  clear ha
  have hwq : IntKind.i64.wrap (n : Int) = (n : Int) := by rw [IntKind.wrap_i64]; omega
  replace hv := Lib.hid hv
  replace hf0 := Lib.hid hf0
  go_enter Tryd.func7, Tryd.ntmps7
  go_wp2_with fail
  refine (tnew_fn n (by unfold I64; omega) _).mono ?_
  rintro e w1 ⟨p, rfl, m, T1, k1, lp, lm⟩
  rw [if_pos (by omega)] at T1
  replace T1 := Lib.hid T1
  replace k1 := Lib.hid k1
  replace lm := Lib.hid lm
  replace lp := Lib.hid lp
  have aw1 := Lib.hid (awake_true w1 (hv.out.keep k1.out))
  go_wp2_with fail
  refine aw1.out.mono ?_
  rintro e w2 ⟨rfl, k2⟩
  have K2 := Lib.hid (k1.out.trans k2)
  have T2 := Lib.hid (T1.out.keep k2)
  replace k2 := Lib.hid k2
  clear aw1
  have aw2 := Lib.hid (awake_true w2 (hv.out.keep K2.out))
  by_cases hf1 : f ≤ 1099511627776
  rotate_left
  · have hd : decide (1099511627776 < f) = true := decide_eq_true (by omega)
    go_wp2_with fail
    refine aw2.out.mono ?_
    rintro e w4 ⟨rfl, k4⟩
    go_wp2
    go_ret
    exact ⟨rfl, K2.out.trans k4⟩
  by_cases hf2 : -1099511627776 ≤ f
  rotate_left
  · have hd : decide (1099511627776 < f) = false := decide_eq_false (by omega)
    have hd2 : decide (f < -1099511627776) = true := decide_eq_true (by omega)
    go_wp2_with fail
    refine aw2.out.mono ?_
    rintro e w4 ⟨rfl, k4⟩
    go_wp2
    go_ret
    exact ⟨rfl, K2.out.trans k4⟩
  have hd : decide (1099511627776 < f) = false := decide_eq_false (by omega)
  have hd2 : decide (f < -1099511627776) = false := decide_eq_false (by omega)
  clear aw2
  go_wp2
  go_loopg [6] n (fun gx s6 wr => ∃ i : Nat, i ≤ n ∧ gx = n - i ∧ s6 = .int .i64 i ∧ Hid (Keep w wr) ∧ Hid (TI wr n p m (lst (rp f) i)))
  case atStart => exact ⟨0, Nat.zero_le _, rfl, rfl, K2, T2⟩
  case round =>
    clear T1 T2 K2 k1 k2
    obtain ⟨i, hi, rfl, rfl, KR, TR⟩ := hrel
    by_cases hlt : i < n
    · have cM := troom_fn TR.out
      rw [lst_len] at cM
      obtain ⟨x1, x2⟩ := rp_add (f := f) (s := (n : Int)) (i := i) (by omega)
      have px : PrOk (rp f i) := ⟨by show I64 (f + (i : Int)); unfold I64; omega, by show I64 (i : Int); unfold I64; omega⟩
      have cA : Hid (∀ W, Keep wr W → Calls Tryd.prog 21 #[.pointer (some ⟨p, 0, none⟩), .int .i64 (f + i), .int .i64 i] W fun e w' => e = .returned .nilIface ∧ TI w' n p m (lst (rp f) (i + 1)) ∧ Fr (· = m) W w') := fun W k => by
        have := tadd_fn (TR.out.keep k) (rp f i) px
        rw [x1, x2] at this
        exact this
      have hw1 : IntKind.i64.wrap ((n : Int) - (i : Int)) = (n : Int) - (i : Int) := by rw [IntKind.wrap_i64]; omega
      have hw2 : IntKind.i64.wrap (f + (i : Int)) = f + (i : Int) := by rw [IntKind.wrap_i64]; omega
      replace cM := Lib.hid cM
      replace x1 := Lib.hid x1
      replace x2 := Lib.hid x2
      replace px := Lib.hid px
      go_wp2_with fail
      refine cM.out.mono ?_
      rintro e w5 ⟨rfl, D5⟩
      have k5 : Hid (Keep wr w5) := D5.keep
      replace D5 := Lib.hid D5
      go_wp2_with fail
      refine (cA.out w5 k5.out).mono ?_
      rintro e w6 ⟨rfl, T6, F6⟩
      have K6 : Hid (Keep w w6) := F6.low (KR.out.trans k5.out) (by rintro k rfl; exact lm.out)
      replace T6 := Lib.hid T6
      replace F6 := Lib.hid F6
      go_wp2
      go_roundg (n - (i + 1))
      case measure => omega
      case rel => exact ⟨i + 1, hlt, rfl, by go_num, K6, T6⟩
    · obtain rfl : i = n := by omega
      obtain ⟨x1, x2⟩ := rp_full (f := f) (i := i)
      obtain ⟨z, hz⟩ : ∃ z, z = f + (i : Int) := ⟨_, rfl⟩
      have hw2 : IntKind.i64.wrap (f + (i : Int)) = z := by rw [IntKind.wrap_i64, hz]; omega
      have px : PrOk ⟨z, 0⟩ := ⟨by show I64 z; unfold I64; omega, by show I64 0; unfold I64; omega⟩
      rw [← hz] at x1 x2
      have c1 := tadd_fn TR.out ⟨z, 0⟩ px
      replace hz := Lib.hid hz
      rw [x1, x2] at c1
      obtain ⟨ev, hev⟩ : ∃ ev, ev = errC 7 := ⟨_, rfl⟩
      rw [← hev] at c1
      have cC : Hid (∀ W', ErrT W' → Calls Tryd.prog 19 #[ev] W' fun e w' => e = .returned (.int .i64 7) ∧ Keep W' w') := fun W' h => by rw [hev]; exact code_fn 7 W' h
      replace hev := Lib.hid hev
      replace c1 := Lib.hid c1
      replace x1 := Lib.hid x1
      replace x2 := Lib.hid x2
      obtain ⟨wo, hwo⟩ : ∃ wo, wo = wr := ⟨_, rfl⟩
      replace hwo := Lib.hid hwo
      go_wp2_with fail
      refine c1.out.mono ?_
      rintro e w5 ⟨rfl, T5, F5⟩
      have K5 : Hid (Keep w w5) := F5.low KR.out (by rintro k rfl; exact lm.out)
      replace F5 := Lib.hid F5
      have c2 := trem_fn T5 f
      obtain ⟨u, hu⟩ : ∃ u, u = (getL (lst (rp f) i) f).v := ⟨_, rfl⟩
      obtain ⟨b, hb⟩ : ∃ b, b = decide (f ∈ keys (lst (rp f) i)) := ⟨_, rfl⟩
      rw [← hu, ← hb] at c2
      replace hu := Lib.hid hu
      replace hb := Lib.hid hb
      replace c2 := Lib.hid c2
      replace T5 := Lib.hid T5
      clear c1
      go_wp2_with fail
      refine c2.out.mono ?_
      rintro e w6 ⟨rfl, T6, F6⟩
      have K6 : Hid (Keep w w6) := F6.low K5.out (by rintro k rfl; exact lm.out)
      replace F6 := Lib.hid F6
      have c3 := tadd_fn T6 ⟨z, 0⟩ px
      clear c2
      by_cases h0 : 0 < i
      · obtain ⟨y1, y2⟩ := rp_again (f := f) (i := i) h0
        rw [← hz.out] at y1 y2
        rw [y1] at c3
        unfold errC at c3
        rw [if_pos rfl] at c3
        obtain ⟨M, hM⟩ : ∃ M, M = addL (woL (lst (rp f) i) f) i ⟨z, 0⟩ := ⟨_, rfl⟩
        rw [← hM] at c3 y2
        have hb : decide ((i : Int) = 0) = false := decide_eq_false (by omega)
        have hb2 : ¬ (i : Int) = 0 := by omega
        replace hM := Lib.hid hM
        replace c3 := Lib.hid c3
        replace T6 := Lib.hid T6
        replace y1 := Lib.hid y1
        replace y2 := Lib.hid y2
        replace px := Lib.hid px
        go_wp2_with fail
        refine c3.out.mono ?_
        rintro e w7 ⟨rfl, T7, F7⟩
        have K7 : Hid (Keep w w7) := F7.low K6.out (by rintro k rfl; exact lm.out)
        replace F7 := Lib.hid F7
        replace T7 := Lib.hid T7
        clear c3
        have c4 := Lib.hid (cC.out w7 (hv.out.keep K7.out))
        go_wp2_with fail
        refine c4.out.mono ?_
        rintro e w8 ⟨rfl, k8⟩
        have c5 := tlen_fn (T7.out.keep k8)
        rw [y2.out] at c5
        have K8 : Hid (Keep w w8) := K7.out.trans k8
        replace k8 := Lib.hid k8
        replace c5 := Lib.hid c5
        clear c4
        go_wp2_with fail
        refine c5.out.mono ?_
        rintro e w9 ⟨rfl, rfl⟩
        go_wp2
        go_ret
        exact ⟨rfl, K8.out⟩
      · have hi0 : i = 0 := by omega
        have y1 : addC (woL (lst (rp f) i) f) i ⟨z, 0⟩ = 7 := by subst hi0; unfold addC; rw [if_neg (by simp [lst, woL, keys]), if_pos (by simp [lst, woL])]
        have y2 : (addL (woL (lst (rp f) i) f) i ⟨z, 0⟩).length = i := by subst hi0; unfold addL; rw [if_neg (by simp [lst, woL, keys]), if_pos (by simp [lst, woL])]; simp [lst, woL]
        have hb : decide ((i : Int) = 0) = true := decide_eq_true (by omega)
        replace hi0 := Lib.hid hi0
        clear h0
        rw [y1] at c3
        obtain ⟨M, hM⟩ : ∃ M, M = addL (woL (lst (rp f) i) f) i ⟨z, 0⟩ := ⟨_, rfl⟩
        rw [← hM] at c3 y2
        replace hM := Lib.hid hM
        replace c3 := Lib.hid c3
        replace T6 := Lib.hid T6
        replace y1 := Lib.hid y1
        replace y2 := Lib.hid y2
        replace px := Lib.hid px
        go_wp2_with fail
        refine c3.out.mono ?_
        rintro e w7 ⟨rfl, T7, F7⟩
        have K7 : Hid (Keep w w7) := F7.low K6.out (by rintro k rfl; exact lm.out)
        replace F7 := Lib.hid F7
        replace T7 := Lib.hid T7
        clear c3
        have c4 := Lib.hid (cC.out w7 (hv.out.keep K7.out))
        go_wp2_with fail
        refine c4.out.mono ?_
        rintro e w8 ⟨rfl, k8⟩
        have c5 := tlen_fn (T7.out.keep k8)
        rw [y2.out] at c5
        have K8 : Hid (Keep w w8) := K7.out.trans k8
        replace k8 := Lib.hid k8
        replace c5 := Lib.hid c5
        clear c4
        go_wp2_with fail
        refine c5.out.mono ?_
        rintro e w9 ⟨rfl, rfl⟩
        go_wp2
        go_ret
        exact ⟨rfl, K8.out⟩
end Go.Proofs.YtfjghbgmjpdpbaaDoor.T10
