/-
  The walk of TableAgain. Condition: errors.errorType holds its own.
-/
import Derived.Test.YtfjghbgmjpdpbaaDoorMatchLaw10
namespace Go.Proofs.YtfjghbgmjpdpbaaDoor.T10
open Go.RowKit Go.Sort Go.Lib

theorem srt_lt {L : List PrV} (h : Srt L) {i j : Nat} (hij : i < j) (hj : j < L.length) : (row L i).k < (row L j).k := by
  have hp := srt_keys.1 h
  unfold keys at hp
  rw [List.pairwise_map] at hp
  have := List.pairwise_iff_getElem.1 hp i j (by omega) hj hij
  unfold row
  rw [List.getD_eq_getElem?_getD, List.getD_eq_getElem?_getD, List.getElem?_eq_getElem hj, List.getElem?_eq_getElem (by omega)]
  exact this
theorem get_row {L : List PrV} (h : Srt L) {i : Nat} (hi : i < L.length) : getL L (row L i).k = row L i := by
  have hm : (row L i).k ∈ keys L := List.mem_map_of_mem (row_mem hi)
  rcases find_cases (row L) (row L i).k L.length with ⟨_, h2⟩ | ⟨j, hj, _, hk, _, hg⟩
  · rw [lst_row] at h2
    exact absurd hm h2
  · rw [lst_row] at hg
    rw [hg]
    rcases Nat.lt_trichotomy i j with e | e | e
    · have := srt_lt h e hj
      omega
    · rw [e]
    · have := srt_lt h e hi
      omega
theorem wo_gone (L : List PrV) (id : Int) : id ∉ keys (woL L id) := fun h => by
  obtain ⟨y, hy, e⟩ := List.mem_map.1 h
  have := (List.mem_filter.1 hy).2
  exact of_decide_eq_true this e
/-- Taken out and put in again. -/
theorem wo_ins {L : List PrV} (h : Srt L) {id : Int} (hk : id ∈ keys L) : insL ⟨id, (getL L id).v⟩ (woL L id) = L ∧ (woL L id).length + 1 = L.length := by
  classical
  have g := get_some hk
  have eg : (⟨id, (getL L id).v⟩ : PrV) = getL L id := pr_ext g.2.symm rfl
  have hp : (insL (getL L id) (woL L id)).Perm L := by
    refine (ins_perm _ _).trans ?_
    have nd : L.Nodup := h.imp fun h e => by rw [e, bef_irrefl] at h; cases h
    have e2 : woL L id = L.erase (getL L id) := by
      rw [nd.erase_eq_filter]
      unfold woL
      refine List.filter_congr fun y hy => ?_
      by_cases e : y = getL L id
      · rw [e, decide_eq_false (by simpa using g.2)]; simp
      · have : y.k ≠ id := fun e3 => by
          refine e ?_
          obtain ⟨i, hi, e4⟩ := List.mem_iff_getElem.1 hy
          have e5 : row L i = y := by unfold row; rw [List.getD_eq_getElem?_getD, List.getElem?_eq_getElem hi]; exact e4
          have := get_row h hi
          rw [e5, e3] at this
          exact this.symm
        rw [decide_eq_true this]
        simpa using e
    rw [e2]
    exact (List.perm_cons_erase g.1).symm
  rw [eg]
  exact ⟨srt_unique hp (ins_sorted (wo_sorted h) (by rw [g.2]; exact wo_gone L id)) h, by have := hp.length_eq; rw [ins_len] at this; exact this⟩

set_option maxRecDepth 100000 in
set_option maxHeartbeats 16000000 in
theorem again_walk (A : Option Addr) (n c : Nat) (Z : Nat → Int) (id : Int) (hi0 : I64 id) (w : World) (hR : Rd w A n Z) (hv : ErrT w) : Calls Tryd.prog 5 #[.slice A n c, .int .i64 id] w fun e w' => e = .returned (.bool true) ∧ Keep w w' := by
  have hs := hR.small
  replace hv := Lib.hid hv
  replace hR := Lib.hid hR
  replace hi0 := Lib.hid hi0
  go_enter Tryd.func5, Tryd.ntmps5
  go_wp2_with fail
  refine (tnew_fn 1000 (by unfold I64; omega) _).mono ?_
  rintro e w1 ⟨p, rfl, m, T1, k1, lp, lm⟩
  rw [if_pos (by decide)] at T1
  replace T1 := Lib.hid T1
  replace k1 := Lib.hid k1
  replace lm := Lib.hid lm
  replace lp := Lib.hid lp
  have aw1 := Lib.hid (awake_true w1 (hv.out.keep k1.out))
  go_wp2_with fail
  refine aw1.out.mono ?_
  rintro e w2 ⟨rfl, k2⟩
  have K2 := Lib.hid (k1.out.trans k2)
  have T2 := Lib.hid (T1.out.keep k2)
  replace k2 := Lib.hid k2
  clear aw1
  by_cases hn : n ≤ 100
  rotate_left
  · have aw2 := Lib.hid (awake_true w2 (hv.out.keep K2.out))
    go_wp2_with fail
    refine aw2.out.mono ?_
    rintro e w4 ⟨rfl, k4⟩
    go_wp2
    go_ret
    exact ⟨rfl, K2.out.trans k4⟩
  go_wp2
  go_loopg [6, 7] n (fun gx s6 s7 wr => ∃ (i : Nat) (L : List PrV) (B : Option Addr) (d : Nat), i ≤ n ∧ gx = n - i ∧ s7 = .int .i64 i ∧ s6 = .slice B L.length d ∧ L.length ≤ i ∧ Hid (Keep w wr) ∧ Hid (TI wr 1000 p m L) ∧ Hid (RL wr B d L))
  case atStart => exact ⟨0, [], none, 0, Nat.zero_le _, rfl, rfl, rfl, Nat.le_refl _, K2, T2, rl_nil _⟩
  case round =>
    clear T1 T2 K2 k1 k2
    obtain ⟨i, L, B, d, hi, rfl, rfl, rfl, hLi, KR, TR, RR⟩ := hrel
    by_cases hlt : i < n
    · obtain ⟨b, off, hA, ca⟩ := (hR.out.below KR.out).adr (by omega)
      subst hA
      have q1 := fun W => atI b off n c i hlt W
      have xk := ca i hlt
      have ox := hR.out.range i hlt
      clear ca
      obtain ⟨z, hz⟩ : ∃ z, z = Z i := ⟨_, rfl⟩
      rw [← hz] at xk ox
      replace hz := Lib.hid hz
      have px : PrOk ⟨z, (i : Int)⟩ := ⟨ox, by show I64 (i : Int); unfold I64; omega⟩
      have cA := tadd_fn TR.out ⟨z, (i : Int)⟩ px
      have cB : Hid (∀ W, Keep wr W ∨ (RL W B d L) → RL W B d L → Calls Tryd.prog 22 #[.slice B L.length d, .int .i64 1000, .agg #[.int .i64 z, .int .i64 i]] W fun e w' => ∃ B' d', e = .returned (.tuple #[.slice B' (addL L 1000 ⟨z, (i : Int)⟩).length d', .int .i64 (addC L 1000 ⟨z, (i : Int)⟩)]) ∧ Keep W w' ∧ RL w' B' d' (addL L 1000 ⟨z, (i : Int)⟩)) := fun W _ h => radd_fn (s := 1000) h TR.out.srt (by omega) (by omega) ⟨z, (i : Int)⟩ px
      have hol := op_len 0 L 1000 ⟨z, (i : Int)⟩
      unfold opL at hol
      rw [if_pos rfl] at hol
      obtain ⟨M, hM⟩ : ∃ M, M = addL L 1000 ⟨z, (i : Int)⟩ := ⟨_, rfl⟩
      obtain ⟨cc, hcc⟩ : ∃ cc, cc = addC L 1000 ⟨z, (i : Int)⟩ := ⟨_, rfl⟩
      rw [← hM] at cA cB hol
      rw [← hcc] at cA cB
      replace hM := Lib.hid hM
      replace hcc := Lib.hid hcc
      replace ox := Lib.hid ox
      replace px := Lib.hid px
      replace cA := Lib.hid cA
      go_wp2_with fail
      refine cA.out.mono ?_
      rintro e w5 ⟨rfl, T5, F5⟩
      have K5 : Hid (Keep w w5) := F5.low KR.out (by rintro k rfl; exact lm.out)
      have R5 : Hid (RL w5 B d L) := RR.out.fr TR.out F5
      have xk5 := F5.cell xk (TR.out.off_block xk)
      replace F5 := Lib.hid F5
      replace T5 := Lib.hid T5
      clear cA xk
      go_wp2_with fail
      refine (cB.out w5 (.inr R5.out) R5.out).mono ?_
      rintro e w6 ⟨B', d', rfl, k6, R6⟩
      have T6 : Hid (TI w6 1000 p m M) := T5.out.keep k6
      have K6 : Hid (Keep w w6) := K5.out.trans k6
      replace k6 := Lib.hid k6
      replace R6 := Lib.hid R6
      clear xk5
      go_wp2
      go_roundg (n - (i + 1))
      case measure => omega
      case rel => exact ⟨i + 1, M, B', d', hlt, rfl, by go_num, rfl, by omega, K6, T6, R6⟩
    · obtain rfl : i = n := by omega
      have cF := rfind_fn B L.length d (row L) id
      have fi := keys_row L id
      have T0 := TR.out
      have c1 := trem_fn TR.out id
      obtain ⟨q, hq⟩ : ∃ q, q = L.length := ⟨_, rfl⟩
      obtain ⟨r, hr⟩ : ∃ r, r = findN (row L) id L.length := ⟨_, rfl⟩
      obtain ⟨u, hu⟩ : ∃ u, u = (getL L id).v := ⟨_, rfl⟩
      rw [← hr] at cF fi
      rw [← hq] at cF hLi ⊢
      rw [← hu] at c1
      replace hr := Lib.hid hr
      have nk := wo_gone L id
      obtain ⟨wo, hwo⟩ : ∃ wo, wo = wr := ⟨_, rfl⟩
      by_cases hk : id ∈ keys L
      · rw [decide_eq_true hk] at c1
        have hr0 : 0 ≤ r := fi.2 hk
        obtain ⟨e1, e2⟩ := wo_ins T0.srt hk
        rw [← hu] at e1
        have e3 := get_some hk
        have pu : PrOk ⟨id, u⟩ := ⟨hi0.out, by rw [hu]; exact (T0.ok _ e3.1).v⟩
        replace e3 := Lib.hid e3
        replace hu := Lib.hid hu
        replace c1 := Lib.hid c1
        replace T0 := Lib.hid T0
        replace fi := Lib.hid fi
        replace cF := Lib.hid cF
        replace nk := Lib.hid nk
        replace hk := Lib.hid hk
        replace hq := Lib.hid hq
        replace e1 := Lib.hid e1
        replace e2 := Lib.hid e2
        replace pu := Lib.hid pu
        go_wp2_with fail
        refine c1.out.mono ?_
        rintro e w5 ⟨rfl, T5, F5⟩
        have K5 : Hid (Keep w w5) := F5.low KR.out (by rintro k rfl; exact lm.out)
        have R5 : Hid (RL w5 B d L) := RR.out.fr TR.out F5
        replace F5 := Lib.hid F5
        have c2 := trem_fn T5 id
        rw [decide_eq_false nk.out, get_none nk.out, wo_none nk.out] at c2
        replace c2 := Lib.hid c2
        replace T5 := Lib.hid T5
        go_wp2_with fail
        refine c2.out.mono ?_
        rintro e w6 ⟨rfl, T6, F6⟩
        have K6 : Hid (Keep w w6) := F6.low K5.out (by rintro k rfl; exact lm.out)
        have R6 : Hid (RL w6 B d L) := R5.out.fr T5.out F6
        replace F6 := Lib.hid F6
        have c3 := Lib.hid (cF.out w6 (by rw [hq.out]; exact R6.out.rd))
        have c4 := tadd_fn T6 ⟨id, u⟩ pu.out
        have x1 : addC (woL L id) 1000 ⟨id, u⟩ = 0 := by unfold addC; rw [if_neg nk.out, if_neg (by have := e2.out; have := hq.out; omega)]
        have x2 : addL (woL L id) 1000 ⟨id, u⟩ = L := by unfold addL; rw [if_neg nk.out, if_neg (by have := e2.out; have := hq.out; omega)]; exact e1.out
        rw [x1, x2] at c4
        unfold errC at c4
        rw [if_pos rfl] at c4
        replace c4 := Lib.hid c4
        clear x1 x2
        replace T6 := Lib.hid T6
        clear c1 c2
        go_wp2_with fail
        refine c3.out.mono ?_
        rintro e w7 ⟨rfl, rfl⟩
        go_wp2_with fail
        refine c4.out.mono ?_
        rintro e w8 ⟨rfl, T8, F8⟩
        have FK : Hid (Keep w w8) := F8.low K6.out (by rintro k rfl; exact lm.out)
        have FR : Hid (RL w8 B d L) := R6.out.fr T6.out F8
        have FT : Hid (TI w8 1000 p m L) := T8
        replace F8 := Lib.hid F8
        replace T8 := Lib.hid T8
        clear c3 c4
        go_wp2
        go_loopg [12] q (fun gx s12 wz => ∃ i : Nat, i ≤ q ∧ gx = q - i ∧ s12 = .int .i64 i ∧ wz = w8)
        case atStart => exact ⟨0, Nat.zero_le _, rfl, rfl, rfl⟩
        case round =>
          obtain ⟨i, hi, rfl, rfl, rfl⟩ := hrel
          by_cases hlt : i < q
          · obtain ⟨b, off, hA, ca⟩ := FR.out.rd.adr (by rw [← hq.out]; omega)
            subst hA
            have hlt2 : i < L.length := by rw [← hq.out]; exact hlt
            have q1 := atR b off q d i hlt
            have z0 := (ca i hlt2).e0
            have z1 := (ca i hlt2).e1
            clear ca
            have cG := tget_fn FT.out (row L i).k
            have km : (row L i).k ∈ keys L := List.mem_map_of_mem (row_mem hlt2)
            rw [get_row FT.out.srt hlt2, decide_eq_true km] at cG
            clear km
            obtain ⟨y, hy⟩ : ∃ y, y = row L i := ⟨_, rfl⟩
            rw [← hy] at z0 z1 cG
            replace hy := Lib.hid hy
            replace cG := Lib.hid cG
            replace hlt2 := Lib.hid hlt2
            go_wp2_with fail
            refine cG.out.mono ?_
            rintro e w5 ⟨rfl, rfl⟩
            clear cG
            go_wp2
            go_roundg (q - (i + 1))
            case measure => omega
            case rel => exact ⟨i + 1, hlt, rfl, by go_num, rfl⟩
          · obtain rfl : i = q := by omega
            have cL := tlen_fn FT.out
            rw [← hq.out] at cL
            replace cL := Lib.hid cL
            go_wp2_with fail
            refine cL.out.mono ?_
            rintro e w5 ⟨rfl, rfl⟩
            go_wp2
            go_ret
            exact ⟨rfl, FK.out⟩
      · rw [decide_eq_false hk] at c1
        have hr0 : r < 0 := by have := mt fi.1 hk; omega
        have e1 := wo_none hk
        rw [e1] at c1
        replace hu := Lib.hid hu
        replace c1 := Lib.hid c1
        replace T0 := Lib.hid T0
        replace fi := Lib.hid fi
        replace cF := Lib.hid cF
        replace nk := Lib.hid nk
        replace hk := Lib.hid hk
        replace hq := Lib.hid hq
        replace e1 := Lib.hid e1
        go_wp2_with fail
        refine c1.out.mono ?_
        rintro e w5 ⟨rfl, T5, F5⟩
        have K5 : Hid (Keep w w5) := F5.low KR.out (by rintro k rfl; exact lm.out)
        have R5 : Hid (RL w5 B d L) := RR.out.fr TR.out F5
        replace F5 := Lib.hid F5
        have c2 := trem_fn T5 id
        rw [decide_eq_false hk.out, get_none hk.out, e1.out] at c2
        replace c2 := Lib.hid c2
        replace T5 := Lib.hid T5
        go_wp2_with fail
        refine c2.out.mono ?_
        rintro e w6 ⟨rfl, T6, F6⟩
        have K6 : Hid (Keep w w6) := F6.low K5.out (by rintro k rfl; exact lm.out)
        have R6 : Hid (RL w6 B d L) := R5.out.fr T5.out F6
        replace F6 := Lib.hid F6
        have c3 := Lib.hid (cF.out w6 (by rw [hq.out]; exact R6.out.rd))
        replace T6 := Lib.hid T6
        clear c1 c2
        go_wp2_with fail
        refine c3.out.mono ?_
        rintro e w7 ⟨rfl, rfl⟩
        have FK := K6
        have FR := R6
        have FT := T6
        clear c3
        go_wp2
        go_loopg [12] q (fun gx s12 wz => ∃ i : Nat, i ≤ q ∧ gx = q - i ∧ s12 = .int .i64 i ∧ wz = w6)
        case atStart => exact ⟨0, Nat.zero_le _, rfl, rfl, rfl⟩
        case round =>
          obtain ⟨i, hi, rfl, rfl, rfl⟩ := hrel
          by_cases hlt : i < q
          · obtain ⟨b, off, hA, ca⟩ := FR.out.rd.adr (by rw [← hq.out]; omega)
            subst hA
            have hlt2 : i < L.length := by rw [← hq.out]; exact hlt
            have q1 := atR b off q d i hlt
            have z0 := (ca i hlt2).e0
            have z1 := (ca i hlt2).e1
            clear ca
            have cG := tget_fn FT.out (row L i).k
            have km : (row L i).k ∈ keys L := List.mem_map_of_mem (row_mem hlt2)
            rw [get_row FT.out.srt hlt2, decide_eq_true km] at cG
            clear km
            obtain ⟨y, hy⟩ : ∃ y, y = row L i := ⟨_, rfl⟩
            rw [← hy] at z0 z1 cG
            replace hy := Lib.hid hy
            replace cG := Lib.hid cG
            replace hlt2 := Lib.hid hlt2
            go_wp2_with fail
            refine cG.out.mono ?_
            rintro e w5 ⟨rfl, rfl⟩
            clear cG
            go_wp2
            go_roundg (q - (i + 1))
            case measure => omega
            case rel => exact ⟨i + 1, hlt, rfl, by go_num, rfl⟩
          · obtain rfl : i = q := by omega
            have cL := tlen_fn FT.out
            rw [← hq.out] at cL
            replace cL := Lib.hid cL
            go_wp2_with fail
            refine cL.out.mono ?_
            rintro e w5 ⟨rfl, rfl⟩
            go_wp2
            go_ret
            exact ⟨rfl, FK.out⟩
end Go.Proofs.YtfjghbgmjpdpbaaDoor.T10
