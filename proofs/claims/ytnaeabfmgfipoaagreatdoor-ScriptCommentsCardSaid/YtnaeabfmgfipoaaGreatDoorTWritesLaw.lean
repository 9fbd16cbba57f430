/-
  ScriptWrites: the walk. Condition: the listed variables hold their own.
-/
import Derived.Test.YtnaeabfmgfipoaaGreatDoorTGlueMath
import Derived.Deep.RegionHeld3
namespace Go.Proofs.YtnaeabfmgfipoaaGreatDoor
open Go.RowKit Go.Extern.Stop Go.Stop Go.Extern

set_option maxRecDepth 100000 in
set_option maxHeartbeats 4000000 in
theorem writes_out (A : Option Addr) (n cp : Nat) (P : Nat → OpV) (w : World) (hv : V4 w) (hP : RdOps w A n P) (hn63 : n ≤ 9223372036854775807) (hf : fewB n P = false) :
    Calls Tryz.prog 5 #[.slice A n cp] w fun e w' => e = .returned (.bool true) ∧ Keep w w' := by
  replace hv := Lib.hid hv
  have hfew := fun w' (h : Keep w w') => rfew_fn A n cp P w' (hP.keep h) hn63 (fun j hj => (hP.is j hj).rd.small)
  rw [hf] at hfew
  replace hfew := Lib.hid hfew
  replace hP := Lib.hid hP
  replace hf := Lib.hid hf
  go_enter Tryz.func5, Tryz.ntmps5
  go_wp2_with fail
  refine (awake4_true _ hv.out).mono ?_
  rintro e w1 ⟨rfl, h⟩
  have k1 := Lib.hid h
  replace h := Lib.hid h
  go_wp2_with fail
  refine (hfew.out _ k1.out).mono ?_
  rintro e w2 ⟨rfl, rfl⟩
  go_wp2_with fail
  refine (awake4_true _ (hv.out.keep k1.out)).mono ?_
  rintro e w3 ⟨rfl, h⟩
  have k3 := Lib.hid (k1.out.trans h)
  replace h := Lib.hid h
  go_wp2
  go_ret
  exact ⟨rfl, k3.out⟩
/-- The i-th operation of a row. -/
theorem ops_get {w : World} {base n cc : Nat} {C : Option Addr} {L : List (OpD × Value)} (hO : OpsAt w base (.slice C L.length cc) L) (hlen : L.length = n) {i : Nat} (hi : i < n) {d : OpD} (hd : (L.map (·.1))[i]? = some d) (hr : inRangeD d ∧ d.amounts.length ≤ 1048577) :
    ∃ g B cb, C = some ⟨g, 0, none⟩ ∧ (w.cell? ⟨g, i * 6, none⟩ = some (.int .i64 d.kind) ∧ w.cell? ⟨g, i * 6 + 1, none⟩ = some (.int .i64 d.id) ∧ w.cell? ⟨g, i * 6 + 2, none⟩ = some (.int .i64 d.cls) ∧ w.cell? ⟨g, i * 6 + 3, none⟩ = some (.int .i64 d.n) ∧ w.cell? ⟨g, i * 6 + 4, none⟩ = some (.bool d.flag) ∧ w.cell? ⟨g, i * 6 + 5, none⟩ = some (.slice B d.amounts.length cb)) ∧ Rd w B d.amounts.length (fun j => d.amounts.getD j 0) := by
  have hi' : i < L.length := by omega
  obtain ⟨g, cap, e, hc⟩ := hO.cells hi'
  have hd' : L[i].1 = d := by
    rw [List.getElem?_map, List.getElem?_eq_getElem hi'] at hd
    simpa using hd
  have ha := hO.am L[i] (List.getElem_mem hi')
  rw [hd'] at ha
  obtain ⟨B, cb, eB, hB⟩ := rd_ints ha hr.1 (by omega)
  have c0 := hc 0 _ rfl
  have c1 := hc 1 _ rfl
  have c2 := hc 2 _ rfl
  have c3 := hc 3 _ rfl
  have c4 := hc 4 _ rfl
  have c5 := hc 5 _ rfl
  rw [hd'] at c0 c1 c2 c3 c4
  rw [eB] at c5
  rw [Nat.mul_comm 6 i] at c0 c1 c2 c3 c4 c5
  refine ⟨g, B, cb, ?_, ⟨c0, c1, c2, c3, c4, c5⟩, hB⟩
  injection e with e1 e2 e3
theorem ops_at0 (n cp j g : Nat) (hj : j < n) (W : World) : (Instr.indexAt 23 (.slice (some ⟨g, 0, none⟩) n cp) (.int .i64 j)).run Tryz.prog W = .ok (.pointer (some ⟨g, j * 6, none⟩)) W := by
  have h := ops_at (some ⟨g, 0, none⟩) n cp j g 0 rfl hj W
  rw [Nat.zero_add] at h
  exact h
theorem add_text (P : Nat → OpV) (q : Nat) (hq : (glue (lines P q)).size ≤ 1048576) (hl : (P q).line.size ≤ 1048576) :
    ∃ X, (∀ w : World, (Op.stringOp .add (glue (lines P q)) (P q).line).run Tryz.prog w = .ok (.string X) w) ∧ (∀ w : World, (Op.stringOp .add X ⟨#[10]⟩).run Tryz.prog w = .ok (.string (glue (lines P (q + 1)))) w) := by
  refine ⟨glue (lines P q) ++ (P q).line, fun w => run_string_add_sum w _ _ (by omega), fun w => ?_⟩
  rw [lines_snoc, glue_snoc, ← ByteArray.append_assoc]
  exact run_string_add_sum w _ _ (by
    have h10 : (⟨#[10]⟩ : ByteArray).size = 1 := rfl
    rw [ByteArray.size_append]
    omega)

set_option maxRecDepth 100000 in
set_option maxHeartbeats 16000000 in
theorem writes_in (A : Option Addr) (n cp : Nat) (P : Nat → OpV) (w : World) (hv : V4 w) (hP : RdOps w A n P) (hn : n ≤ 300) (hm : ∀ j, j < n → (P j).m ≤ 20) :
    Calls Tryz.prog 5 #[.slice A n cp] w fun e w' => e = .returned (.bool true) ∧ Keep w w' := by
  have hm1 : ∀ j, j < n → (P j).m ≤ 100 := fun j hj => Nat.le_trans (hm j hj) (by omega)
  have hft : fewB n P = true := decide_eq_true ⟨hm, hn⟩
  have hfew := fun w' (h : Keep w w') => rfew_fn A n cp P w' (hP.keep h) (by omega) (fun j hj => (hP.is j hj).rd.small)
  rw [hft] at hfew
  have hwr := fun w' (h : Keep w w') => swrite_fn A n cp P w' (hv.keep h) (hP.keep h) hn hm1
  have hgs := fun q (hq : q ≤ n) => glue_size P n hm1 q hq
  have hrl := fun q (hq : q < n) w' (h : Keep w w') => rline_is (P q) w' ((hP.is q hq).keep h) (hm1 q hq)
  have hpl := fun q w' => rplain_is (P q) w'
  have hls := fun q (hq : q < n) => line_size (P q) (hm1 q hq)
  unfold OpV.val at hrl hpl
  replace hv := Lib.hid hv
  replace hP := Lib.hid hP
  replace hm := Lib.hid hm
  replace hm1 := Lib.hid hm1
  replace hft := Lib.hid hft
  replace hfew := Lib.hid hfew
  replace hwr := Lib.hid hwr
  replace hgs := Lib.hid hgs
  replace hrl := Lib.hid hrl
  replace hpl := Lib.hid hpl
  replace hls := Lib.hid hls
  go_enter Tryz.func5, Tryz.ntmps5
  go_wp2_with fail
  refine (awake4_true _ hv.out).mono ?_
  rintro e w1 ⟨rfl, h⟩
  have k1 := Lib.hid h
  replace h := Lib.hid h
  go_wp2_with fail
  refine (hfew.out _ k1.out).mono ?_
  rintro e w2 ⟨rfl, rfl⟩
  go_wp2_with fail
  refine (hwr.out _ k1.out).mono ?_
  rintro e w2 ⟨k2, hres⟩
  have K2 := Lib.hid (k1.out.trans k2)
  replace k2 := Lib.hid k2
  rcases hres with ⟨bad, hbn, hgood, hbad, rfl⟩ | ⟨hgood, rfl⟩
  · have hbc := bad_code hbad
    replace hgood := Lib.hid hgood
    replace hbad := Lib.hid hbad
    obtain ⟨fv, hfv⟩ : ∃ fv, fv = (Base.fault (P bad).code bad).val := ⟨_, rfl⟩
    have hwrong := fun w' (h : ErrT w') => wrong4_yes (P bad).code bad w' h
    rw [← hfv] at hwrong ⊢
    replace hfv := Lib.hid hfv
    replace hwrong := Lib.hid hwrong
    go_wp2_with fail
    go_loopg [5, 6] (n) (fun g tv iv wr => ∃ (q : Nat), q ≤ bad ∧ g = n - q ∧ tv = .string (glue (lines P q)) ∧ iv = .int .i64 q ∧ Hid (Keep w wr))
    case atStart => exact ⟨0, Nat.zero_le _, rfl, rfl, rfl, K2⟩
    case round =>
      obtain ⟨q, hq, rfl, rfl, rfl, hk⟩ := hrel
      obtain ⟨wq, hwq⟩ : ∃ x, x = wr := ⟨_, rfl⟩
      subst hwq
      have hqn : q < n := by omega
      obtain ⟨ab, ao, hAe, hcell⟩ := (hP.out.keep hk.out).adr (by omega)
      have hia := ops_at A n cp q ab ao hAe hqn
      have c0 := hcell q hqn 0 _ rfl
      have c1 := hcell q hqn 1 _ rfl
      have c2 := hcell q hqn 2 _ rfl
      have c3 := hcell q hqn 3 _ rfl
      have c4 := hcell q hqn 4 _ rfl
      have c5 := hcell q hqn 5 _ rfl
      rw [Nat.add_zero] at c0
      clear hcell
      replace hAe := Lib.hid hAe
      have hgq := hgs.out q (by omega)
      have hlq := hls.out q hqn
      obtain ⟨X, x1, x2⟩ := add_text P q (by omega) (by omega)
      obtain ⟨G, hG⟩ : ∃ G, G = glue (lines P q) := ⟨_, rfl⟩
      obtain ⟨G2, hG2⟩ : ∃ G2, G2 = glue (lines P (q + 1)) := ⟨_, rfl⟩
      rw [← hG] at x1 ⊢
      rw [← hG2] at x2
      replace hG := Lib.hid hG
      replace hG2 := Lib.hid hG2
      go_wp2_with fail
      refine (hrl.out q hqn wq hk.out).mono ?_
      rintro e w3 ⟨rfl, h⟩
      have k3 := Lib.hid (hk.out.trans h)
      replace h := Lib.hid h
      clear c0 c1 c2 c3 c4 c5
      by_cases hqb : q = bad
      · subst hqb
        have hb : ((P q).code == 0) = false := beq_eq_false_iff_ne.2 hbc
        go_wp2_with fail
        refine (hwrong.out w3 (hv.out.keep k3.out).base.err).mono ?_
        rintro e w4 ⟨rfl, h4⟩
        have k4 := Lib.hid (k3.out.trans h4)
        replace h4 := Lib.hid h4
        go_wp2
        go_ret
        exact ⟨rfl, k4.out⟩
      · have hz := good_code (hgood.out q (by omega))
        rw [hz]
        go_wp2
        go_roundg (n - (q + 1))
        case measure => omega
        case rel => exact ⟨q + 1, by omega, rfl, by rw [hG2.out], by go_num, k3⟩
  · have hrd := read_glue P n hgood
    have hgn := hgs.out n (Nat.le_refl _)
    have hre := fun w' (h : V4 w') => sread_fn (glue (lines P n)) w' h (by omega)
    rw [hrd] at hre
    replace hrd := Lib.hid hrd
    replace hre := Lib.hid hre
    replace hgood := Lib.hid hgood
    obtain ⟨T, hT⟩ : ∃ T, T = glue (lines P n) := ⟨_, rfl⟩
    rw [← hT] at hre ⊢
    replace hT := Lib.hid hT
    go_wp2_with fail
    go_loopg [5, 6] (n) (fun g tv iv wr => ∃ (q : Nat), q ≤ n ∧ g = n - q ∧ tv = .string (glue (lines P q)) ∧ iv = .int .i64 q ∧ Hid (Keep w wr))
    case atStart => exact ⟨0, Nat.zero_le _, rfl, rfl, rfl, K2⟩
    case round =>
      obtain ⟨q, hq, rfl, rfl, rfl, hk⟩ := hrel
      obtain ⟨wq, hwq⟩ : ∃ x, x = wr := ⟨_, rfl⟩
      subst hwq
      by_cases hqn : q < n
      · obtain ⟨ab, ao, hAe, hcell⟩ := (hP.out.keep hk.out).adr (by omega)
        have hia := ops_at A n cp q ab ao hAe hqn
        have c0 := hcell q hqn 0 _ rfl
        have c1 := hcell q hqn 1 _ rfl
        have c2 := hcell q hqn 2 _ rfl
        have c3 := hcell q hqn 3 _ rfl
        have c4 := hcell q hqn 4 _ rfl
        have c5 := hcell q hqn 5 _ rfl
        rw [Nat.add_zero] at c0
        clear hcell
        replace hAe := Lib.hid hAe
        have hgq := hgs.out q (by omega)
        have hlq := hls.out q hqn
        obtain ⟨X, x1, x2⟩ := add_text P q (by omega) (by omega)
        obtain ⟨G, hG⟩ : ∃ G, G = glue (lines P q) := ⟨_, rfl⟩
        obtain ⟨G2, hG2⟩ : ∃ G2, G2 = glue (lines P (q + 1)) := ⟨_, rfl⟩
        rw [← hG] at x1 ⊢
        rw [← hG2] at x2
        replace hG := Lib.hid hG
        replace hG2 := Lib.hid hG2
        have hz := good_code (hgood.out q hqn)
        go_wp2_with fail
        refine (hrl.out q hqn wq hk.out).mono ?_
        rintro e w3 ⟨rfl, h⟩
        have k3 := Lib.hid (hk.out.trans h)
        replace h := Lib.hid h
        clear c0 c1 c2 c3 c4 c5
        rw [hz]
        replace hz := Lib.hid hz
        go_wp2
        go_roundg (n - (q + 1))
        case measure => omega
        case rel => exact ⟨q + 1, by omega, rfl, by rw [hG2.out], by go_num, k3⟩
      · obtain rfl : q = n := by omega
        rw [← hT.out]
        have hqq : (T.toList == T.toList) = true := by simp
        go_wp2_with fail
        refine (hre.out wq (hv.out.keep hk.out)).mono ?_
        rintro e w3 ⟨h3, v, L, rfl, hL, hO, hD⟩
        have k3 := Lib.hid (hk.out.trans h3)
        have hlen : L.length = q := by have := congrArg List.length hL; simpa using this
        obtain ⟨C, cc, rfl⟩ := own_shape hO.row
        replace h3 := Lib.hid h3
        replace hL := Lib.hid hL
        replace hO := Lib.hid hO
        replace hD := Lib.hid hD
        rw [hlen]
        replace hlen := Lib.hid hlen
        have hqq2 : ((q : Int) == (q : Int)) = true := by simp
        go_wp2_with fail
        go_loopg [11] (q) (fun g iv wr => ∃ (i : Nat), i ≤ q ∧ g = q - i ∧ iv = .int .i64 i ∧ Hid (Keep w3 wr))
        case atStart => exact ⟨0, Nat.zero_le _, rfl, rfl, Keep.refl _⟩
        case round =>
          obtain ⟨i, hi, rfl, rfl, hk5⟩ := hrel
          obtain ⟨w5, hw5⟩ : ∃ x, x = wr := ⟨_, rfl⟩
          subst hw5
          by_cases hiq : i < q
          · have hget : (L.map (·.1))[i]? = some (plainD (P i)) := by
              rw [hL.out, List.getElem?_map, List.getElem?_range hiq]
              rfl
            have hdr := hD.out (plainD (P i)) (List.mem_map.2 ⟨i, List.mem_range.2 hiq, rfl⟩)
            obtain ⟨g, B, cb, hC, ⟨p0, p1, p2, p3, p4, p5⟩, hB⟩ := ops_get (hO.out.keep hk5.out) hlen.out hiq hget hdr
            have hpl9 := plain_len (P i)
            rw [hpl9] at p5 hB
            replace hpl9 := Lib.hid hpl9
            have hic : ∀ W : World, (Instr.indexAt 23 (.slice C q cc) (.int .i64 i)).run Tryz.prog W = .ok (.pointer (some ⟨g, i * 6, none⟩)) W := fun W => by rw [hC]; exact ops_at0 q cc i g hiq W
            have K5 := Lib.hid (k3.out.trans hk5.out)
            obtain ⟨ab, ao, hAe, hcell⟩ := (hP.out.keep K5.out).adr (by omega)
            have hia := ops_at A q cp i ab ao hAe hiq
            have c0 := hcell i hiq 0 _ rfl
            have c1 := hcell i hiq 1 _ rfl
            have c2 := hcell i hiq 2 _ rfl
            have c3 := hcell i hiq 3 _ rfl
            have c4 := hcell i hiq 4 _ rfl
            have c5 := hcell i hiq 5 _ rfl
            rw [Nat.add_zero] at c0
            clear hcell
            have heq := Lib.hid (fun w' (h1 : Keep w5 w') => equal_plain (P i) B cb w' (((hP.out.is i hiq).keep K5.out).rd.keep h1) (hB.keep h1))
            replace hAe := Lib.hid hAe
            replace hC := Lib.hid hC
            replace hB := Lib.hid hB
            replace hdr := Lib.hid hdr
            replace hget := Lib.hid hget
            go_wp2_with fail
            go_region_held3 (fun w' => w'.cell? ⟨g, i * 6, none⟩ = some (.int .i64 (plainD (P i)).kind) ∧ w'.cell? ⟨g, i * 6 + 1, none⟩ = some (.int .i64 (plainD (P i)).id) ∧ w'.cell? ⟨g, i * 6 + 2, none⟩ = some (.int .i64 (plainD (P i)).cls) ∧ w'.cell? ⟨g, i * 6 + 3, none⟩ = some (.int .i64 (plainD (P i)).n) ∧ w'.cell? ⟨g, i * 6 + 4, none⟩ = some (.bool (plainD (P i)).flag) ∧ w'.cell? ⟨g, i * 6 + 5, none⟩ = some (.slice B (kM (P i).k (P i).m) cb) ∧ w'.cell? ⟨ab, ao + i * 6, none⟩ = some (.int .i64 (P i).k) ∧ w'.cell? ⟨ab, ao + i * 6 + 1, none⟩ = some (.int .i64 (P i).i) ∧ w'.cell? ⟨ab, ao + i * 6 + 2, none⟩ = some (.int .i64 (P i).c) ∧ w'.cell? ⟨ab, ao + i * 6 + 3, none⟩ = some (.int .i64 (P i).n) ∧ w'.cell? ⟨ab, ao + i * 6 + 4, none⟩ = some (.bool (P i).f) ∧ w'.cell? ⟨ab, ao + i * 6 + 5, none⟩ = some (.slice (P i).A (P i).m (P i).cp))
              (first | assumption | exact ⟨p0, p1, p2, p3, p4, p5, c0, c1, c2, c3, c4, c5⟩ | exact ⟨M2.out.cell p0, M2.out.cell p1, M2.out.cell p2, M2.out.cell p3, M2.out.cell p4, M2.out.cell p5, M2.out.cell c0, M2.out.cell c1, M2.out.cell c2, M2.out.cell c3, M2.out.cell c4, M2.out.cell c5⟩ | exact ⟨M1.out.cell p0, M1.out.cell p1, M1.out.cell p2, M1.out.cell p3, M1.out.cell p4, M1.out.cell p5, M1.out.cell c0, M1.out.cell c1, M1.out.cell c2, M1.out.cell c3, M1.out.cell c4, M1.out.cell c5⟩)
              (first
                | (go_at_call 16; refine (hpl.out i _).mono ?_; rintro e w6 ⟨rfl, k6⟩; have M1 : Hid (Keep w5 w6) := (Keep.refl w5).drew.trans k6; replace k6 := Lib.hid k6)
                | (go_at_call 12; refine (heq.out _ M1.out).mono ?_; rintro e w7 ⟨rfl, k7⟩; have M2 := Lib.hid (M1.out.trans k7); replace k7 := Lib.hid k7))
            go_wp2
            go_roundg (q - (i + 1))
            case measure => omega
            case rel => exact ⟨i + 1, by omega, rfl, by go_num, hk5.out.trans M2.out⟩
          · have hiq2 : ¬ (i : Int) < (q : Int) := by omega
            go_wp2
            go_ret
            exact ⟨rfl, k3.out.trans hk5.out⟩
theorem writes_walk (A : Option Addr) (n cp : Nat) (P : Nat → OpV) (w : World) (hv : V4 w) (hP : RdOps w A n P) (hn63 : n ≤ 9223372036854775807) :
    Calls Tryz.prog 5 #[.slice A n cp] w fun e w' => e = .returned (.bool true) ∧ Keep w w' := by
  cases hf : fewB n P
  · exact writes_out A n cp P w hv hP hn63 hf
  · have h : (∀ j, j < n → (P j).m ≤ 20) ∧ n ≤ 300 := of_decide_eq_true hf
    exact writes_in A n cp P w hv hP h.2 h.1
end Go.Proofs.YtnaeabfmgfipoaaGreatDoor
