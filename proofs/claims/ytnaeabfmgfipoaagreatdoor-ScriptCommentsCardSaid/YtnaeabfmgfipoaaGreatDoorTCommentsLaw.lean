/-
  ScriptComments: the walk. Condition: the listed variables hold their own.
-/
import Derived.Test.YtnaeabfmgfipoaaGreatDoorTMatchesLaw
namespace Go.Proofs.YtnaeabfmgfipoaaGreatDoor
open Go.RowKit Go.Extern.Stop Go.Stop Go.Extern

/-- The line that is set ahead at the i-th place. -/
def cLine (i : Nat) : ByteArray := if i % 3 = 0 then ⟨#[]⟩ else if i % 3 = 1 then ⟨#[35, 32, 120]⟩ else ⟨#[35]⟩
def cPre (n : Nat) : ByteArray := glue ((List.range n).map cLine)
theorem cLine_skip (i : Nat) : skipL (cLine i) = true := by
  unfold cLine
  split
  · decide +kernel
  · split <;> decide +kernel
theorem cLine_noC (i : Nat) : noC 10 (cLine i) := by
  unfold cLine
  split
  · exact noC_of (by decide +kernel)
  · split <;> exact noC_of (by decide +kernel)
theorem read_ahead (n : Nat) (s : ByteArray) : readOf (cPre n ++ s) = shiftR n (readOf s) := by
  have hno : ∀ l ∈ (List.range n).map cLine, ∀ j, j < l.size → byteAt l j ≠ 10 := by
    intro l hl
    obtain ⟨i, _, rfl⟩ := List.mem_map.1 hl
    exact cLine_noC i
  have hsk : ∀ l ∈ (List.range n).map cLine, skipL l = true := by
    intro l hl
    obtain ⟨i, _, rfl⟩ := List.mem_map.1 hl
    exact cLine_skip i
  unfold readOf cPre
  rw [split_glue _ hno, readFrom_skip _ _ _ hsk, List.length_map, List.length_range, readFrom_shift]
theorem pre_next (i : Nat) (hi : i < 4) (x : ByteArray) (hx : cLine i ++ ⟨#[10]⟩ = x) : ∀ w : World, (Op.stringOp .add (cPre i) x).run Tryz.prog w = .ok (.string (cPre (i + 1))) w := by
  have e : cPre (i + 1) = cPre i ++ x := by
    unfold cPre
    rw [List.range_succ, List.map_append]
    show glue (_ ++ [cLine i]) = _
    rw [glue_snoc, hx]
  have h1 : (cPre i).size ≤ 100 := by
    rcases (show i = 0 ∨ i = 1 ∨ i = 2 ∨ i = 3 by omega) with rfl | rfl | rfl | rfl <;> decide +kernel
  have h2 : x.size ≤ 100 := by
    rw [← hx]
    rcases (show i = 0 ∨ i = 1 ∨ i = 2 ∨ i = 3 by omega) with rfl | rfl | rfl | rfl <;> decide +kernel
  intro w
  rw [e]
  exact run_string_add_sum w _ _ (by omega)
theorem pre_size (i : Nat) (hi : i ≤ 4) : (cPre i).size ≤ 100 := by
  rcases (show i = 0 ∨ i = 1 ∨ i = 2 ∨ i = 3 ∨ i = 4 by omega) with rfl | rfl | rfl | rfl | rfl <;> decide +kernel
theorem lit_zero : cPre 0 = ⟨#[]⟩ := rfl
theorem lits (i : Nat) (hi : i < 4) : (i = 0 ∧ cLine i ++ ⟨#[10]⟩ = ⟨#[10]⟩) ∨ (i = 1 ∧ cLine i ++ ⟨#[10]⟩ = ⟨#[35, 32, 120, 10]⟩) ∨ (i = 2 ∧ cLine i ++ ⟨#[10]⟩ = ⟨#[35, 10]⟩) ∨ (i = 3 ∧ cLine i ++ ⟨#[10]⟩ = ⟨#[10]⟩) := by
  rcases (show i = 0 ∨ i = 1 ∨ i = 2 ∨ i = 3 by omega) with rfl | rfl | rfl | rfl <;> decide +kernel

set_option maxRecDepth 100000 in
set_option maxHeartbeats 8000000 in
theorem comments_in (s : ByteArray) (y : Int) (hy0 : 0 ≤ y) (hy1 : y ≤ 255) (w : World) (hv : V4 w) (hs : s.size ≤ 1000) :
    Calls Tryz.prog 7 #[.string s, .int .u8 y] w fun e w' => e = .returned (.bool true) ∧ Keep w w' := by
  replace hv := Lib.hid hv
  have hd : decide ((s.size : Int) > 1000) = false := decide_eq_false (by omega)
  obtain ⟨n, hn, hn4⟩ : ∃ n : Nat, y.tmod 5 = n ∧ n ≤ 4 := ⟨(y.tmod 5).toNat, by rw [Int.tmod_eq_emod_of_nonneg hy0]; omega, by rw [Int.tmod_eq_emod_of_nonneg hy0]; omega⟩
  have hn2 : y % 5 = n := by rw [← Int.tmod_eq_emod_of_nonneg hy0]; exact hn
  have hps := pre_size n hn4
  have hcat := fun w : World => run_string_add_sum (P := Tryz.prog) w (cPre n) s (by omega)
  have hread := read_ahead n s
  have hre := fun w' (h : V4 w') => sread_fn (cPre n ++ s) w' h (by rw [ByteArray.size_append]; omega)
  rw [hread] at hre
  replace hread := Lib.hid hread
  have hrr := fun w' => rread_fn s w' (by omega)
  go_enter Tryz.func7, Tryz.ntmps7
  go_wp2_with fail
  refine (awake4_true _ hv.out).mono ?_
  rintro e w1 ⟨rfl, h⟩
  have k1 := Lib.hid h
  replace h := Lib.hid h
  obtain ⟨T, hT⟩ : ∃ T, T = cPre n ++ s := ⟨_, rfl⟩
  rw [← hT] at hcat hre
  obtain ⟨G, hG⟩ : ∃ G, G = cPre n := ⟨_, rfl⟩
  rw [← hG] at hcat hps
  replace hT := Lib.hid hT
  replace hG := Lib.hid hG
  replace hre := Lib.hid hre
  replace hrr := Lib.hid hrr
  go_wp2_with fail
  go_loopg [6, 7] (n) (fun g pv iv wr => ∃ (i : Nat), i ≤ n ∧ g = n - i ∧ pv = .string (cPre i) ∧ iv = .int .i64 i ∧ Hid (Keep w wr))
  case atStart => exact ⟨0, Nat.zero_le _, rfl, rfl, rfl, k1⟩
  case round =>
    obtain ⟨i, hi, rfl, rfl, rfl, hk⟩ := hrel
    obtain ⟨wq, hwq⟩ : ∃ x, x = wr := ⟨_, rfl⟩
    subst hwq
    by_cases hin : i < n
    · have hlt : decide ((i : Int) < (n : Int)) = true := decide_eq_true (by omega)
      rcases lits i (by omega) with ⟨rfl, hx⟩ | ⟨rfl, hx⟩ | ⟨rfl, hx⟩ | ⟨rfl, hx⟩
      all_goals
        have hadd := pre_next _ (by decide) _ hx
        replace hx := Lib.hid hx
        have K3 := Lib.hid (hk.out.trans (Keep.one wq (.cells #[.string ⟨#[10]⟩, .string ⟨#[35, 32, 120, 10]⟩, .string ⟨#[35, 10]⟩] 9)))
      · obtain ⟨P, hP⟩ : ∃ P, P = cPre 0 := ⟨_, rfl⟩
        obtain ⟨P1, hP1⟩ : ∃ P, P = cPre (0 + 1) := ⟨_, rfl⟩
        rw [← hP, ← hP1] at hadd
        rw [← hP]
        replace hP := Lib.hid hP
        replace hP1 := Lib.hid hP1
        go_wp2
        go_roundg (n - (0 + 1))
        case measure => omega
        case rel => exact ⟨0 + 1, by omega, rfl, by rw [hP1.out], by go_num, K3⟩
      · obtain ⟨P, hP⟩ : ∃ P, P = cPre 1 := ⟨_, rfl⟩
        obtain ⟨P1, hP1⟩ : ∃ P, P = cPre (1 + 1) := ⟨_, rfl⟩
        rw [← hP, ← hP1] at hadd
        rw [← hP]
        replace hP := Lib.hid hP
        replace hP1 := Lib.hid hP1
        go_wp2
        go_roundg (n - (1 + 1))
        case measure => omega
        case rel => exact ⟨1 + 1, by omega, rfl, by rw [hP1.out], by go_num, K3⟩
      · obtain ⟨P, hP⟩ : ∃ P, P = cPre 2 := ⟨_, rfl⟩
        obtain ⟨P1, hP1⟩ : ∃ P, P = cPre (2 + 1) := ⟨_, rfl⟩
        rw [← hP, ← hP1] at hadd
        rw [← hP]
        replace hP := Lib.hid hP
        replace hP1 := Lib.hid hP1
        go_wp2
        go_roundg (n - (2 + 1))
        case measure => omega
        case rel => exact ⟨2 + 1, by omega, rfl, by rw [hP1.out], by go_num, K3⟩
      · obtain ⟨P, hP⟩ : ∃ P, P = cPre 3 := ⟨_, rfl⟩
        obtain ⟨P1, hP1⟩ : ∃ P, P = cPre (3 + 1) := ⟨_, rfl⟩
        rw [← hP, ← hP1] at hadd
        rw [← hP]
        replace hP := Lib.hid hP
        replace hP1 := Lib.hid hP1
        go_wp2
        go_roundg (n - (3 + 1))
        case measure => omega
        case rel => exact ⟨3 + 1, by omega, rfl, by rw [hP1.out], by go_num, K3⟩
    · obtain rfl : i = n := by omega
      have hlt : decide ((i : Int) < (i : Int)) = false := decide_eq_false (by omega)
      rw [← hG.out]
      clear hn hn2 hin
      cases hrd : readOf s with
      | inr q =>
        have hqs := read_small hrd
        rw [hrd] at hre hrr
        replace hrd := Lib.hid hrd
        have hq0 : decide ((q : Int) ≥ 0) = true := decide_eq_true (by omega)
        obtain ⟨fv, hfv⟩ : ∃ fv, fv = (Base.fault 9 ((q + i : Nat) : Int)).val := ⟨_, rfl⟩
        have hwrong := fun w' (h : ErrT w') => wrong4_yes 9 ((q + i : Nat) : Int) w' h
        rw [← hfv] at hwrong
        rw [show ((q + i : Nat) : Int) = (q : Int) + (i : Int) by omega] at hwrong
        replace hfv := Lib.hid hfv
        replace hwrong := Lib.hid hwrong
        go_wp2_with fail
        refine (hre.out _ (hv.out.keep hk.out)).mono ?_
        rintro e w2 ⟨h, rfl⟩
        have k2 := Lib.hid (hk.out.trans h)
        replace h := Lib.hid h
        rw [← hfv.out]
        go_wp2_with fail
        refine (hrr.out _).mono ?_
        rintro e w3 ⟨h, rfl⟩
        have k3 := Lib.hid (k2.out.trans h)
        replace h := Lib.hid h
        go_wp2_with fail
        refine (hwrong.out w3 (hv.out.keep k3.out).base.err).mono ?_
        rintro e w4 ⟨rfl, h4⟩
        have k4 := Lib.hid (k3.out.trans h4)
        replace h4 := Lib.hid h4
        go_wp2
        go_ret
        exact ⟨rfl, k4.out⟩
      | inl ds =>
        have hct := read_count hrd
        rw [hrd] at hre hrr
        replace hrd := Lib.hid hrd
        go_wp2_with fail
        refine (hre.out _ (hv.out.keep hk.out)).mono ?_
        rintro e w2 ⟨h, v, L, rfl, hL, hO, hD⟩
        have k2 := Lib.hid (hk.out.trans h)
        obtain ⟨q, hq⟩ : ∃ q, q = L.length := ⟨_, rfl⟩
        have hlen2 : ds.length = q := by rw [← hL, List.length_map, hq]
        obtain ⟨C, cc, rfl⟩ := own_shape hO.row
        rw [← hq]
        rw [hlen2] at hct
        replace hq := Lib.hid hq
        replace hlen2 := Lib.hid hlen2
        replace h := Lib.hid h
        replace hL := Lib.hid hL
        replace hO := Lib.hid hO
        replace hD := Lib.hid hD
        go_wp2_with fail
        refine (hrr.out _).mono ?_
        rintro e w3 ⟨h, v2, L2, rfl, hL2, hO2, hD2⟩
        have k3 := Lib.hid (k2.out.trans h)
        have hO1 := Lib.hid (hO.out.keep h)
        have hq2 : L2.length = q := by rw [← hlen2.out, ← hL2, List.length_map]
        obtain ⟨C2, cc2, rfl⟩ := own_shape hO2.row
        rw [hq2]
        replace hq2 := Lib.hid hq2
        replace h := Lib.hid h
        replace hL2 := Lib.hid hL2
        replace hO2 := Lib.hid hO2
        replace hD2 := Lib.hid hD2
        have hqq : ((q : Int) != (q : Int)) = false := by simp
        go_wp2_with fail
        go_loopg [12] (q) (fun g iv wr => ∃ (j : Nat), j ≤ q ∧ g = q - j ∧ iv = .int .i64 j ∧ Hid (Keep w3 wr))
        case atStart => exact ⟨0, Nat.zero_le _, rfl, rfl, Keep.refl _⟩
        case round =>
          obtain ⟨j, hj, rfl, rfl, hk5⟩ := hrel
          obtain ⟨w5, hw5⟩ : ∃ x, x = wr := ⟨_, rfl⟩
          subst hw5
          by_cases hiq : j < q
          · obtain ⟨d, hd⟩ : ∃ d, ds[j]? = some d := ⟨_, List.getElem?_eq_getElem (by have := hlen2.out; omega)⟩
            have hdm : d ∈ ds := List.mem_of_getElem? hd
            obtain ⟨g, B, cb, hC, ⟨p0, p1, p2, p3, p4, p5⟩, hB⟩ := ops_get (hO1.out.keep hk5.out) hq.out.symm hiq (d := d) (by rw [hL.out]; exact hd) (hD.out d hdm)
            obtain ⟨g2, B2, cb2, hC2, ⟨c0, c1, c2, c3, c4, c5⟩, hB2⟩ := ops_get (hO2.out.keep hk5.out) hq2.out hiq (d := d) (by rw [hL2.out]; exact hd) (hD.out d hdm)
            have hia : ∀ W : World, (Instr.indexAt 23 (.slice C q cc) (.int .i64 j)).run Tryz.prog W = .ok (.pointer (some ⟨g, j * 6, none⟩)) W := fun W => by rw [hC]; exact ops_at0 q cc j g hiq W
            have hib : ∀ W : World, (Instr.indexAt 23 (.slice C2 q cc2) (.int .i64 j)).run Tryz.prog W = .ok (.pointer (some ⟨g2, j * 6, none⟩)) W := fun W => by rw [hC2]; exact ops_at0 q cc2 j g2 hiq W
            have heq := Lib.hid (fun w' (h1 : Keep w5 w') => equal_read d B B2 cb cb2 w' (hB.keep h1) (hB2.keep h1))
            obtain ⟨m, hm⟩ : ∃ m, m = d.amounts.length := ⟨_, rfl⟩
            rw [← hm] at p5 c5 heq
            replace hm := Lib.hid hm
            replace hC := Lib.hid hC
            replace hC2 := Lib.hid hC2
            replace hB := Lib.hid hB
            replace hB2 := Lib.hid hB2
            replace hd := Lib.hid hd
            replace hdm := Lib.hid hdm
            go_wp2_with fail
            go_region_held3 (fun w' => w'.cell? ⟨g, j * 6, none⟩ = some (.int .i64 d.kind) ∧ w'.cell? ⟨g, j * 6 + 1, none⟩ = some (.int .i64 d.id) ∧ w'.cell? ⟨g, j * 6 + 2, none⟩ = some (.int .i64 d.cls) ∧ w'.cell? ⟨g, j * 6 + 3, none⟩ = some (.int .i64 d.n) ∧ w'.cell? ⟨g, j * 6 + 4, none⟩ = some (.bool d.flag) ∧ w'.cell? ⟨g, j * 6 + 5, none⟩ = some (.slice B m cb) ∧ w'.cell? ⟨g2, j * 6, none⟩ = some (.int .i64 d.kind) ∧ w'.cell? ⟨g2, j * 6 + 1, none⟩ = some (.int .i64 d.id) ∧ w'.cell? ⟨g2, j * 6 + 2, none⟩ = some (.int .i64 d.cls) ∧ w'.cell? ⟨g2, j * 6 + 3, none⟩ = some (.int .i64 d.n) ∧ w'.cell? ⟨g2, j * 6 + 4, none⟩ = some (.bool d.flag) ∧ w'.cell? ⟨g2, j * 6 + 5, none⟩ = some (.slice B2 m cb2))
              (first | assumption | exact ⟨p0, p1, p2, p3, p4, p5, c0, c1, c2, c3, c4, c5⟩ | exact ⟨M1.out.cell p0, M1.out.cell p1, M1.out.cell p2, M1.out.cell p3, M1.out.cell p4, M1.out.cell p5, M1.out.cell c0, M1.out.cell c1, M1.out.cell c2, M1.out.cell c3, M1.out.cell c4, M1.out.cell c5⟩)
              (first
                | (go_at_call 12; refine (heq.out _ (Keep.refl w5).drew).mono ?_; rintro e w7 ⟨rfl, k7⟩; have M1 : Hid (Keep w5 w7) := (Keep.refl w5).drew.trans k7; replace k7 := Lib.hid k7))
            go_wp2
            go_roundg (q - (j + 1))
            case measure => omega
            case rel => exact ⟨j + 1, by omega, rfl, by go_num, hk5.out.trans M1.out⟩
          · have hiq2 : ¬ (j : Int) < (q : Int) := by omega
            go_wp2
            go_ret
            exact ⟨rfl, k3.out.trans hk5.out⟩
theorem byte_wf {n : Int} (h : (Lit.int .u8 n).wf = true) : 0 ≤ n ∧ n ≤ 255 := by
  unfold Lit.wf at h
  rw [Bool.and_eq_true] at h
  exact ⟨of_decide_eq_true h.1, of_decide_eq_true h.2⟩
set_option maxRecDepth 100000 in
set_option maxHeartbeats 4000000 in
theorem comments_walk (s : ByteArray) (y : Int) (hy : 0 ≤ y ∧ y ≤ 255) (w : World) (hv : V4 w) (hs0 : s.size ≤ 9223372036854775807) :
    Calls Tryz.prog 7 #[.string s, .int .u8 y] w fun e w' => e = .returned (.bool true) ∧ Keep w w' := by
  by_cases hs : s.size ≤ 1000
  · exact comments_in s y hy.1 hy.2 w hv hs
  · have hd : decide ((s.size : Int) > 1000) = true := decide_eq_true (by omega)
    replace hv := Lib.hid hv
    go_enter Tryz.func7, Tryz.ntmps7
    go_wp2_with fail
    refine (awake4_true _ hv.out).mono ?_
    rintro e w1 ⟨rfl, h⟩
    have k1 := Lib.hid h
    replace h := Lib.hid h
    go_wp2_with fail
    refine (awake4_true _ (hv.out.keep k1.out)).mono ?_
    rintro e w2 ⟨rfl, h⟩
    have k2 := Lib.hid (k1.out.trans h)
    replace h := Lib.hid h
    go_wp2
    go_ret
    exact ⟨rfl, k2.out⟩
end Go.Proofs.YtnaeabfmgfipoaaGreatDoor
