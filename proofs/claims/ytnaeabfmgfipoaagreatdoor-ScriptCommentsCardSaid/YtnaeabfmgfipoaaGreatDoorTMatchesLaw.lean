/-
  ScriptMatchesReference: the walk. Condition: the listed variables hold their own.
-/
import Derived.Test.YtnaeabfmgfipoaaGreatDoorTRRead4
import Derived.Test.YtnaeabfmgfipoaaGreatDoorTWritesLaw
import Derived.Deep.RegionHeld3
namespace Go.Proofs.YtnaeabfmgfipoaaGreatDoor
open Go.RowKit Go.Extern.Stop Go.Stop Go.Extern

theorem read_bound : ∀ (L : List ByteArray) (n q : Nat), readFrom n L = .inr q → q < n + L.length
  | [], n, q, h => by cases h
  | l :: r, n, q, h => by
    have ih := read_bound r (n + 1)
    rw [List.length_cons]
    unfold readFrom at h
    by_cases hs : skipL l = true
    · rw [if_pos hs] at h
      have := ih q h
      omega
    · rw [if_neg hs] at h
      cases hp : parseOf (wordsOf l) with
      | none =>
        rw [hp] at h
        injection h with h
        omega
      | some o =>
        rw [hp] at h
        cases hr : readFrom (n + 1) r with
        | inl os =>
          rw [hr] at h
          cases h
        | inr m =>
          rw [hr] at h
          injection h with h
          have := ih m hr
          omega
theorem prtC_len (c : Int) (s : ByteArray) : ∀ i, (prtC c s i).length ≤ i
  | 0 => Nat.le_refl _
  | i + 1 => by
    have := prtC_len c s i
    unfold prtC
    split
    · rw [List.length_append]
      show _ + 1 ≤ _
      omega
    · omega
theorem read_small {s : ByteArray} {q : Nat} (h : readOf s = .inr q) : q ≤ s.size := by
  have h1 := read_bound _ _ _ h
  have h2 := prtC_len 10 s (s.size + 1)
  unfold splitC at h1
  omega
theorem count_le : ∀ (L : List ByteArray) (n : Nat) (ds : List OpD), readFrom n L = .inl ds → ds.length ≤ L.length
  | [], n, ds, h => by
    injection h with h
    rw [← h]
    exact Nat.le_refl _
  | l :: r, n, ds, h => by
    have ih := count_le r (n + 1)
    rw [List.length_cons]
    unfold readFrom at h
    by_cases hs : skipL l = true
    · rw [if_pos hs] at h
      have := ih ds h
      omega
    · rw [if_neg hs] at h
      cases hp : parseOf (wordsOf l) with
      | none =>
        rw [hp] at h
        cases h
      | some o =>
        rw [hp] at h
        cases hr : readFrom (n + 1) r with
        | inl os =>
          rw [hr] at h
          injection h with h
          have := ih os hr
          rw [← h, List.length_cons]
          omega
        | inr m =>
          rw [hr] at h
          cases h
theorem read_count {s : ByteArray} {ds : List OpD} (h : readOf s = .inl ds) : ds.length ≤ s.size + 1 := by
  have h1 := count_le _ _ _ h
  have h2 := prtC_len 10 s (s.size + 1)
  unfold splitC at h1
  omega
/-- The operations of two rows that say the same are equal. -/
theorem equal_read (d : OpD) (B B2 : Option Addr) (cb cb2 : Nat) (w : World) (hB : Rd w B d.amounts.length (fun j => d.amounts.getD j 0)) (hB2 : Rd w B2 d.amounts.length (fun j => d.amounts.getD j 0)) :
    Calls Tryz.prog 12 #[.agg #[.int .i64 d.kind, .int .i64 d.id, .int .i64 d.cls, .int .i64 d.n, .bool d.flag, .slice B d.amounts.length cb], .agg #[.int .i64 d.kind, .int .i64 d.id, .int .i64 d.cls, .int .i64 d.n, .bool d.flag, .slice B2 d.amounts.length cb2]] w fun e w' => e = .returned (.bool true) ∧ Keep w w' := by
  have h := requal_fn d.kind d.id d.cls d.n d.flag B _ cb _ d.kind d.id d.cls d.n d.flag B2 _ cb2 _ w hB hB2 true (same_yes rfl (fun k hk => rfl))
  rw [eqO_self] at h
  exact h

set_option maxRecDepth 100000 in
set_option maxHeartbeats 8000000 in
theorem matches_in (s : ByteArray) (w : World) (hv : V4 w) (hs : s.size ≤ 2000) :
    Calls Tryz.prog 3 #[.string s] w fun e w' => e = .returned (.bool true) ∧ Keep w w' := by
  replace hv := Lib.hid hv
  have hd : decide ((s.size : Int) > 2000) = false := decide_eq_false (by omega)
  have hre := fun w' (h : V4 w') => sread_fn s w' h (by omega)
  have hrr := fun w' => rread_fn s w' (by omega)
  cases hrd : readOf s with
  | inr q =>
    rw [hrd] at hre hrr
    replace hrd := Lib.hid hrd
    replace hre := Lib.hid hre
    replace hrr := Lib.hid hrr
    have hq0 : decide ((q : Int) ≥ 0) = true := decide_eq_true (by omega)
    obtain ⟨fv, hfv⟩ : ∃ fv, fv = (Base.fault 9 q).val := ⟨_, rfl⟩
    have hwrong := fun w' (h : ErrT w') => wrong4_yes 9 q w' h
    rw [← hfv] at hwrong
    replace hfv := Lib.hid hfv
    replace hwrong := Lib.hid hwrong
    go_enter Tryz.func3, Tryz.ntmps3
    go_wp2_with fail
    refine (awake4_true _ hv.out).mono ?_
    rintro e w1 ⟨rfl, h⟩
    have k1 := Lib.hid h
    replace h := Lib.hid h
    go_wp2_with fail
    refine (hre.out _ (hv.out.keep k1.out)).mono ?_
    rintro e w2 ⟨h, rfl⟩
    have k2 := Lib.hid (k1.out.trans h)
    replace h := Lib.hid h
    rw [← hfv.out]
    go_wp2_with fail
    refine (hrr.out _).mono ?_
    rintro e w3 ⟨h, rfl⟩
    have k3 := Lib.hid (k2.out.trans h)
    replace h := Lib.hid h
    go_wp2_with fail
    refine (hwrong.out w3 (hv.out.keep k3.out).base.err).mono ?_
    rintro e w4 ⟨rfl, h4⟩
    have k4 := Lib.hid (k3.out.trans h4)
    replace h4 := Lib.hid h4
    go_wp2
    go_ret
    exact ⟨rfl, k4.out⟩
  | inl ds =>
    have hct := read_count hrd
    rw [hrd] at hre hrr
    replace hrd := Lib.hid hrd
    replace hre := Lib.hid hre
    replace hrr := Lib.hid hrr
    go_enter Tryz.func3, Tryz.ntmps3
    go_wp2_with fail
    refine (awake4_true _ hv.out).mono ?_
    rintro e w1 ⟨rfl, h⟩
    have k1 := Lib.hid h
    replace h := Lib.hid h
    go_wp2_with fail
    refine (hre.out _ (hv.out.keep k1.out)).mono ?_
    rintro e w2 ⟨h, v, L, rfl, hL, hO, hD⟩
    have k2 := Lib.hid (k1.out.trans h)
    obtain ⟨q, hq⟩ : ∃ q, q = L.length := ⟨_, rfl⟩
    have hlen2 : ds.length = q := by rw [← hL, List.length_map, hq]
    obtain ⟨C, cc, rfl⟩ := own_shape hO.row
    rw [← hq]
    rw [hlen2] at hct
    replace hq := Lib.hid hq
    replace hlen2 := Lib.hid hlen2
    replace h := Lib.hid h
    replace hL := Lib.hid hL
    replace hO := Lib.hid hO
    replace hD := Lib.hid hD
    go_wp2_with fail
    refine (hrr.out _).mono ?_
    rintro e w3 ⟨h, v2, L2, rfl, hL2, hO2, hD2⟩
    have k3 := Lib.hid (k2.out.trans h)
    have hO1 := Lib.hid (hO.out.keep h)
    have hq2 : L2.length = q := by rw [← hlen2.out, ← hL2, List.length_map]
    obtain ⟨C2, cc2, rfl⟩ := own_shape hO2.row
    rw [hq2]
    replace hq2 := Lib.hid hq2
    replace h := Lib.hid h
    replace hL2 := Lib.hid hL2
    replace hO2 := Lib.hid hO2
    replace hD2 := Lib.hid hD2
    have hqq : ((q : Int) != (q : Int)) = false := by simp
    go_wp2_with fail
    go_loopg [7] (q) (fun g iv wr => ∃ (i : Nat), i ≤ q ∧ g = q - i ∧ iv = .int .i64 i ∧ Hid (Keep w3 wr))
    case atStart => exact ⟨0, Nat.zero_le _, rfl, rfl, Keep.refl _⟩
    case round =>
      obtain ⟨i, hi, rfl, rfl, hk5⟩ := hrel
      obtain ⟨w5, hw5⟩ : ∃ x, x = wr := ⟨_, rfl⟩
      subst hw5
      by_cases hiq : i < q
      · obtain ⟨d, hd⟩ : ∃ d, ds[i]? = some d := ⟨_, List.getElem?_eq_getElem (by have := hlen2.out; omega)⟩
        have hdm : d ∈ ds := List.mem_of_getElem? hd
        obtain ⟨g, B, cb, hC, ⟨p0, p1, p2, p3, p4, p5⟩, hB⟩ := ops_get (hO1.out.keep hk5.out) hq.out.symm hiq (d := d) (by rw [hL.out]; exact hd) (hD.out d hdm)
        obtain ⟨g2, B2, cb2, hC2, ⟨c0, c1, c2, c3, c4, c5⟩, hB2⟩ := ops_get (hO2.out.keep hk5.out) hq2.out hiq (d := d) (by rw [hL2.out]; exact hd) (hD.out d hdm)
        have hia : ∀ W : World, (Instr.indexAt 23 (.slice C q cc) (.int .i64 i)).run Tryz.prog W = .ok (.pointer (some ⟨g, i * 6, none⟩)) W := fun W => by rw [hC]; exact ops_at0 q cc i g hiq W
        have hib : ∀ W : World, (Instr.indexAt 23 (.slice C2 q cc2) (.int .i64 i)).run Tryz.prog W = .ok (.pointer (some ⟨g2, i * 6, none⟩)) W := fun W => by rw [hC2]; exact ops_at0 q cc2 i g2 hiq W
        have heq := Lib.hid (fun w' (h1 : Keep w5 w') => equal_read d B B2 cb cb2 w' (hB.keep h1) (hB2.keep h1))
        obtain ⟨m, hm⟩ : ∃ m, m = d.amounts.length := ⟨_, rfl⟩
        rw [← hm] at p5 c5 heq
        replace hm := Lib.hid hm
        replace hC := Lib.hid hC
        replace hC2 := Lib.hid hC2
        replace hB := Lib.hid hB
        replace hB2 := Lib.hid hB2
        replace hd := Lib.hid hd
        replace hdm := Lib.hid hdm
        go_wp2_with fail
        go_region_held3 (fun w' => w'.cell? ⟨g, i * 6, none⟩ = some (.int .i64 d.kind) ∧ w'.cell? ⟨g, i * 6 + 1, none⟩ = some (.int .i64 d.id) ∧ w'.cell? ⟨g, i * 6 + 2, none⟩ = some (.int .i64 d.cls) ∧ w'.cell? ⟨g, i * 6 + 3, none⟩ = some (.int .i64 d.n) ∧ w'.cell? ⟨g, i * 6 + 4, none⟩ = some (.bool d.flag) ∧ w'.cell? ⟨g, i * 6 + 5, none⟩ = some (.slice B m cb) ∧ w'.cell? ⟨g2, i * 6, none⟩ = some (.int .i64 d.kind) ∧ w'.cell? ⟨g2, i * 6 + 1, none⟩ = some (.int .i64 d.id) ∧ w'.cell? ⟨g2, i * 6 + 2, none⟩ = some (.int .i64 d.cls) ∧ w'.cell? ⟨g2, i * 6 + 3, none⟩ = some (.int .i64 d.n) ∧ w'.cell? ⟨g2, i * 6 + 4, none⟩ = some (.bool d.flag) ∧ w'.cell? ⟨g2, i * 6 + 5, none⟩ = some (.slice B2 m cb2))
          (first | assumption | exact ⟨p0, p1, p2, p3, p4, p5, c0, c1, c2, c3, c4, c5⟩ | exact ⟨M1.out.cell p0, M1.out.cell p1, M1.out.cell p2, M1.out.cell p3, M1.out.cell p4, M1.out.cell p5, M1.out.cell c0, M1.out.cell c1, M1.out.cell c2, M1.out.cell c3, M1.out.cell c4, M1.out.cell c5⟩)
          (first
            | (go_at_call 12; refine (heq.out _ (Keep.refl w5).drew).mono ?_; rintro e w7 ⟨rfl, k7⟩; have M1 : Hid (Keep w5 w7) := (Keep.refl w5).drew.trans k7; replace k7 := Lib.hid k7))
        go_wp2
        go_roundg (q - (i + 1))
        case measure => omega
        case rel => exact ⟨i + 1, by omega, rfl, by go_num, hk5.out.trans M1.out⟩
      · have hiq2 : ¬ (i : Int) < (q : Int) := by omega
        go_wp2
        go_ret
        exact ⟨rfl, k3.out.trans hk5.out⟩
set_option maxRecDepth 100000 in
set_option maxHeartbeats 4000000 in
theorem matches_walk (s : ByteArray) (w : World) (hv : V4 w) (hs0 : s.size ≤ 9223372036854775807) :
    Calls Tryz.prog 3 #[.string s] w fun e w' => e = .returned (.bool true) ∧ Keep w w' := by
  by_cases hs : s.size ≤ 2000
  · exact matches_in s w hv hs
  · have hd : decide ((s.size : Int) > 2000) = true := decide_eq_true (by omega)
    replace hv := Lib.hid hv
    go_enter Tryz.func3, Tryz.ntmps3
    go_wp2_with fail
    refine (awake4_true _ hv.out).mono ?_
    rintro e w1 ⟨rfl, h⟩
    have k1 := Lib.hid h
    replace h := Lib.hid h
    go_wp2_with fail
    refine (awake4_true _ (hv.out.keep k1.out)).mono ?_
    rintro e w2 ⟨rfl, h⟩
    have k2 := Lib.hid (k1.out.trans h)
    replace h := Lib.hid h
    go_wp2
    go_ret
    exact ⟨rfl, k2.out⟩
end Go.Proofs.YtnaeabfmgfipoaaGreatDoor
