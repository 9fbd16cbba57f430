/-
  ScriptLines: the walk. Condition: the listed variables hold their own.
-/
import Derived.Test.YtnaeabfmgfipoaaGreatDoorBase5
import Derived.Deep.RegionHeld3
namespace Go.Proofs.YtnaeabfmgfipoaaGreatDoor
open Go.RowKit Go.Extern.Stop Go.Stop Go.Extern

/-- What a good line says: the plain operation. -/
def plainD (p : OpV) : OpD := ⟨p.k, kI p.k p.i, kC p.k p.c, kN p.k p.n, kF p.k p.f, if p.k = 2 ∨ p.k = 4 then (List.range p.m).map p.Z else []⟩
theorem good_in {p : OpV} (h : p.good = true) : ¬ p.out := fun ho => by rw [(code_out ho).2.2] at h; cases h
theorem line_parses {p : OpV} (h : p.good = true) : parseOf (wordsOf p.line) = some (plainD p) := by
  have ho := good_in h
  obtain ⟨_, h2, h3⟩ := code_in ho
  have hok : okL p.nums = true := by rw [← h3]; exact h
  rw [h2]
  by_cases h1 : p.k = 1
  · have hl := (line_one (f := p.f) (K := kindNm p.k) (l := p.nums) hok).1
    rw [h1] at hl ⊢
    have hn : p.nums = allN 1 p.i p.c p.n p.m p.Z := by unfold OpV.nums; rw [h1]
    rw [hl, words_class]
    have hp := parse_class p.i p.c p.n p.f p.m p.Z (by rw [← hn]; exact hok)
    rw [← hn] at hp
    have e : (if p.f then (⟨#[121, 101, 115]⟩ : ByteArray) else ⟨#[110, 111]⟩) = if p.f then yesW else noW := rfl
    rw [e, hp]
    unfold plainD kI kC kN kF
    rw [h1]
    rfl
  · rw [(line_ok (f := p.f) (K := kindNm p.k) hok h1).1, words_line]
    have hp := parse_other p.k p.i p.c p.n p.m p.Z ho h1 hok
    unfold OpV.nums
    rw [hp]
    unfold plainD kF
    rw [if_neg h1]
theorem plain_len (p : OpV) : (plainD p).amounts.length = kM p.k p.m := by
  by_cases h : p.k = 2 ∨ p.k = 4
  · have e : (plainD p).amounts = (List.range p.m).map p.Z := if_pos h
    have e2 : kM p.k p.m = p.m := if_pos h
    rw [e, e2]
    simp
  · have e : (plainD p).amounts = [] := if_neg h
    have e2 : kM p.k p.m = 0 := if_neg h
    rw [e, e2]
    rfl
theorem plain_get {p : OpV} {j : Nat} (h : j < (plainD p).amounts.length) : (plainD p).amounts.getD j 0 = p.Z j := by
  have hl := plain_len p
  by_cases hk : p.k = 2 ∨ p.k = 4
  · have hm : kM p.k p.m = p.m := if_pos hk
    have e : (plainD p).amounts = (List.range p.m).map p.Z := if_pos hk
    rw [e, List.getD_eq_getElem?_getD, List.getElem?_map, List.getElem?_range (by omega)]
    rfl
  · have hm : kM p.k p.m = 0 := if_neg hk
    omega
theorem kept_rd {w : World} {p : OpV} (h : Rd w p.A p.m p.Z) : Rd w (kA p.k p.A) (kM p.k p.m) p.Z := by
  unfold kA kM
  by_cases hk : p.k = 2 ∨ p.k = 4
  · rw [if_pos hk, if_pos hk]; exact h
  · rw [if_neg hk, if_neg hk]; exact ⟨by omega, fun k hk => by omega, fun hk => by omega⟩
/-- The operation that was read is the plain one. -/
theorem equal_plain (p : OpV) (B : Option Addr) (cp : Nat) (w : World) (hp : Rd w p.A p.m p.Z) (hB : Rd w B (kM p.k p.m) (fun j => (plainD p).amounts.getD j 0)) :
    Calls Tryz.prog 12 #[.agg #[.int .i64 p.k, .int .i64 (kI p.k p.i), .int .i64 (kC p.k p.c), .int .i64 (kN p.k p.n), .bool (kF p.k p.f), .slice B (kM p.k p.m) cp], .agg #[.int .i64 p.k, .int .i64 (kI p.k p.i), .int .i64 (kC p.k p.c), .int .i64 (kN p.k p.n), .bool (kF p.k p.f), .slice (kA p.k p.A) (kM p.k p.m) (kM p.k p.cp)]] w fun e w' => e = .returned (.bool true) ∧ Keep w w' := by
  have h := requal_fn p.k (kI p.k p.i) (kC p.k p.c) (kN p.k p.n) (kF p.k p.f) B _ cp _ p.k (kI p.k p.i) (kC p.k p.c) (kN p.k p.n) (kF p.k p.f) (kA p.k p.A) (kM p.k p.m) (kM p.k p.cp) _ w hB (kept_rd hp) true (same_yes rfl (fun k hk => plain_get (by rw [plain_len]; exact hk)))
  rw [eqO_self] at h
  exact h
theorem rplain_is (p : OpV) (w : World) : Calls Tryz.prog 16 #[p.val] w fun e w' => e = .returned (.agg #[.int .i64 p.k, .int .i64 (kI p.k p.i), .int .i64 (kC p.k p.c), .int .i64 (kN p.k p.n), .bool (kF p.k p.f), .slice (kA p.k p.A) (kM p.k p.m) (kM p.k p.cp)]) ∧ Keep w w' := rplain_fn p.k p.i p.c p.n p.f p.A p.m p.cp w

set_option maxRecDepth 100000 in
set_option maxHeartbeats 4000000 in
theorem lines_out (p : OpV) (w : World) (hv : V4 w) (hm : 100 < p.m) :
    Calls Tryz.prog 4 #[p.val] w fun e w' => e = .returned (.bool true) ∧ Keep w w' := by
  replace hv := Lib.hid hv
  have hd : decide ((p.m : Int) > 100) = true := decide_eq_true (by omega)
  have X := Box.new w (.int .i64 p.k) (.int .i64 p.i) (.int .i64 p.c) (.int .i64 p.n) (.bool p.f) (.slice p.A p.m p.cp)
  have k0 : Keep w (w.alloc (.cells #[.int .i64 p.k, .int .i64 p.i, .int .i64 p.c, .int .i64 p.n, .bool p.f, .slice p.A p.m p.cp] 34)) := Keep.one _ _
  unfold OpV.val
  go_enter Tryz.func4, Tryz.ntmps4
  go_wp2_with fail
  refine (awake4_true _ (hv.out.keep k0)).mono ?_
  rintro e w1 ⟨rfl, h⟩
  have k1 := Lib.hid (k0.trans h)
  have e5 := (X.keep h).ce5
  replace h := Lib.hid h
  replace X := Lib.hid X
  replace k0 := Lib.hid k0
  go_wp2_with fail
  refine (awake4_true _ (hv.out.keep k1.out)).mono ?_
  rintro e w2 ⟨rfl, h⟩
  have k2 := Lib.hid (k1.out.trans h)
  replace h := Lib.hid h
  go_wp2
  go_ret
  exact ⟨rfl, k2.out⟩
theorem plain_range {p : OpV} {w : World} (h : OpIs w p) : inRangeD (plainD p) := by
  intro x hx
  by_cases hk : p.k = 2 ∨ p.k = 4
  · have e : (plainD p).amounts = (List.range p.m).map p.Z := if_pos hk
    rw [e] at hx
    obtain ⟨j, hj, rfl⟩ := List.mem_map.1 hx
    exact h.rd.range j (List.mem_range.1 hj)
  · have e : (plainD p).amounts = [] := if_neg hk
    rw [e] at hx
    cases hx

theorem parse_plain (p : OpV) (w : World) (hv : V4 w) (hm : p.m ≤ 100) (hg : p.good = true) (hr : inRangeD (plainD p)) :
    Calls Tryz.prog 15 #[.string p.line] w fun e w' => ∃ B cb, e = .returned (.tuple #[.agg #[.int .i64 p.k, .int .i64 (kI p.k p.i), .int .i64 (kC p.k p.c), .int .i64 (kN p.k p.n), .bool (kF p.k p.f), .slice B (kM p.k p.m) cb], .bool true]) ∧ Rd w' B (kM p.k p.m) (fun j => (plainD p).amounts.getD j 0) ∧ Keep w w' := by
  have h := sparse_fn p.line w hv (Nat.le_trans (line_size p hm) (by omega))
  rw [line_parses hg] at h
  refine h.mono ?_
  rintro e w' ⟨k, av, rfl, hown⟩
  have hlen := plain_len p
  have h2 : kM p.k p.m ≤ p.m := by unfold kM; split <;> omega
  obtain ⟨B, cb, rfl, hB⟩ := rd_ints hown hr (by omega)
  rw [hlen] at hB
  refine ⟨B, cb, ?_, hB, k⟩
  rw [← hlen]
  rfl

set_option maxRecDepth 100000 in
set_option maxHeartbeats 16000000 in
theorem lines_in (p : OpV) (w : World) (hv : V4 w) (hp : OpIs w p) (hm : p.m ≤ 100) :
    Calls Tryz.prog 4 #[p.val] w fun e w' => e = .returned (.bool true) ∧ Keep w w' := by
  replace hv := Lib.hid hv
  have hd : decide ((p.m : Int) > 100) = false := decide_eq_false (by omega)
  have X := Box.new w (.int .i64 p.k) (.int .i64 p.i) (.int .i64 p.c) (.int .i64 p.n) (.bool p.f) (.slice p.A p.m p.cp)
  have k0 : Keep w (w.alloc (.cells #[.int .i64 p.k, .int .i64 p.i, .int .i64 p.c, .int .i64 p.n, .bool p.f, .slice p.A p.m p.cp] 34)) := Keep.one _ _
  obtain ⟨w0, hw0⟩ : ∃ w0, w0 = w.alloc (.cells #[.int .i64 p.k, .int .i64 p.i, .int .i64 p.c, .int .i64 p.n, .bool p.f, .slice p.A p.m p.cp] 34) := ⟨_, rfl⟩
  obtain ⟨b0, hb0⟩ : ∃ b0, b0 = w.heap.size := ⟨_, rfl⟩
  rw [← hw0] at X k0
  rw [← hb0] at X
  have hgc : (p.code == 0) = p.good := by unfold OpV.good; by_cases h : p.code = 0 <;> simp [h]
  have hsl := fun w' (h1 : V4 w') (h2 : OpIs w' p) => sline_fn p w' h1 h2 hm
  have hrl := fun w' (h2 : OpIs w' p) => rline_is p w' h2 hm
  have hps := fun (hg : p.good = true) w' (h1 : V4 w') => parse_plain p w' h1 hm hg (plain_range hp)
  have hpl := rplain_is p
  unfold OpV.val at hsl hrl hpl ⊢
  have hq : (p.line.toList == p.line.toList) = true := by simp
  obtain ⟨T, hT⟩ : ∃ T, T = p.line := ⟨_, rfl⟩
  obtain ⟨G, hG⟩ : ∃ G, G = p.good := ⟨_, rfl⟩
  rw [← hT] at hsl hrl hps hq
  rw [← hG] at hsl hgc hps
  replace hsl := Lib.hid hsl
  replace hrl := Lib.hid hrl
  replace hps := Lib.hid hps
  replace hpl := Lib.hid hpl
  replace hT := Lib.hid hT
  replace hG := Lib.hid hG
  replace hp := Lib.hid hp
  replace hw0 := Lib.hid hw0
  replace hb0 := Lib.hid hb0
  go_enter Tryz.func4, Tryz.ntmps4
  go_wp2_with fail
  rw [← hw0.out, ← hb0.out]
  refine (awake4_true _ (hv.out.keep k0)).mono ?_
  rintro e w1 ⟨rfl, h⟩
  have k1 := Lib.hid (k0.trans h)
  have X1 := X.keep h
  have e0 := X1.ce0
  have e1 := X1.ce1
  have e2 := X1.ce2
  have e3 := X1.ce3
  have e4 := X1.ce4
  have e5 := X1.ce5
  replace h := Lib.hid h
  replace X := Lib.hid X
  replace k0 := Lib.hid k0
  replace X1 := Lib.hid X1
  go_wp2_with fail
  refine (hsl.out _ (hv.out.keep k1.out) (hp.out.keep k1.out)).mono ?_
  rintro e w2 ⟨rfl, h⟩
  have k2 := Lib.hid (k1.out.trans h)
  have X2 := X1.out.keep h
  clear e0 e1 e2 e3 e4 e5
  have e0 := X2.ce0
  have e1 := X2.ce1
  have e2 := X2.ce2
  have e3 := X2.ce3
  have e4 := X2.ce4
  have e5 := X2.ce5
  replace h := Lib.hid h
  replace X2 := Lib.hid X2
  go_wp2_with fail
  refine (hrl.out _ (hp.out.keep k2.out)).mono ?_
  rintro e w3 ⟨rfl, h⟩
  have k3 := Lib.hid (k2.out.trans h)
  have X3 := Lib.hid (X2.out.keep h)
  replace h := Lib.hid h
  clear e0 e1 e2 e3 e4 e5
  cases G
  · go_wp2
    go_ret
    exact ⟨rfl, k3.out⟩
  · go_wp2_with fail
    refine (hps.out (by first | rfl | trivial) w3 (hv.out.keep k3.out)).mono ?_
    rintro e w4 ⟨B, cb, rfl, hB, k4⟩
    have Y := Box.new w4 (.int .i64 p.k) (.int .i64 (kI p.k p.i)) (.int .i64 (kC p.k p.c)) (.int .i64 (kN p.k p.n)) (.bool (kF p.k p.f)) (.slice B (kM p.k p.m) cb)
    have ky : Keep w4 (w4.alloc (.cells #[.int .i64 p.k, .int .i64 (kI p.k p.i), .int .i64 (kC p.k p.c), .int .i64 (kN p.k p.n), .bool (kF p.k p.f), .slice B (kM p.k p.m) cb] 34)) := Keep.one _ _
    have K5 := (k3.out.trans k4).trans ky
    have X5 := (X3.out.keep k4).keep ky
    have hB5 := hB.keep ky
    obtain ⟨w5, hw5⟩ : ∃ w5, w5 = w4.alloc (.cells #[.int .i64 p.k, .int .i64 (kI p.k p.i), .int .i64 (kC p.k p.c), .int .i64 (kN p.k p.n), .bool (kF p.k p.f), .slice B (kM p.k p.m) cb] 34) := ⟨_, rfl⟩
    obtain ⟨b5, hb5⟩ : ∃ b5, b5 = w4.heap.size := ⟨_, rfl⟩
    rw [← hw5] at Y K5 X5 hB5
    rw [← hb5] at Y
    have heq := Lib.hid (fun w' (h1 : Keep w5 w') => equal_plain p B cb w' ((hp.out.rd.keep K5).keep h1) (hB5.keep h1))
    have p0 := Y.ce0
    have p1 := Y.ce1
    have p2 := Y.ce2
    have p3 := Y.ce3
    have p4 := Y.ce4
    have p5 := Y.ce5
    have r0 := X5.ce0
    have r1 := X5.ce1
    have r2 := X5.ce2
    have r3 := X5.ce3
    have r4 := X5.ce4
    have r5 := X5.ce5
    replace K5 := Lib.hid K5
    replace Y := Lib.hid Y
    replace X5 := Lib.hid X5
    replace hB := Lib.hid hB
    replace hB5 := Lib.hid hB5
    replace k4 := Lib.hid k4
    replace ky := Lib.hid ky
    replace hw5 := Lib.hid hw5
    replace hb5 := Lib.hid hb5
    go_wp2_with fail
    rw [← hw5.out, ← hb5.out]
    go_region_held3 (fun w' => w'.cell? ⟨b5, 0, none⟩ = some (.int .i64 p.k) ∧ w'.cell? ⟨b5, 1, none⟩ = some (.int .i64 (kI p.k p.i)) ∧ w'.cell? ⟨b5, 2, none⟩ = some (.int .i64 (kC p.k p.c)) ∧ w'.cell? ⟨b5, 3, none⟩ = some (.int .i64 (kN p.k p.n)) ∧ w'.cell? ⟨b5, 4, none⟩ = some (.bool (kF p.k p.f)) ∧ w'.cell? ⟨b5, 5, none⟩ = some (.slice B (kM p.k p.m) cb) ∧ w'.cell? ⟨b0, 0, none⟩ = some (.int .i64 p.k) ∧ w'.cell? ⟨b0, 1, none⟩ = some (.int .i64 p.i) ∧ w'.cell? ⟨b0, 2, none⟩ = some (.int .i64 p.c) ∧ w'.cell? ⟨b0, 3, none⟩ = some (.int .i64 p.n) ∧ w'.cell? ⟨b0, 4, none⟩ = some (.bool p.f) ∧ w'.cell? ⟨b0, 5, none⟩ = some (.slice p.A p.m p.cp))
      (first | assumption | exact ⟨p0, p1, p2, p3, p4, p5, r0, r1, r2, r3, r4, r5⟩ | exact ⟨M2.out.cell p0, M2.out.cell p1, M2.out.cell p2, M2.out.cell p3, M2.out.cell p4, M2.out.cell p5, M2.out.cell r0, M2.out.cell r1, M2.out.cell r2, M2.out.cell r3, M2.out.cell r4, M2.out.cell r5⟩ | exact ⟨M1.out.cell p0, M1.out.cell p1, M1.out.cell p2, M1.out.cell p3, M1.out.cell p4, M1.out.cell p5, M1.out.cell r0, M1.out.cell r1, M1.out.cell r2, M1.out.cell r3, M1.out.cell r4, M1.out.cell r5⟩)
      (first
        | (go_at_call 16; refine (hpl.out _).mono ?_; rintro e w6 ⟨rfl, k6⟩; have M1 : Hid (Keep w5 w6) := (Keep.refl w5).drew.trans k6; replace k6 := Lib.hid k6)
        | (go_at_call 12; refine (heq.out _ M1.out).mono ?_; rintro e w7 ⟨rfl, k7⟩; have M2 := Lib.hid (M1.out.trans k7); replace k7 := Lib.hid k7))
    go_wp2
    go_ret
    exact ⟨rfl, K5.out.trans M2.out⟩
theorem lines_walk (p : OpV) (w : World) (hv : V4 w) (hp : OpIs w p) : Calls Tryz.prog 4 #[p.val] w fun e w' => e = .returned (.bool true) ∧ Keep w w' := by
  by_cases hm : p.m ≤ 100
  · exact lines_in p w hv hp hm
  · exact lines_out p w hv (by omega)
end Go.Proofs.YtnaeabfmgfipoaaGreatDoor
