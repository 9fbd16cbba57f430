/-
  The law's play of a drop. Conditions: errors.errorType holds its own; at most 1000 nodes.
-/
import Derived.Test.YtokopegffeablaaGreatDoorPlay12
import Derived.Deep.CutBlock
namespace Go.Proofs.YtokopegffeablaaGreatDoor.T12
open Go.RowKit Go.Sort Go.Lib V12

set_option maxRecDepth 100000 in
set_option maxHeartbeats 16000000 in
theorem play_dropNo {SI : World → Nat → Int → Nat → (Nat → Prop) → List NodeV → Prop} (C : Con SI) {w : World} {d : Nat} {s : Int} {q : Nat} {D : Nat → Prop} {L : List NodeV} (h : SI w d s q D L) {B : Option Addr} {cp : Nat} {l : List RnV} (hr : RL w d B cp l) (hL : l.map node = L) (hg : ErrT w)
    (id : Int) (A : Option Addr) (n c : Nat) (hid : I64 id) (hk : id ∉ nkeys L) :
    Calls Tryz.prog 8 #[.pointer (some ⟨q, 0, none⟩), .slice B l.length cp, .int .i64 s, .agg #[.int .i64 1, .int .i64 id, .slice A n c]] w (Played SI d s q D w (dropL L id)) := by
  have mixed : Tryz.prog.follows .mixedOrders = true := by kernel_rfl
  have kk : nkeys L = keys l := by rw [← hL]; exact map_keys l
  obtain ⟨M, hM⟩ : ∃ M, M = dropL L id := ⟨_, rfl⟩
  rw [← hM]
  obtain ⟨W, hW⟩ : ∃ W, W = w.alloc (.cells #[.int .i64 1, .int .i64 id, .slice A n c] 32) := ⟨_, rfl⟩
  have KW : Hid (Keep w W) := by rw [hW]; exact Keep.one _ _
  have u0 : W.cell? ⟨w.heap.size, 0, none⟩ = some (.int .i64 1) := by rw [hW]; simp [go_sem]
  have u1 : W.cell? ⟨w.heap.size, 1, none⟩ = some (.int .i64 id) := by rw [hW]; simp [go_sem]
  have U0 := Lib.hid u0
  have U1 := Lib.hid u1
  clear u0 u1
  have cD := Lib.hid (C.dims (C.keep h KW.out))
  have cA : Hid (∀ W1, Keep w W1 → Calls Tryz.prog 24 #[.pointer (some ⟨q, 0, none⟩), .int .i64 id] W1 fun e w' => ∃ k A n c, e = .returned (.tuple #[.agg #[.int .i64 k, .slice A n c], flt 5 0]) ∧ (k = 0 ∧ n = 0) ∧ Eff SI d s q D W1 M w') := fun W1 k => by
    refine (C.drop id (C.keep h k) (hg.keep k) hid).mono ?_
    rintro e w' ⟨k2, A2, n2, c2, rfl, h1, h2, h3⟩
    rw [hM]
    rw [if_neg hk]
    exact ⟨k2, A2, n2, c2, rfl, h2 hk, h3⟩
  have cF : Hid (∀ W1, RL W1 d B cp l → Calls Tryz.prog 25 #[.slice B l.length cp, .int .i64 id] W1 fun e w' => e = .returned (.int .i64 (findN (row l) id l.length)) ∧ W1 = w') := fun W1 r => rfind_fn B l.length cp (row l) id W1 r.rd
  have HG := Lib.hid hg
  have HH := Lib.hid h
  have HR := Lib.hid hr
  have cW := Lib.hid (fun W => wrong_yes 5 0 W)
  have ew : Hid (M = L) := by show _ = _; rw [hM]; exact G.wo_none hk
  have fno : Hid (findN (row l) id l.length = -1) := by
    rcases find_cases (row l) id l.length with ⟨h1, _⟩ | ⟨_, _, _, _, h4, _⟩
    · exact h1
    · rw [lst_row, ← kk] at h4; exact absurd h4 hk
  replace hM := Lib.hid hM
  replace hL := Lib.hid hL
  replace kk := Lib.hid kk
  replace hid := Lib.hid hid
  replace hk := Lib.hid hk
  clear h hg hr
  go_enter Tryz.func8, Tryz.ntmps8
  go_wp2_with fail
  rw [← hW]
  replace hW := Lib.hid hW
  refine cD.out.mono ?_
  rintro e w1 ⟨rfl, k1⟩
  have K1 := Lib.hid (KW.out.trans k1)
  have v0 := k1.cell U0.out
  have v1 := k1.cell U1.out
  have V1 := Lib.hid v1
  replace k1 := Lib.hid k1
  clear cD
  go_wp2_with fail
  refine (cA.out _ K1.out).mono ?_
  rintro e w2 ⟨k2, A2, n2, c2, rfl, P2, F2⟩
  obtain ⟨D2, S2, G2, N2⟩ := F2
  have hh := C.keep HH.out K1.out
  have g2 := Lib.hid (C.errT hh G2 (HG.out.keep K1.out))
  have R2 := Lib.hid (C.rl hh G2 (HR.out.keep K1.out))
  have F2 : Hid (Eff SI d s q D w1 M w2) := ⟨D2, S2, G2, N2⟩
  have x1 := G2.int _ _ _ _ V1.out
  replace P2 := Lib.hid P2
  clear hh S2 G2 N2 v0 v1 cA D2
  obtain ⟨W3, hW3⟩ : ∃ W3, W3 = w2.alloc (.cells #[.int .i64 k2, .slice A2 n2 c2] 36) := ⟨_, rfl⟩
  have K3 : Hid (Keep w2 W3) := by rw [hW3]; exact Keep.one _ _
  have n0 : W3.cell? ⟨w2.heap.size, 0, none⟩ = some (.int .i64 k2) := by rw [hW3]; simp [go_sem]
  have n1 : W3.cell? ⟨w2.heap.size, 1, none⟩ = some (.slice A2 n2 c2) := by rw [hW3]; simp [go_sem]
  have y1 := K3.out.cell x1
  have R3 := Lib.hid (R2.out.keep K3.out)
  have cF3 := Lib.hid (cF.out W3 R3.out)
  have g3 := Lib.hid (g2.out.keep K3.out)
  have N0 := Lib.hid n0
  have N1 := Lib.hid n1
  have Y1 := Lib.hid y1
  have hbl := cell_lt x1
  clear n0 n1 y1 cF
  obtain ⟨rfl, rfl⟩ := P2.out
  rw [fno.out] at cF3
  have fin : Hid (∀ w', Keep W3 w' → Played SI d s q D w M (.returned (.tuple #[.slice B l.length cp, .bool true])) w') := fun w' k => ⟨B, cp, l, true, rfl, R3.out.keep k, by rw [hL.out, ew.out], (F2.out.after K1.out).keep C (K3.out.trans k)⟩
  have cW3 := Lib.hid (fun W (k : Keep W3 W) => cW.out W (g3.out.keep k))
  go_wp2_with fail
  rw [← hW3]
  replace hW3 := Lib.hid hW3
  refine cF3.out.mono ?_
  rintro e w4 ⟨rfl, rfl⟩
  clear x1 hbl cF3 cW
  have n0 := N0.out
  have n1 := N1.out
  go_wp2_with fail
  go_region_held3 (fun w' => w'.cell? ⟨w2.heap.size, 0, none⟩ = some (.int .i64 0) ∧ w'.cell? ⟨w2.heap.size, 1, none⟩ = some (.slice A2 0 c2))
    (first
      | ((refine (fun (KK : Keep W3 _) => ⟨KK.cell n0, KK.cell n1⟩) ?_; repeat (with_reducible first | exact Keep.refl W3 | apply Keep.drew | apply Keep.drewN | (refine Keep.trans ?_ k6.out))); done))
    (first | (go_at_call 19; refine (cW3.out _ (by repeat (with_reducible first | exact Keep.refl W3 | apply Keep.drew | apply Keep.drewN))).mono ?_; rintro e w6 ⟨rfl, k6⟩; replace k6 := Lib.hid k6))
  all_goals
    clear n0 n1 cW3
    go_wp2
    go_ret2
    exact fin.out _ (by repeat (with_reducible first | exact Keep.refl W3 | apply Keep.drew | apply Keep.drewN | (refine Keep.trans ?_ k6.out)))
set_option maxRecDepth 100000 in
set_option maxHeartbeats 16000000 in
theorem play_dropYes {SI : World → Nat → Int → Nat → (Nat → Prop) → List NodeV → Prop} (C : Con SI) {w : World} {d : Nat} {s : Int} {q : Nat} {D : Nat → Prop} {L : List NodeV} (h : SI w d s q D L) {B : Option Addr} {cp : Nat} {l : List RnV} (hr : RL w d B cp l) (hL : l.map node = L) (hg : ErrT w)
    (id : Int) (A : Option Addr) (n c : Nat) (hid : I64 id) (hl : l.length ≤ 1000) (hk : id ∈ nkeys L) :
    Calls Tryz.prog 8 #[.pointer (some ⟨q, 0, none⟩), .slice B l.length cp, .int .i64 s, .agg #[.int .i64 1, .int .i64 id, .slice A n c]] w (Played SI d s q D w (dropL L id)) := by
  have mixed : Tryz.prog.follows .mixedOrders = true := by kernel_rfl
  have kk : nkeys L = keys l := by rw [← hL]; exact map_keys l
  obtain ⟨i, hi, hf, hki, hget⟩ : ∃ i, i < l.length ∧ findN (row l) id l.length = (i : Int) ∧ (row l i).k = id ∧ getL l id = row l i := by
    rcases find_cases (row l) id l.length with ⟨_, h1⟩ | ⟨j, h1, h2, h3, _, h4⟩
    · rw [lst_row, ← kk] at h1; exact absurd hk h1
    · rw [lst_row] at h4; exact ⟨j, h1, h2, h3, h4⟩
  obtain ⟨x, hx⟩ : ∃ x, x = row l i := ⟨_, rfl⟩
  have hxC : (nget L id).C = x.C := by
    unfold nget
    rw [← hL, ← map_get, hget, ← hx]
    rfl
  have hxm : Hid (x ∈ l) := by
    show x ∈ l
    rw [hx]
    unfold row
    rw [List.getD_eq_getElem?_getD, List.getElem?_eq_getElem hi]
    exact List.getElem_mem hi
  replace hf := Lib.hid hf
  replace hki := Lib.hid hki
  replace hget := Lib.hid hget
  replace hx := Lib.hid hx
  obtain ⟨M, hM⟩ : ∃ M, M = dropL L id := ⟨_, rfl⟩
  rw [← hM]
  obtain ⟨W, hW⟩ : ∃ W, W = w.alloc (.cells #[.int .i64 1, .int .i64 id, .slice A n c] 32) := ⟨_, rfl⟩
  have KW : Hid (Keep w W) := by rw [hW]; exact Keep.one _ _
  have u0 : W.cell? ⟨w.heap.size, 0, none⟩ = some (.int .i64 1) := by rw [hW]; simp [go_sem]
  have u1 : W.cell? ⟨w.heap.size, 1, none⟩ = some (.int .i64 id) := by rw [hW]; simp [go_sem]
  have U0 := Lib.hid u0
  have U1 := Lib.hid u1
  clear u0 u1
  have cD := Lib.hid (C.dims (C.keep h KW.out))
  have cA : Hid (∀ W1, Keep w W1 → Calls Tryz.prog 24 #[.pointer (some ⟨q, 0, none⟩), .int .i64 id] W1 fun e w' => ∃ k A n c, e = .returned (.tuple #[.agg #[.int .i64 k, .slice A n c], .nilIface]) ∧ (k = id ∧ n = d ∧ Rd w' A d x.C) ∧ Eff SI d s q D W1 M w') := fun W1 k => by
    refine (C.drop id (C.keep h k) (hg.keep k) hid).mono ?_
    rintro e w' ⟨k2, A2, n2, c2, rfl, h1, h2, h3⟩
    rw [hM]
    rw [if_pos hk]
    obtain ⟨a1, a2, a3⟩ := h1 hk
    exact ⟨k2, A2, n2, c2, rfl, ⟨a1, a2, by rw [← hxC]; exact a3⟩, h3⟩
  have cF : Hid (∀ W1, RL W1 d B cp l → Calls Tryz.prog 25 #[.slice B l.length cp, .int .i64 id] W1 fun e w' => e = .returned (.int .i64 (findN (row l) id l.length)) ∧ W1 = w') := fun W1 r => rfind_fn B l.length cp (row l) id W1 r.rd
  have HG := Lib.hid hg
  have HH := Lib.hid h
  have HR := Lib.hid hr
  have cDr : Hid (∀ W, RL W d B cp l → Calls Tryz.prog 26 #[.slice B l.length cp, .int .i64 id] W fun e w' => ∃ B' c' l', e = .returned (.slice B' l'.length c') ∧ Keep W w' ∧ RL w' d B' c' l' ∧ l'.map node = M) := fun W r => by
    rw [hM, ← hL]
    exact rdr_fn r id hl
  replace hxC := Lib.hid hxC
  replace hM := Lib.hid hM
  replace hL := Lib.hid hL
  replace kk := Lib.hid kk
  replace hid := Lib.hid hid
  replace hk := Lib.hid hk
  clear h hg hr
  go_enter Tryz.func8, Tryz.ntmps8
  go_wp2_with fail
  rw [← hW]
  replace hW := Lib.hid hW
  refine cD.out.mono ?_
  rintro e w1 ⟨rfl, k1⟩
  have K1 := Lib.hid (KW.out.trans k1)
  have v0 := k1.cell U0.out
  have v1 := k1.cell U1.out
  have V1 := Lib.hid v1
  replace k1 := Lib.hid k1
  clear cD
  go_wp2_with fail
  refine (cA.out _ K1.out).mono ?_
  rintro e w2 ⟨k2, A2, n2, c2, rfl, P2, F2⟩
  obtain ⟨D2, S2, G2, N2⟩ := F2
  have hh := C.keep HH.out K1.out
  have g2 := Lib.hid (C.errT hh G2 (HG.out.keep K1.out))
  have R2 := Lib.hid (C.rl hh G2 (HR.out.keep K1.out))
  have F2 : Hid (Eff SI d s q D w1 M w2) := ⟨D2, S2, G2, N2⟩
  have x1 := G2.int _ _ _ _ V1.out
  replace P2 := Lib.hid P2
  clear hh S2 G2 N2 v0 v1 cA D2
  obtain ⟨W3, hW3⟩ : ∃ W3, W3 = w2.alloc (.cells #[.int .i64 k2, .slice A2 n2 c2] 36) := ⟨_, rfl⟩
  have K3 : Hid (Keep w2 W3) := by rw [hW3]; exact Keep.one _ _
  have n0 : W3.cell? ⟨w2.heap.size, 0, none⟩ = some (.int .i64 k2) := by rw [hW3]; simp [go_sem]
  have n1 : W3.cell? ⟨w2.heap.size, 1, none⟩ = some (.slice A2 n2 c2) := by rw [hW3]; simp [go_sem]
  have y1 := K3.out.cell x1
  have R3 := Lib.hid (R2.out.keep K3.out)
  have cF3 := Lib.hid (cF.out W3 R3.out)
  have g3 := Lib.hid (g2.out.keep K3.out)
  have N0 := Lib.hid n0
  have N1 := Lib.hid n1
  have Y1 := Lib.hid y1
  have hbl := cell_lt x1
  clear n0 n1 y1 cF
  obtain ⟨rfl, rfl, P3⟩ := P2.out
  rw [hf.out] at cF3
  have is3 := R3.out.is x hxm.out
  have hxn := is3.n
  obtain ⟨b, off, rfl⟩ : ∃ b off, B = some ⟨b, off, none⟩ := by
    obtain ⟨b, off, e, _⟩ := R3.out.rd.adr (by omega)
    exact ⟨b, off, e⟩
  have z1 : W3.cell? ⟨b, off + i * 3 + 1, none⟩ = some (.slice x.A n2 x.c) := by
    obtain ⟨b', off', e', ca⟩ := R3.out.rd.adr (by omega)
    have e2 := Option.some.inj e'
    simp only [Addr.mk.injEq, and_true] at e2
    obtain ⟨rfl, rfl⟩ := e2
    have := (ca i hi).e1
    rw [← hx.out, hxn] at this
    exact this
  have cSm : Hid (∀ W, Keep W3 W → Calls Tryz.prog 13 #[.slice A2 n2 c2, .slice x.A n2 x.c] W fun e w' => e = .returned (.bool true) ∧ Keep W w') := fun W k =>
    (rsame_is A2 x.A n2 n2 c2 x.c x.C x.C W (P3.keep (K3.out.trans k)) (is3.rc.keep k) true (same_yes rfl fun _ _ => rfl)).mono fun e w' ⟨a, b⟩ => ⟨a, b.keep⟩
  have fin : Hid (∀ w' B' c' l', Keep W3 w' → RL w' n2 B' c' l' → l'.map node = M → Played SI n2 s q D w M (.returned (.tuple #[.slice B' l'.length c', .bool true])) w') := fun w' B' c' l' k r e => ⟨B', c', l', true, rfl, r, e, (F2.out.after K1.out).keep C (K3.out.trans k)⟩
  have cD3 := Lib.hid (fun W (k : Keep W3 W) => cDr.out W (R3.out.keep k))
  have hq1 := atN b off l.length cp i hi
  replace P3 := Lib.hid P3
  replace hxn := Lib.hid hxn
  replace is3 := Lib.hid is3
  have Z1 := Lib.hid z1
  clear z1 cDr
  obtain ⟨xA, hxA⟩ : ∃ xA, xA = x.A := ⟨_, rfl⟩
  obtain ⟨xc, hxc⟩ : ∃ xc, xc = x.c := ⟨_, rfl⟩
  rw [← hxA, ← hxc] at Z1 cSm
  replace hxA := Lib.hid hxA
  replace hxc := Lib.hid hxc
  obtain ⟨N, hN⟩ : ∃ N, N = l.length := ⟨_, rfl⟩
  rw [← hN] at cF3 cD3 hi hq1 hl ⊢
  replace hN := Lib.hid hN
  go_wp2_with fail
  rw [← hW3]
  replace hW3 := Lib.hid hW3
  refine cF3.out.mono ?_
  rintro e w4 ⟨rfl, rfl⟩
  clear x1 hbl cF3
  have n0 := N0.out
  have n1 := N1.out
  have y1 := Y1.out
  have z1 := Z1.out
  go_wp2_with fail
  go_region_held3 (fun w' => w'.cell? ⟨w2.heap.size, 0, none⟩ = some (.int .i64 k2) ∧ w'.cell? ⟨w2.heap.size, 1, none⟩ = some (.slice A2 n2 c2) ∧ w'.cell? ⟨w.heap.size, 1, none⟩ = some (.int .i64 k2) ∧ w'.cell? ⟨b, off + i * 3 + 1, none⟩ = some (.slice xA n2 xc))
    (first
      | ((refine (fun (KK : Keep W3 _) => ⟨KK.cell n0, KK.cell n1, KK.cell y1, KK.cell z1⟩) ?_; repeat (with_reducible first | exact Keep.refl W3 | apply Keep.drew | apply Keep.drewN | (refine Keep.trans ?_ k6.out) | (refine Keep.trans ?_ k5.out))); done))
    (first
      | (go_at_call 26; refine (cD3.out _ (by repeat (with_reducible first | exact Keep.refl W3 | apply Keep.drew | apply Keep.drewN | (refine Keep.trans ?_ k6.out)))).mono ?_; rintro e w5 ⟨B5, c5, l5, rfl, k5, R5, E5⟩; replace k5 := Lib.hid k5; replace R5 := Lib.hid R5; replace E5 := Lib.hid E5)
      | (go_at_call 13; refine (cSm.out _ (by repeat (with_reducible first | exact Keep.refl W3 | apply Keep.drew | apply Keep.drewN | (refine Keep.trans ?_ k5.out)))).mono ?_; rintro e w6 ⟨rfl, k6⟩; replace k6 := Lib.hid k6))
  all_goals
    clear n0 n1 y1 z1 cSm cD3
    go_wp2
    go_ret2
    exact fin.out _ B5 c5 l5 (by repeat (with_reducible first | exact Keep.refl W3 | apply Keep.drew | apply Keep.drewN | (refine Keep.trans ?_ k6.out) | (refine Keep.trans ?_ k5.out))) (R5.out.keep (by repeat (with_reducible first | exact Keep.refl w5 | apply Keep.drew | apply Keep.drewN | (refine Keep.trans ?_ k6.out)))) E5.out
end Go.Proofs.YtokopegffeablaaGreatDoor.T12
