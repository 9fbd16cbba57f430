/-
  The store: Add. Conditions: errors.errorType holds its own; at most 1000 amounts, 64 dimensions.
-/
import Derived.Test.YtokopegffeablaaDoorGet12
import Derived.Deep.RegionHeld3
namespace Go.Proofs.YtokopegffeablaaDoor.T12
open Go.RowKit Go.Sort Go.Lib V12

section
variable {w w' : World} {d : Nat} {s : Int} {q t m : Nat} {E : List EnV}
theorem madeRd {W : World} {g n : Nat} (h : W.heap[g]? = some (.cells (madeCells #[.int .i64 0] n) 2 (0, 0))) (hn : n ≤ 1000) : Rd W (some ⟨g, 0, none⟩) n fun _ => 0 := by
  refine ⟨by omega, fun _ _ => by decide, fun _ => ⟨g, 0, rfl, fun j hj => ?_⟩⟩
  have hs : (madeCells #[.int .i64 0] n).size = n := by simp [madeCells]
  rw [Nat.zero_add, cell_of_row W g j _ _ _ h, Array.getElem?_eq_getElem (by omega)]
  simp [madeCells, Nat.mod_one]
theorem zero_row (n : Nat) (w : World) (hn : n ≤ 1000) : Calls Tryd.prog 24 #[.int .i64 n] w fun e w' => ∃ g, e = .returned (.slice (some ⟨g, 0, none⟩) n n) ∧ Row w w' (some ⟨g, 0, none⟩) n n (fun _ => 0) ∧ Keep w w' := by
  refine (zero_fn n w (by omega)).mono ?_
  rintro e w' ⟨rfl, rfl⟩
  have hb := heap_alloc_new w (.cells (madeCells #[.int .i64 0] n) 2)
  exact ⟨_, rfl, ⟨madeRd hb hn, (fun e => by cases e), fun _ => ⟨_, 0, rfl, Nat.le_refl _, fun j _ => frozen_of_row _ _ _ _ _ hb⟩, fun _ b o e => by
    simp only [Option.some.injEq, Addr.mk.injEq, and_true] at e
    rw [← e.1]
    exact ⟨_, _, hb⟩⟩, Keep.one _ _⟩
/-- What the table's Add does with a new entry. -/
theorem tadd_any (h : SC w d s q t m E) (x : EnV) (hx : EIs w d x) : Calls Tryd.prog 22 #[.pointer (some ⟨t, 0, none⟩), .int .i64 x.k, .pointer (some ⟨x.p, 0, none⟩)] w fun e w' => e = .returned (errC (if x.k ∈ ekeys E then 6 else if s ≤ E.length then 7 else 0)) ∧ SC w' d s q t m (if x.k ∈ ekeys E then E else if s ≤ E.length then E else G.ins EnV.k x E) ∧ Fr (· = m) w w' := by
  have hl := h.len
  by_cases hk : x.k ∈ ekeys E
  · simp only [if_pos hk]
    unfold errC
    rw [if_neg (by decide)]
    exact (tadd_dup h x.k x.p hk).mono fun _ _ ⟨he, hw⟩ => ⟨he, by rw [← hw]; exact h, by rw [← hw]; exact Fr.refl _ _⟩
  · simp only [if_neg hk]
    by_cases hf : s ≤ (E.length : Int)
    · simp only [if_pos hf]
      unfold errC
      rw [if_neg (by decide)]
      exact (tadd_full h x.k x.p hk (by omega)).mono fun _ _ ⟨he, hw⟩ => ⟨he, h.keep hw.keep, Fr.of hw.keep⟩
    · simp only [if_neg hf]
      unfold errC
      rw [if_pos rfl]
      exact tadd_new h x hx hk (by omega)
set_option maxRecDepth 100000 in
set_option maxHeartbeats 4000000 in
theorem nadd_wrong (h : SC w d s q t m E) (k : Int) (A : Option Addr) (n c : Nat) (Z : Nat → Int) (hA : Rd w A n Z) (hw : 0 ≤ wrongOf n Z d) :
    Calls Tryd.prog 7 #[.pointer (some ⟨q, 0, none⟩), .agg #[.int .i64 k, .slice A n c]] w fun e w' => e = .returned (flt 3 (wrongOf n Z d)) ∧ Keep w w' := by
  obtain ⟨W, hW⟩ : ∃ W, W = w.alloc (.cells #[.int .i64 k, .slice A n c] 31) := ⟨_, rfl⟩
  have KW : Hid (Keep w W) := by rw [hW]; exact Keep.one _ _
  obtain ⟨b, hb⟩ : ∃ b, b = w.heap.size := ⟨_, rfl⟩
  have Y : W.heap[b]? = some (.cells #[.int .i64 k, .slice A n c] 31 (0, 0)) := by rw [hW, hb]; exact heap_alloc_new _ _
  obtain ⟨y0, y1, yf⟩ := cel2 Y
  have c0 := (h.keep KW.out).c0
  have cW : Hid (∀ W', Keep W W' → Calls Tryd.prog 20 #[.slice A n c, .int .i64 d] W' fun e w' => e = .returned (.int .i64 (wrongOf n Z d)) ∧ Keep W' w') := fun W' k => (vwrong_any A n c Z d W' (hA.keep (KW.out.trans k))).mono fun _ _ ⟨he, e⟩ => ⟨he, by rw [e]; exact Keep.refl _⟩
  have hn := Lib.hid (fun y W => new_fn 3 y W)
  obtain ⟨g, hg⟩ : ∃ g, g = wrongOf n Z d := ⟨_, rfl⟩
  rw [← hg] at cW hw ⊢
  replace hg := Lib.hid hg
  unfold flt
  replace Y := Lib.hid Y
  clear h hA
  go_enter Tryd.func7, Tryd.ntmps7
  go_wp2_with fail
  rw [← hW, ← hb]
  replace hW := Lib.hid hW
  replace hb := Lib.hid hb
  go_region_held3 (fun w' => w'.cell? ⟨b, 1, none⟩ = some (.slice A n c) ∧ w'.cell? ⟨q, 0, none⟩ = some (.int .i64 d))
    (first
      | ((refine (fun (KK : Keep W _) => ⟨KK.cell y1, KK.cell c0⟩) ?_; repeat (with_reducible first | exact Keep.refl W | apply Keep.drew | apply Keep.drewN | exact k6.out)); done))
    (first | (go_at_call 20; refine (cW.out _ (by repeat (with_reducible first | exact Keep.refl W | apply Keep.drew | apply Keep.drewN))).mono ?_; rintro e w6 ⟨rfl, k6'⟩; have k6 : Hid (Keep W w6) := Keep.trans (by repeat (with_reducible first | exact Keep.refl W | apply Keep.drew | apply Keep.drewN)) k6'; replace k6' := Lib.hid k6'))
  all_goals
    clear y0 y1 c0 cW
    go_wp2_with fail
    refine (hn.out _ _).mono ?_
    rintro e w7 ⟨rfl, rfl⟩
    go_wp2
    go_ret
    exact ⟨rfl, KW.out.trans k6.out⟩
def AddX (W w' : World) (d : Nat) (s : Int) (q t m : Nat) (E : List EnV) (k : Int) (Z : Nat → Int) : Prop :=
  ∃ x : EnV, x.k = k ∧ x.C = Z ∧ x.U = (fun _ => 0) ∧ SC w' d s q t m (if k ∈ ekeys E then E else if s ≤ E.length then E else G.ins EnV.k x E) ∧ FrS (· = m) W w' ∧
    W.heap.size ≤ x.p ∧ (0 < d → ∃ b o, x.A = some ⟨b, o, none⟩ ∧ W.heap.size ≤ b) ∧ (0 < d → ∃ b o, x.B = some ⟨b, o, none⟩ ∧ W.heap.size ≤ b)
set_option maxRecDepth 100000 in
set_option maxHeartbeats 16000000 in
theorem nadd_ok (h : SC w d s q t m E) (hg : ErrT w) (k : Int) (A : Option Addr) (c : Nat) (Z : Nat → Int) (hA : Rd w A d Z) (nilA : A = none → d = 0 ∧ c = 0) (hw : ¬ 0 ≤ wrongOf d Z d) (hk : I64 k) (hz : ∀ j, j < d → 0 ≤ Z j ∧ Z j ≤ 1099511627776) (hd : d ≤ 64) :
    Calls Tryd.prog 7 #[.pointer (some ⟨q, 0, none⟩), .agg #[.int .i64 k, .slice A d c]] w fun e w' => e = .returned (fltC (if k ∈ ekeys E then 6 else if s ≤ E.length then 7 else 0) 0) ∧ AddX w w' d s q t m E k Z := by
  obtain ⟨W, hW⟩ : ∃ W, W = w.alloc (.cells #[.int .i64 k, .slice A d c] 31) := ⟨_, rfl⟩
  have KW : Hid (Keep w W) := by rw [hW]; exact Keep.one _ _
  obtain ⟨b, hb⟩ : ∃ b, b = w.heap.size := ⟨_, rfl⟩
  have Y : W.heap[b]? = some (.cells #[.int .i64 k, .slice A d c] 31 (0, 0)) := by rw [hW, hb]; exact heap_alloc_new _ _
  obtain ⟨y0, y1, yf⟩ := cel2 Y
  have hW1 := h.keep KW.out
  have c0 := hW1.c0
  have c1 := hW1.c1
  have nq := hW1.qm
  have nbm : ¬ b = m := hW1.off (a := ⟨b, 0, none⟩) y0
  have cW : Hid (∀ W', Keep W W' → Calls Tryd.prog 20 #[.slice A d c, .int .i64 d] W' fun e w' => e = .returned (.int .i64 (wrongOf d Z d)) ∧ Keep W' w') := fun W' k => (vwrong_any A d c Z d W' (hA.keep (KW.out.trans k))).mono fun _ _ ⟨he, e⟩ => ⟨he, by rw [e]; exact Keep.refl _⟩
  have cC : Hid (∀ W', Keep W W' → Calls Tryd.prog 23 #[.agg #[.int .i64 k, .slice A d c]] W' fun e w' => ∃ A' c', e = .returned (.agg #[.int .i64 k, .slice A' d c']) ∧ Row W w' A' d c' Z ∧ Keep W w') := fun W' k2 => (clone_fn k A d c Z W' (hA.keep (KW.out.trans k2)) nilA (by omega)).mono fun _ _ ⟨A', c', he, r, k3⟩ => ⟨A', c', he, r.low k2.size, k2.trans k3⟩
  have cZ : Hid (∀ W', Keep W W' → Calls Tryd.prog 24 #[.int .i64 d] W' fun e w' => ∃ g, e = .returned (.slice (some ⟨g, 0, none⟩) d d) ∧ Row W w' (some ⟨g, 0, none⟩) d d (fun _ => 0) ∧ Keep W w' ∧ Keep W' w') := fun W' k2 => (zero_row d W' (by omega)).mono fun _ _ ⟨g, he, r, k3⟩ => ⟨g, he, r.low k2.size, k2.trans k3, k3⟩
  obtain ⟨code, hcode⟩ : ∃ code : Int, code = if k ∈ ekeys E then 6 else if s ≤ E.length then 7 else 0 := ⟨_, rfl⟩
  obtain ⟨ev, hev⟩ : ∃ ev, ev = errC code := ⟨_, rfl⟩
  obtain ⟨fv, hfv⟩ : ∃ fv, fv = fltC code 0 := ⟨_, rfl⟩
  have cT : Hid (∀ W' A' c' g p, Keep W W' → Row W W' A' d c' Z → Row W W' (some ⟨g, 0, none⟩) d d (fun _ => 0) → W'.heap[p]? = some (.cells #[.int .i64 k, .slice A' d c', .slice (some ⟨g, 0, none⟩) d d] 56 (0, 0)) → W.heap.size ≤ p →
      Calls Tryd.prog 22 #[.pointer (some ⟨t, 0, none⟩), .int .i64 k, .pointer (some ⟨p, 0, none⟩)] W' fun e w' => e = .returned ev ∧ Fr (· = m) W' w' ∧ ErrT w' ∧ AddX W w' d s q t m E k Z) := fun W' A' c' g p k2 ra rb hp hpl => by
    have h2 := hW1.keep k2
    have gT : ErrT W' := hg.keep (KW.out.trans k2)
    refine (tadd_any h2 ⟨k, p, A', c', Z, some ⟨g, 0, none⟩, d, fun _ => 0⟩ ⟨hp, ra.rd, rb.rd, ra.nil, (fun e => by cases e), ra.ty, rb.ty, ⟨hk, fun j _ => Int.le_refl 0, fun j hj => (hz j hj).1, fun j hj => (hz j hj).2⟩⟩).mono ?_
    rintro e w' ⟨he, hs, hf⟩
    refine ⟨by rw [hev, hcode]; exact he, hf, hf.cell gT (h2.off gT), ⟨k, p, A', c', Z, some ⟨g, 0, none⟩, d, fun _ => 0⟩, rfl, rfl, rfl, hs, FrS.after k2 (fr_int h2 hf fun _ e => e), hpl, fun hd0 => ?_, fun hd0 => ?_⟩
    · obtain ⟨b2, o2, e2, hb2, _⟩ := ra.new hd0
      exact ⟨b2, o2, e2, hb2⟩
    · obtain ⟨b2, o2, e2, hb2, _⟩ := rb.new hd0
      exact ⟨b2, o2, e2, hb2⟩
  have cL : Hid (∀ W', ErrT W' → Calls Tryd.prog 21 #[ev] W' fun e w' => e = .returned fv ∧ Keep W' w') := fun W' g => by rw [hev, hfv]; exact located_fn code W' g
  have hsz := KW.out.size
  have fin : Hid (∀ w', AddX W w' d s q t m E k Z → ∀ w2, Keep w' w2 → Ending.returned fv = .returned (fltC code 0) ∧ AddX w w2 d s q t m E k Z) := by
    rintro w' ⟨x, e1, e2, e3, hs, hf, hp, hA', hB'⟩ w2 k2
    refine ⟨by rw [hfv], x, e1, e2, e3, hs.keep k2, FrS.after KW.out (hf.keep k2), by omega, fun h0 => ?_, fun h0 => ?_⟩
    · obtain ⟨b2, o2, e, hb2⟩ := hA' h0
      exact ⟨b2, o2, e, by omega⟩
    · obtain ⟨b2, o2, e, hb2⟩ := hB' h0
      exact ⟨b2, o2, e, by omega⟩
  rw [← hcode]
  obtain ⟨g, hgg⟩ : ∃ g, g = wrongOf d Z d := ⟨_, rfl⟩
  rw [← hgg] at cW hw
  replace hgg := Lib.hid hgg
  replace hcode := Lib.hid hcode
  replace hev := Lib.hid hev
  replace hfv := Lib.hid hfv
  replace Y := Lib.hid Y
  replace nq := Lib.hid nq
  replace nbm := Lib.hid nbm
  replace hz := Lib.hid hz
  clear h hA hW1 nilA hg hk
  go_enter Tryd.func7, Tryd.ntmps7
  go_wp2_with fail
  rw [← hW, ← hb]
  replace hW := Lib.hid hW
  replace hb := Lib.hid hb
  go_region_held3 (fun w' => w'.cell? ⟨b, 1, none⟩ = some (.slice A d c) ∧ w'.cell? ⟨q, 0, none⟩ = some (.int .i64 d))
    (first
      | ((refine (fun (KK : Keep W _) => ⟨KK.cell y1, KK.cell c0⟩) ?_; repeat (with_reducible first | exact Keep.refl W | apply Keep.drew | apply Keep.drewN | exact k6.out)); done))
    (first | (go_at_call 20; refine (cW.out _ (by repeat (with_reducible first | exact Keep.refl W | apply Keep.drew | apply Keep.drewN))).mono ?_; rintro e w6 ⟨rfl, k6'⟩; have k6 : Hid (Keep W w6) := Keep.trans (by repeat (with_reducible first | exact Keep.refl W | apply Keep.drew | apply Keep.drewN)) k6'; replace k6' := Lib.hid k6'))
  have HH : Hid (∀ Wz, Keep W Wz → (Wz.cell? ⟨q, 1, none⟩ = some (.pointer (some ⟨t, 0, none⟩)) ∧ Wz.cell? ⟨q, 0, none⟩ = some (.int .i64 d) ∧ Wz.cell? ⟨b, 0, none⟩ = some (.int .i64 k) ∧ Wz.cell? ⟨b, 1, none⟩ = some (.slice A d c))) := fun Wz KK => ⟨KK.cell c1, KK.cell c0, KK.cell y0, KK.cell y1⟩
  have hbl := cell_lt (k6.out.cell y0)
  clear y0 y1 c0 c1 cW
  go_wp2_with fail
  have HELD : ∀ Wz, Keep W Wz → (Wz.cell? ⟨q, 1, none⟩ = some (.pointer (some ⟨t, 0, none⟩)) ∧ Wz.cell? ⟨q, 0, none⟩ = some (.int .i64 d) ∧ Wz.cell? ⟨b, 0, none⟩ = some (.int .i64 k) ∧ Wz.cell? ⟨b, 1, none⟩ = some (.slice A d c)) := fun Wz KK => HH.out Wz KK
  refine wp_region_held_drew (S := fun w' => w'.cell? ⟨q, 1, none⟩ = some (.pointer (some ⟨t, 0, none⟩)) ∧ w'.cell? ⟨q, 0, none⟩ = some (.int .i64 d) ∧ w'.cell? ⟨b, 0, none⟩ = some (.int .i64 k) ∧ w'.cell? ⟨b, 1, none⟩ = some (.slice A d c)) (by kernel_rfl) ?_ (fun hHeld => ?_)
  · exact HELD _ (by repeat (with_reducible first | exact Keep.refl W | apply Keep.alloc | apply Keep.drew | apply Keep.drewN | (refine Keep.trans ?_ k6.out)))
  refine wpAnyH_take (i := 0) (v := .pointer (some ⟨q, 0, none⟩)) rfl (by kernel_rfl) (by kernel_rfl) (by kernel_rfl) (fun _ _ _ h => h) (Or.inl ⟨by rfl, fun Wz hW => by obtain ⟨p0, p1, p2, p3⟩ := hW; go_simp⟩) hHeld ?_
  simp only [Act.put, List.getElem_toArray, List.getElem_cons_zero, List.setIfInBounds_toArray, List.set_cons_zero, List.set_cons_succ]
  refine wpAnyH_take (i := 1) (v := .pointer (some ⟨q, 0, none⟩)) rfl (by kernel_rfl) (by kernel_rfl) (by kernel_rfl) (fun _ _ _ h => h) (Or.inl ⟨by rfl, fun Wz hW => by obtain ⟨p0, p1, p2, p3⟩ := hW; go_simp⟩) hHeld ?_
  simp only [Act.put, List.getElem_toArray, List.getElem_cons_succ, List.getElem_cons_zero, List.setIfInBounds_toArray, List.set_cons_zero, List.set_cons_succ]
  refine wpAnyH_take (i := 2) (v := .pointer (some ⟨q, 1, none⟩)) rfl (by kernel_rfl) (by kernel_rfl) (by kernel_rfl) (fun _ _ _ h => h) (Or.inl ⟨by rfl, fun Wz hW => by obtain ⟨p0, p1, p2, p3⟩ := hW; go_simp⟩) hHeld ?_
  simp only [Act.put, List.getElem_toArray, List.getElem_cons_succ, List.getElem_cons_zero, List.setIfInBounds_toArray, List.set_cons_zero, List.set_cons_succ]
  refine wpAnyH_take (i := 3) (v := .pointer (some ⟨t, 0, none⟩)) rfl (by kernel_rfl) (by kernel_rfl) (by kernel_rfl) (fun _ _ _ h => h) (Or.inl ⟨by rfl, fun Wz hW => by obtain ⟨p0, p1, p2, p3⟩ := hW; go_simp⟩) hHeld ?_
  simp only [Act.put, List.getElem_toArray, List.getElem_cons_succ, List.getElem_cons_zero, List.setIfInBounds_toArray, List.set_cons_zero, List.set_cons_succ]
  refine wpAnyH_take (i := 4) (v := .pointer (some ⟨b, 0, none⟩)) rfl (by kernel_rfl) (by kernel_rfl) (by kernel_rfl) (fun _ _ _ h => h) (Or.inl ⟨by rfl, fun Wz hW => by obtain ⟨p0, p1, p2, p3⟩ := hW; go_simp⟩) hHeld ?_
  simp only [Act.put, List.getElem_toArray, List.getElem_cons_succ, List.getElem_cons_zero, List.setIfInBounds_toArray, List.set_cons_zero, List.set_cons_succ]
  refine wpAnyH_take (i := 5) (v := .int .i64 k) rfl (by kernel_rfl) (by kernel_rfl) (by kernel_rfl) (fun _ _ _ h => h) (Or.inl ⟨by rfl, fun Wz hW => by obtain ⟨p0, p1, p2, p3⟩ := hW; go_simp⟩) hHeld ?_
  simp only [Act.put, List.getElem_toArray, List.getElem_cons_succ, List.getElem_cons_zero, List.setIfInBounds_toArray, List.set_cons_zero, List.set_cons_succ]
  refine wpAnyH_take (i := 6) (v := .agg #[.int .i64 k, .slice A d c]) rfl (by kernel_rfl) (by kernel_rfl) (by kernel_rfl) (fun _ _ _ h => h) (Or.inl ⟨by rfl, fun Wz hW => by obtain ⟨p0, p1, p2, p3⟩ := hW; go_simp⟩) hHeld ?_
  simp only [Act.put, List.getElem_toArray, List.getElem_cons_succ, List.getElem_cons_zero, List.setIfInBounds_toArray, List.set_cons_zero, List.set_cons_succ]
  refine wpAnyH_take (i := 8) (v := .pointer (some ⟨q, 0, none⟩)) rfl (by kernel_rfl) (by kernel_rfl) (by kernel_rfl) (fun _ _ _ h => h) (Or.inl ⟨by rfl, fun Wz hW => by obtain ⟨p0, p1, p2, p3⟩ := hW; go_simp⟩) hHeld ?_
  simp only [Act.put, List.getElem_toArray, List.getElem_cons_succ, List.getElem_cons_zero, List.setIfInBounds_toArray, List.set_cons_zero, List.set_cons_succ]
  refine wpAnyH_take (i := 9) (v := .pointer (some ⟨q, 0, none⟩)) rfl (by kernel_rfl) (by kernel_rfl) (by kernel_rfl) (fun _ _ _ h => h) (Or.inl ⟨by rfl, fun Wz hW => by obtain ⟨p0, p1, p2, p3⟩ := hW; go_simp⟩) hHeld ?_
  simp only [Act.put, List.getElem_toArray, List.getElem_cons_succ, List.getElem_cons_zero, List.setIfInBounds_toArray, List.set_cons_zero, List.set_cons_succ]
  refine wpAnyH_take (i := 10) (v := .pointer (some ⟨q, 0, none⟩)) rfl (by kernel_rfl) (by kernel_rfl) (by kernel_rfl) (fun _ _ _ h => h) (Or.inl ⟨by rfl, fun Wz hW => by obtain ⟨p0, p1, p2, p3⟩ := hW; go_simp⟩) hHeld ?_
  simp only [Act.put, List.getElem_toArray, List.getElem_cons_succ, List.getElem_cons_zero, List.setIfInBounds_toArray, List.set_cons_zero, List.set_cons_succ]
  refine wpAnyH_take (i := 11) (v := .int .i64 d) rfl (by kernel_rfl) (by kernel_rfl) (by kernel_rfl) (fun _ _ _ h => h) (Or.inl ⟨by rfl, fun Wz hW => by obtain ⟨p0, p1, p2, p3⟩ := hW; go_simp⟩) hHeld ?_
  simp only [Act.put, List.getElem_toArray, List.getElem_cons_succ, List.getElem_cons_zero, List.setIfInBounds_toArray, List.set_cons_zero, List.set_cons_succ]
  refine wpAnyH_ready (rs := [7]) (by kernel_rfl) (by simp) ?_
  refine AllReadyH.cons rfl (fun K hK => ?_) AllReadyH.nil
  simp only [List.getElem_toArray, List.getElem_cons_succ, List.getElem_cons_zero]
  rw [if_pos (by rfl)]
  go_simp
  refine (cC.out _ (by repeat (with_reducible first | exact Keep.refl W | apply Keep.alloc | apply Keep.drew | apply Keep.drewN | (refine Keep.trans ?_ k6.out)))).mono ?_
  rintro e w7 ⟨A7, c7, rfl, r7, k7⟩; replace r7 := Lib.hid r7; replace k7 := Lib.hid k7
  go_wp2_with fail
  refine hK.out _ _ ?_ (fun hHeld => ?_)
  · exact HELD _ k7.out
  clear hK K
  try simp only [Act.put, List.getElem_toArray, List.getElem_cons_succ, List.getElem_cons_zero, List.setIfInBounds_toArray, List.set_cons_zero, List.set_cons_succ]
  refine wpAnyH_ready (rs := [12]) (by kernel_rfl) (by simp) ?_
  refine AllReadyH.cons rfl (fun K hK => ?_) AllReadyH.nil
  simp only [List.getElem_toArray, List.getElem_cons_succ, List.getElem_cons_zero]
  rw [if_pos (by rfl)]
  go_simp
  refine (cZ.out _ (by repeat (with_reducible first | exact Keep.refl W | apply Keep.alloc | apply Keep.drew | apply Keep.drewN | (refine Keep.trans ?_ k7.out) | (refine Keep.trans ?_ k6.out)))).mono ?_
  rintro e w8 ⟨g8, rfl, r8, k8, kk⟩; replace r8 := Lib.hid r8; have r7' : Hid (Row W w8 A7 d c7 Z) := r7.out.keep (Keep.trans (by repeat (with_reducible first | exact Keep.refl w7 | apply Keep.drew | apply Keep.drewN)) kk); replace k8 := Lib.hid k8; replace kk := Lib.hid kk
  go_wp2_with fail
  refine hK.out _ _ ?_ (fun hHeld => ?_)
  · exact HELD _ k8.out
  clear hK K
  try simp only [Act.put, List.getElem_toArray, List.getElem_cons_succ, List.getElem_cons_zero, List.setIfInBounds_toArray, List.set_cons_zero, List.set_cons_succ]
  refine wpAnyH_take (i := 13) (v := .agg #[.int .i64 k, .slice A7 d c7, .slice (some ⟨g8, 0, none⟩) d d]) rfl (by kernel_rfl) (by kernel_rfl) (by kernel_rfl) (fun _ _ _ h => h) (Or.inl ⟨by rfl, fun Wz hW => by obtain ⟨p0, p1, p2, p3⟩ := hW; go_simp⟩) hHeld ?_
  simp only [Act.put, List.getElem_toArray, List.getElem_cons_succ, List.getElem_cons_zero, List.setIfInBounds_toArray, List.set_cons_zero, List.set_cons_succ]
  refine wpAnyH_ready (rs := [14]) (by kernel_rfl) (by simp) ?_
  refine AllReadyH.cons rfl (fun K hK => ?_) AllReadyH.nil
  simp only [List.getElem_toArray, List.getElem_cons_succ, List.getElem_cons_zero]
  rw [if_pos (by rfl)]
  go_simp
  refine hK.out _ _ ?_ (fun hHeld => ?_)
  · exact HELD _ (by repeat (with_reducible first | exact Keep.refl W | apply Keep.alloc | apply Keep.drew | apply Keep.drewN | (refine Keep.trans ?_ k8.out) | (refine Keep.trans ?_ k7.out) | (refine Keep.trans ?_ k6.out)))
  clear hK K
  try simp only [Act.put, List.getElem_toArray, List.getElem_cons_succ, List.getElem_cons_zero, List.setIfInBounds_toArray, List.set_cons_zero, List.set_cons_succ]
  refine wpAnyH_ready (rs := [15]) (by kernel_rfl) (by simp) ?_
  refine AllReadyH.cons rfl (fun K hK => ?_) AllReadyH.nil
  simp only [List.getElem_toArray, List.getElem_cons_succ, List.getElem_cons_zero]
  rw [if_pos (by rfl)]
  go_simp
  refine (cT.out _ A7 c7 g8 w8.heap.size (by repeat (with_reducible first | exact Keep.refl W | apply Keep.alloc | apply Keep.drew | apply Keep.drewN | (refine Keep.trans ?_ k8.out) | (refine Keep.trans ?_ k7.out) | (refine Keep.trans ?_ k6.out))) (r7'.out.keep (by repeat (with_reducible first | exact Keep.refl w8 | apply Keep.alloc | apply Keep.drew | apply Keep.drewN))) (r8.out.keep (by repeat (with_reducible first | exact Keep.refl w8 | apply Keep.alloc | apply Keep.drew | apply Keep.drewN))) (heap_alloc_new _ _) k8.out.size).mono ?_
  rintro e w9 ⟨rfl, f9, g9, X9⟩; replace X9 := Lib.hid X9; replace g9 := Lib.hid g9; replace f9 := Lib.hid f9
  go_wp2_with fail
  refine hK.out _ _ ?_ (fun hHeld => ?_)
  · exact ⟨f9.out.cell hHeld.1 nq.out, f9.out.cell hHeld.2.1 nq.out, f9.out.cell hHeld.2.2.1 nbm.out, f9.out.cell hHeld.2.2.2 nbm.out⟩
  clear hK K
  try simp only [Act.put, List.getElem_toArray, List.getElem_cons_succ, List.getElem_cons_zero, List.setIfInBounds_toArray, List.set_cons_zero, List.set_cons_succ]
  refine wpAnyH_ready (rs := [16]) (by kernel_rfl) (by simp) ?_
  refine AllReadyH.cons rfl (fun K hK => ?_) AllReadyH.nil
  simp only [List.getElem_toArray, List.getElem_cons_succ, List.getElem_cons_zero]
  rw [if_pos (by rfl)]
  go_simp
  refine (cL.out _ g9.out).mono ?_
  rintro e w10 ⟨rfl, k10'⟩; have k10 : Hid (Keep w9 w10) := Keep.trans (by repeat (with_reducible first | exact Keep.refl w9 | apply Keep.drew | apply Keep.drewN)) k10'; replace k10' := Lib.hid k10'
  go_wp2_with fail
  refine hK.out _ _ ?_ (fun hHeld => ?_)
  · exact ⟨k10.out.cell hHeld.1, k10.out.cell hHeld.2.1, k10.out.cell hHeld.2.2.1, k10.out.cell hHeld.2.2.2⟩
  clear hK K
  try simp only [Act.put, List.getElem_toArray, List.getElem_cons_succ, List.getElem_cons_zero, List.setIfInBounds_toArray, List.set_cons_zero, List.set_cons_succ]
  refine wpAnyH_take (i := 17) (v := fv) rfl (by kernel_rfl) (by kernel_rfl) (by kernel_rfl) (fun _ _ _ h => h) (Or.inl ⟨by rfl, fun Wz hW => by obtain ⟨p0, p1, p2, p3⟩ := hW; go_simp⟩) hHeld ?_
  simp only [Act.put, List.getElem_toArray, List.getElem_cons_succ, List.getElem_cons_zero, List.setIfInBounds_toArray, List.set_cons_zero, List.set_cons_succ]
  refine wpAnyH_done (by kernel_rfl) ?_ _
  go_wp2
  go_ret
  refine fin.out w9 X9.out _ ?_
  repeat (with_reducible first | exact k10.out | apply Keep.drew | apply Keep.drewN)
end
end Go.Proofs.YtokopegffeablaaDoor.T12
