/-
  OpKeeps: the walk. Condition: the listed variables hold their own.
-/
import Derived.Test.YtflkeabjcbjkhaaDoorMakesLaw
namespace Go.Proofs.YtflkeabjcbjkhaaDoor
open Go.RowKit Go.Extern.Stop Go.Stop Go.Extern

/-- Nothing but the blocks of G has turned. -/
structure Off (G : Nat → Prop) (w w' : World) : Prop where
  os : w'.os = w.os
  tape : w'.tape = w.tape
  output : w'.output = w.output
  size : w.heap.size ≤ w'.heap.size
  block : ∀ k, k < w.heap.size → ¬ G k → w'.heap[k]? = w.heap[k]?
theorem Off.refl (G : Nat → Prop) (w : World) : Off G w w := ⟨rfl, rfl, rfl, Nat.le_refl _, fun _ _ _ => rfl⟩
theorem Off.mono {G H : Nat → Prop} {w w' : World} (h : Off G w w') (hs : ∀ k, G k → H k) : Off H w w' := ⟨h.os, h.tape, h.output, h.size, fun k hk hn => h.block k hk (fun hg => hn (hs k hg))⟩
theorem Off.set {G : Nat → Prop} {w w' : World} (h : Off G w w') {a : Addr} (ha : G a.block) (x : Value) : Off G w (w'.setCell a x) :=
  ⟨h.os, h.tape, h.output, by simpa using h.size, fun k hk hn => (heap_setCell_other w' a k x (fun e => hn (by first | (rw [e]; exact ha) | (rw [← e]; exact ha)))).trans (h.block k hk hn)⟩
theorem Off.below {G : Nat → Prop} {w w' : World} (h : Off G w w') {B : Nat} (hB : B ≤ w.heap.size) (hG : ∀ k, G k → B ≤ k) : Below B w w' :=
  ⟨h.os, h.tape, h.output, h.size, fun k hk => h.block k (by omega) (fun hg => by have := hG k hg; omega)⟩
theorem Off.cell {G : Nat → Prop} {w w' : World} (h : Off G w w') {a : Addr} {v : Value} (hc : w.cell? a = some v) (hn : ¬ G a.block) : w'.cell? a = some v := by
  rw [World.cell?_of_block (h.block a.block (cell_lt hc) hn)]; exact hc
theorem Off.own {G : Nat → Prop} {w w' : World} (h : Off G w w') {base n : Nat} {e : TypeId} {z : Nat} {v : Value} {xs : List Value} (ho : w.ownsRow base e z v n xs) (hn : ∀ k, v.ownBlock = some k → ¬ G k) : w'.ownsRow base e z v n xs := by
  rcases ho with ⟨h1, h2 | ⟨g, cap, cur, rfl, h4, h5, h6⟩⟩
  · exact ⟨h1, .inl h2⟩
  · refine ⟨h1, .inr ⟨g, cap, cur, rfl, h4, ?_, h6⟩⟩
    rw [h.block g (by rcases Nat.lt_or_ge g w.heap.size with hl | hl
                      · exact hl
                      · rw [Array.getElem?_eq_none hl] at h5; cases h5) (hn g rfl)]
    exact h5
theorem rowL_set (n : Nat) (D : Nat → Int) (j : Nat) (u : Int) : (rowL n D).set j (.int .i64 u) = rowL n (fun k => if k = j then u else D k) := by
  apply List.ext_getElem?
  intro i
  by_cases hi : i < n
  · by_cases hij : i = j
    · subst hij; simp [rowL, hi]
    · have hji : ¬ j = i := fun e => hij e.symm
      simp [rowL, hi, hij, hji]
  · have h1 : (rowL n D).length ≤ i := by simp [rowL]; omega
    have h2 : (rowL n (fun k => if k = j then u else D k)).length ≤ i := by simp [rowL]; omega
    rw [List.getElem?_eq_none h2, List.getElem?_eq_none (by rw [List.length_set]; exact h1)]
theorem row_set {w : World} {base g n cap : Nat} {D : Nat → Int} (h : w.ownsRow base 2 1 (.slice (some ⟨g, 0, none⟩) n cap) n (rowL n D)) (j : Nat) (u : Int) :
    (w.setCell ⟨g, j, none⟩ (.int .i64 u)).ownsRow base 2 1 (.slice (some ⟨g, 0, none⟩) n cap) n (rowL n (fun k => if k = j then u else D k)) := by
  rw [← rowL_set]; exact (h.stored j _).1
theorem row_cell {w : World} {base g n cap : Nat} {D : Nat → Int} (h : w.ownsRow base 2 1 (.slice (some ⟨g, 0, none⟩) n cap) n (rowL n D)) {j : Nat} (hj : j < n) : w.cell? ⟨g, j, none⟩ = some (.int .i64 (D j)) := by
  rw [h.cellAt j (by omega)]; simp [rowL, hj]
theorem row_some {w : World} {base n cap : Nat} {A : Option Addr} {xs : List Value} (h : w.ownsRow base 2 1 (.slice A n cap) n xs) (hn : 0 < n) : ∃ g, A = some ⟨g, 0, none⟩ := by
  obtain ⟨g, cap', e, _⟩ := h.form hn
  simp only [Value.slice.injEq] at e
  exact ⟨g, e.1⟩
theorem row_nil {w : World} {base n cap : Nat} {A : Option Addr} {xs : List Value} (h : w.ownsRow base 2 1 (.slice A n cap) n xs) : A = none → n = 0 ∧ cap = 0 := own_none h

set_option maxRecDepth 100000 in
set_option maxHeartbeats 8000000 in
theorem keeps_out (k i c n : Int) (f : Bool) (A : Option Addr) (m cp : Nat) (B : Option Addr) (m2 cp2 : Nat) (w : World) (hv : Vars w) (hm : 100 < m ∨ (m ≤ 100 ∧ 100 < m2)) :
    Calls Tryd.prog 5 #[.agg #[.int .i64 k, .int .i64 i, .int .i64 c, .int .i64 n, .bool f, .slice A m cp], .slice B m2 cp2] w fun e w' => e = .returned (.bool true) ∧ Keep w w' := by
  replace hv := Lib.hid hv
  rcases hm with hm | ⟨hm, hm2⟩
  all_goals
    go_enter Tryd.func5, Tryd.ntmps5
    go_wp2_with fail
    have k0 : Keep w (w.alloc (.cells #[.int .i64 k, .int .i64 i, .int .i64 c, .int .i64 n, .bool f, .slice A m cp] 24)) := Keep.one _ _
    have X2 := (Box.new w (.int .i64 k) (.int .i64 i) (.int .i64 c) (.int .i64 n) (.bool f) (.slice A m cp)).cel
    obtain ⟨w0, hw0⟩ : ∃ w0, w0 = w.alloc (.cells #[.int .i64 k, .int .i64 i, .int .i64 c, .int .i64 n, .bool f, .slice A m cp] 24) := ⟨_, rfl⟩
    rw [← hw0] at k0 X2 ⊢
    obtain ⟨s, hs⟩ : ∃ s, s = w.heap.size := ⟨_, rfl⟩
    rw [← hs] at X2 ⊢
    have hV := Lib.hid (hv.out.keep k0)
    replace X2 := Lib.hid X2
    replace hs := Lib.hid hs
    clear hw0
    refine (awake_true _ hV.out).mono ?_
    rintro e w1 ⟨rfl, h⟩
    have k1 := Lib.hid (k0.trans h)
    have e5 := (X2.out.keep h).e5
    replace h := Lib.hid h
    replace k0 := Lib.hid k0
    go_wp2_with fail
    refine (awake_true _ (hv.out.keep k1.out)).mono ?_
    rintro e w2 ⟨rfl, h⟩
    have k2 := Lib.hid (k1.out.trans h)
    replace h := Lib.hid h
    go_wp2
    go_ret
    exact ⟨rfl, k2.out⟩

set_option maxRecDepth 100000 in
set_option maxHeartbeats 64000000 in
theorem keeps_in (k i c n : Int) (f : Bool) (A : Option Addr) (m cp : Nat) (Z : Nat → Int) (B : Option Addr) (m2 cp2 : Nat) (Y : Nat → Int) (w : World) (hv : Vars w) (hA : Rd w A m Z) (hB : Rd w B m2 Y) (h0 : A = none → m = 0 ∧ cp = 0) (h02 : B = none → m2 = 0 ∧ cp2 = 0) (hm : m ≤ 100) (hm2 : m2 ≤ 100) :
    Calls Tryd.prog 5 #[.agg #[.int .i64 k, .int .i64 i, .int .i64 c, .int .i64 n, .bool f, .slice A m cp], .slice B m2 cp2] w fun e w' => e = .returned (.bool true) ∧ Keep w w' := by
  obtain ⟨i0, hi0, hz0, hz1, hz2⟩ := info_parts Tryd.infoI64
  replace hv := Lib.hid hv
  have hA0 := Lib.hid hA
  have hB0 := Lib.hid hB
  replace hA := Lib.hid hA
  replace hB := Lib.hid hB
  replace h0 := Lib.hid h0
  replace h02 := Lib.hid h02
  have hmm : m ≤ 1048576 := by omega
  have hmm2 : m2 ≤ 1048576 := by omega
  replace hmm := Lib.hid hmm
  replace hmm2 := Lib.hid hmm2
  go_enter Tryd.func5, Tryd.ntmps5
  go_wp2_with fail
  have k0 : Keep w (w.alloc (.cells #[.int .i64 k, .int .i64 i, .int .i64 c, .int .i64 n, .bool f, .slice A m cp] 24)) := Keep.one _ _
  have X2 := (Box.new w (.int .i64 k) (.int .i64 i) (.int .i64 c) (.int .i64 n) (.bool f) (.slice A m cp)).cel
  obtain ⟨w0, hw0⟩ : ∃ w0, w0 = w.alloc (.cells #[.int .i64 k, .int .i64 i, .int .i64 c, .int .i64 n, .bool f, .slice A m cp] 24) := ⟨_, rfl⟩
  rw [← hw0] at k0 X2 ⊢
  obtain ⟨s, hs⟩ : ∃ s, s = w.heap.size := ⟨_, rfl⟩
  rw [← hs] at X2 ⊢
  have hV := Lib.hid (hv.out.keep k0)
  replace X2 := Lib.hid X2
  replace hs := Lib.hid hs
  clear hw0
  replace hA := Lib.hid (hA.out.keep k0)
  replace hB := Lib.hid (hB.out.keep k0)
  have Kw := Lib.hid k0
  have hs0 : Hid (s < w0.heap.size) := cell_lt X2.out.e0
  clear k0 hv
  refine (awake_true _ hV.out).mono ?_
  rintro e w1 ⟨rfl, h⟩
  replace hV := Lib.hid (hV.out.keep h)
  replace hA := Lib.hid (hA.out.keep h)
  replace hB := Lib.hid (hB.out.keep h)
  replace X2 := Lib.hid (X2.out.keep h)
  replace Kw := Lib.hid (Kw.out.trans h)
  have hs1 : Hid (s < w1.heap.size) := by have h1 := h.size; have h2 := hs0.out; show _ < _; omega
  replace h := Lib.hid h
  clear hs0
  have e5 := X2.out.e5
  have u1 : s < w1.heap.size := hs1.out
  go_upto_region 3 with fail
  go_cut [5] from 15 (fun u wx => ∃ A' cap, u = .slice A' m cap ∧ Keep w1 wx ∧ wx.ownsRow w1.heap.size 2 1 (.slice A' m cap) m (rowL m Z))
  case first =>
    cases A with
    | none =>
      obtain ⟨rfl, rfl⟩ := h0.out rfl
      have hown := World.ownsRow_made (base := w1.heap.size) (e := 2) (size := 1) w1 #[] 0 (Nat.le_refl _) (Nat.zero_le _) rfl
      go_wp2_with (at_builtin; refine wpList_append_own_none rfl _ _ 22 rfl w1.heap.size 2 i0 1 Tryd.underlying22 hi0 _ 0 [] rfl hown rfl ?_)
      go_meet
      exact ⟨_, _, rfl, Keep.one _ _, hown⟩
    | some a =>
      have hnew := Lib.hid (news_of (hA.out.keep (Keep.one w1 (.cells #[] 2))))
      have hown := World.ownsRow_made (base := w1.heap.size) (e := 2) (size := 1) w1 #[] 0 (Nat.le_refl _) (Nat.zero_le _) rfl
      go_wp2_with (at_builtin; refine wpList_append_own _ rfl _ _ 22 rfl w1.heap.size 2 i0 (.int .i64 0) 1 8 Tryd.underlying22 hi0 hz0 hz1 hz2 rfl (by decide) _ _ _ rfl hown a m cp (rowL m Z) rfl (by simp [rowL]) hnew.out (rowL_one m Z) (by unfold maxLen; omega) (by omega) (by simp) ?_; intro v' w9 hown2 hgrow hnil)
      go_meet
      obtain ⟨A', cap, rfl, _⟩ := own_form hown2
      simp only [Nat.zero_add, List.nil_append] at hown2
      exact ⟨A', cap, by simp, keep_grown (Keep.one w1 _) hgrow (fun q hq => (hown.lt q hq).1), hown2⟩
  case rest =>
  obtain ⟨Ao, co, rfl, h, hO⟩ := hcut
  obtain ⟨w2, hw2⟩ : ∃ w2, w2 = wc := ⟨_, rfl⟩
  rw [← hw2] at h hO ⊢
  clear hw2 e5 u1
  have LO : Hid (∀ q, (Value.slice Ao m co).ownBlock = some q → q < w2.heap.size) := fun q hq => (hO.lt q hq).2
  replace hV := Lib.hid (hV.out.keep h)
  replace hA := Lib.hid (hA.out.keep h)
  replace hB := Lib.hid (hB.out.keep h)
  replace X2 := Lib.hid (X2.out.keep h)
  replace Kw := Lib.hid (Kw.out.trans h)
  have hRO := Lib.hid (rd_of_own hO hA.out)
  have nO := Lib.hid (row_nil hO)
  have z12 := Lib.hid h.size
  replace h := Lib.hid h
  replace hO := Lib.hid hO
  have e0 := X2.out.e0
  have e1 := X2.out.e1
  have e2 := X2.out.e2
  have e3 := X2.out.e3
  have e4 := X2.out.e4
  have e5 := X2.out.e5
  go_wp2_with fail
  have X6 := (Box.new w2 (.int .i64 k) (.int .i64 i) (.int .i64 c) (.int .i64 n) (.bool f) (.slice Ao m co)).cel
  have h3 := Keep.one w2 (.cells #[.int .i64 k, .int .i64 i, .int .i64 c, .int .i64 n, .bool f, .slice Ao m co] 24)
  refine (clone_fn k i c n f Ao m co Z _ (hRO.out.keep h3) nO.out hmm.out).mono ?_
  rintro e w3 ⟨Ac, cc, rfl, h, hC⟩
  have IC : Hid (∀ q, (Value.slice Ac m cc).ownBlock = some q → w2.heap.size < q ∧ q < w3.heap.size) := fun q hq => by have := hC.lt q hq; rw [World.size_alloc] at this; omega
  have z23 : Hid (w2.heap.size < w3.heap.size) := by have := h.size; rw [World.size_alloc] at this; show _ < _; omega
  replace X6 := Lib.hid (X6.keep h)
  replace h3 := h3.trans h
  clear e0 e1 e2 e3 e4 e5
  replace hV := Lib.hid (hV.out.keep h3)
  replace hA := Lib.hid (hA.out.keep h3)
  replace hB := Lib.hid (hB.out.keep h3)
  replace X2 := Lib.hid (X2.out.keep h3)
  replace hRO := Lib.hid (hRO.out.keep h3)
  replace hO := Lib.hid (own_keep hO.out h3)
  replace Kw := Lib.hid (Kw.out.trans h3)
  replace h := Lib.hid h
  replace h3 := Lib.hid h3
  replace hC := Lib.hid hC
  have e0 := X6.out.e0
  have e1 := X6.out.e1
  have e2 := X6.out.e2
  have e3 := X6.out.e3
  have e4 := X6.out.e4
  have e5 := X6.out.e5
  have u2 := z23.out
  go_wp2_with fail
  have X7 := (Box.new w3 (.int .i64 k) (.int .i64 i) (.int .i64 c) (.int .i64 n) (.bool f) (.slice Ac m cc)).cel
  have h4 := Keep.one w3 (.cells #[.int .i64 k, .int .i64 i, .int .i64 c, .int .i64 n, .bool f, .slice Ac m cc] 24)
  refine (plain_fn k i c n f Ao m co Z _ (hRO.out.keep h4) nO.out hmm.out).mono ?_
  rintro e w4 ⟨Ap, cpp, rfl, h, hP⟩
  have IP : Hid (∀ q, (Value.slice Ap (kM k m) cpp).ownBlock = some q → w3.heap.size < q ∧ q < w4.heap.size) := fun q hq => by have := hP.lt q hq; rw [World.size_alloc] at this; omega
  have z34 : Hid (w3.heap.size < w4.heap.size) := by have := h.size; rw [World.size_alloc] at this; show _ < _; omega
  replace X7 := Lib.hid (X7.keep h)
  replace h4 := h4.trans h
  clear e0 e1 e2 e3 e4 e5
  clear u2
  replace hV := Lib.hid (hV.out.keep h4)
  replace hA := Lib.hid (hA.out.keep h4)
  replace hB := Lib.hid (hB.out.keep h4)
  replace X2 := Lib.hid (X2.out.keep h4)
  replace hRO := Lib.hid (hRO.out.keep h4)
  replace X6 := Lib.hid (X6.out.keep h4)
  replace hO := Lib.hid (own_keep hO.out h4)
  replace hC := Lib.hid (own_keep hC.out h4)
  replace Kw := Lib.hid (Kw.out.trans h4)
  replace h := Lib.hid h
  replace h4 := Lib.hid h4
  replace hP := Lib.hid hP
  clear X6
  go_upto_region 8 with fail
  have X8 := (Box.new w4 (.int .i64 k) (.int .i64 (kI k i)) (.int .i64 (kC k c)) (.int .i64 (kN k n)) (.bool (kF k f)) (.slice Ap (kM k m) cpp)).cel
  have h5 := Keep.one w4 (.cells #[.int .i64 k, .int .i64 (kI k i), .int .i64 (kC k c), .int .i64 (kN k n), .bool (kF k f), .slice Ap (kM k m) cpp] 24)
  have z45 : Hid ((w4.alloc (.cells #[.int .i64 k, .int .i64 (kI k i), .int .i64 (kC k c), .int .i64 (kN k n), .bool (kF k f), .slice Ap (kM k m) cpp] 24)).heap.size = w4.heap.size + 1) := World.size_alloc ..
  obtain ⟨w5, hw5⟩ : ∃ w5, w5 = w4.alloc (.cells #[.int .i64 k, .int .i64 (kI k i), .int .i64 (kC k c), .int .i64 (kN k n), .bool (kF k f), .slice Ap (kM k m) cpp] 24) := ⟨_, rfl⟩
  rw [← hw5] at X8 h5 z45 ⊢
  replace X8 := Lib.hid X8
  replace hV := Lib.hid (hV.out.keep h5)
  replace hA := Lib.hid (hA.out.keep h5)
  replace hB := Lib.hid (hB.out.keep h5)
  replace X2 := Lib.hid (X2.out.keep h5)
  replace hRO := Lib.hid (hRO.out.keep h5)
  replace X7 := Lib.hid (X7.out.keep h5)
  replace hO := Lib.hid (own_keep hO.out h5)
  replace hC := Lib.hid (own_keep hC.out h5)
  replace hP := Lib.hid (own_keep hP.out h5)
  replace Kw := Lib.hid (Kw.out.trans h5)
  replace h5 := Lib.hid h5
  clear hw5
  go_cut [9] from 15 (fun u wx => ∃ A' cap, u = .slice A' m2 cap ∧ Keep w5 wx ∧ wx.ownsRow w5.heap.size 2 1 (.slice A' m2 cap) m2 (rowL m2 Y))
  case first =>
    cases B with
    | none =>
      obtain ⟨rfl, rfl⟩ := h02.out rfl
      have hown := World.ownsRow_made (base := w5.heap.size) (e := 2) (size := 1) w5 #[] 0 (Nat.le_refl _) (Nat.zero_le _) rfl
      go_wp2_with (at_builtin; refine wpList_append_own_none rfl _ _ 22 rfl w5.heap.size 2 i0 1 Tryd.underlying22 hi0 _ 0 [] rfl hown rfl ?_)
      go_meet
      exact ⟨_, _, rfl, Keep.one _ _, hown⟩
    | some a =>
      have hnew := Lib.hid (news_of (hB.out.keep (Keep.one w5 (.cells #[] 2))))
      have hown := World.ownsRow_made (base := w5.heap.size) (e := 2) (size := 1) w5 #[] 0 (Nat.le_refl _) (Nat.zero_le _) rfl
      go_wp2_with (at_builtin; refine wpList_append_own _ rfl _ _ 22 rfl w5.heap.size 2 i0 (.int .i64 0) 1 8 Tryd.underlying22 hi0 hz0 hz1 hz2 rfl (by decide) _ _ _ rfl hown a m2 cp2 (rowL m2 Y) rfl (by simp [rowL]) hnew.out (rowL_one m2 Y) (by unfold maxLen; omega) (by omega) (by simp) ?_; intro v' w9 hown2 hgrow hnil)
      go_meet
      obtain ⟨A', cap, rfl, _⟩ := own_form hown2
      simp only [Nat.zero_add, List.nil_append] at hown2
      exact ⟨A', cap, by simp, keep_grown (Keep.one w5 _) hgrow (fun q hq => (hown.lt q hq).1), hown2⟩
  case rest =>
  obtain ⟨Aw, cw, rfl, h, hW⟩ := hcut
  obtain ⟨w6, hw6⟩ : ∃ w6, w6 = wc := ⟨_, rfl⟩
  rw [← hw6] at h hW ⊢
  clear hw6
  have IW : Hid (∀ q, (Value.slice Aw m2 cw).ownBlock = some q → w4.heap.size < q ∧ q < w6.heap.size) := fun q hq => by have := hW.lt q hq; have := z45.out; omega
  have z56 := Lib.hid h.size
  replace hV := Lib.hid (hV.out.keep h)
  replace hA := Lib.hid (hA.out.keep h)
  replace hB := Lib.hid (hB.out.keep h)
  replace X2 := Lib.hid (X2.out.keep h)
  replace hRO := Lib.hid (hRO.out.keep h)
  replace X7 := Lib.hid (X7.out.keep h)
  replace X8 := Lib.hid (X8.out.keep h)
  replace hO := Lib.hid (own_keep hO.out h)
  replace hC := Lib.hid (own_keep hC.out h)
  replace hP := Lib.hid (own_keep hP.out h)
  replace Kw := Lib.hid (Kw.out.trans h)
  have hRW := Lib.hid (rd_of_own hW hB.out)
  have nW := Lib.hid (row_nil hW)
  replace h := Lib.hid h
  replace hW := Lib.hid hW
  go_wp2_with fail
  refine (node_fn 7 Aw m2 cw Y _ hRW.out nW.out hmm2.out).mono ?_
  rintro e w7 ⟨An, cn, rfl, h, hN⟩
  have IN : Hid (∀ q, (Value.slice An m2 cn).ownBlock = some q → w6.heap.size ≤ q ∧ q < w7.heap.size) := fun q hq => hN.lt q hq
  have z67 := Lib.hid h.size
  replace hV := Lib.hid (hV.out.keep h)
  replace hA := Lib.hid (hA.out.keep h)
  replace hB := Lib.hid (hB.out.keep h)
  replace X2 := Lib.hid (X2.out.keep h)
  replace hRO := Lib.hid (hRO.out.keep h)
  replace X7 := Lib.hid (X7.out.keep h)
  replace X8 := Lib.hid (X8.out.keep h)
  replace hRW := Lib.hid (hRW.out.keep h)
  replace hO := Lib.hid (own_keep hO.out h)
  replace hC := Lib.hid (own_keep hC.out h)
  replace hP := Lib.hid (own_keep hP.out h)
  replace hW := Lib.hid (own_keep hW.out h)
  replace Kw := Lib.hid (Kw.out.trans h)
  replace h := Lib.hid h
  replace hN := Lib.hid hN
  go_wp2_with fail
  have X10 := (Box.new w7 (.int .i64 2) (.int .i64 7) (.int .i64 0) (.int .i64 0) (.bool false) (.slice An m2 cn)).cel
  have h8 := Keep.one w7 (.cells #[.int .i64 2, .int .i64 7, .int .i64 0, .int .i64 0, .bool false, .slice An m2 cn] 24)
  refine (pod_fn 1 2 3 Aw m2 cw Y _ (hRW.out.keep h8) nW.out hmm2.out).mono ?_
  rintro e w8 ⟨Aq, cq, rfl, h, hQ⟩
  have IQ : Hid (∀ q, (Value.slice Aq m2 cq).ownBlock = some q → w7.heap.size < q) := fun q hq => by have := hQ.lt q hq; rw [World.size_alloc] at this; omega
  have z78 : Hid (w7.heap.size < w8.heap.size) := by have := h.size; rw [World.size_alloc] at this; show _ < _; omega
  replace X10 := Lib.hid (X10.keep h)
  replace h8 := h8.trans h
  replace hV := Lib.hid (hV.out.keep h8)
  replace hA := Lib.hid (hA.out.keep h8)
  replace hB := Lib.hid (hB.out.keep h8)
  replace X2 := Lib.hid (X2.out.keep h8)
  replace hRO := Lib.hid (hRO.out.keep h8)
  replace X7 := Lib.hid (X7.out.keep h8)
  replace X8 := Lib.hid (X8.out.keep h8)
  replace hRW := Lib.hid (hRW.out.keep h8)
  replace hO := Lib.hid (own_keep hO.out h8)
  replace hC := Lib.hid (own_keep hC.out h8)
  replace hP := Lib.hid (own_keep hP.out h8)
  replace hW := Lib.hid (own_keep hW.out h8)
  replace hN := Lib.hid (own_keep hN.out h8)
  replace Kw := Lib.hid (Kw.out.trans h8)
  replace h := Lib.hid h
  replace h8 := Lib.hid h8
  replace hQ := Lib.hid hQ
  go_wp2_with fail
  have X11 := (Box.new w8 (.int .i64 4) (.int .i64 1) (.int .i64 2) (.int .i64 3) (.bool false) (.slice Aq m2 cq)).cel
  have h9 := Keep.one w8 (.cells #[.int .i64 4, .int .i64 1, .int .i64 2, .int .i64 3, .bool false, .slice Aq m2 cq] 24)
  obtain ⟨w9, hw9⟩ : ∃ w9, w9 = w8.alloc (.cells #[.int .i64 4, .int .i64 1, .int .i64 2, .int .i64 3, .bool false, .slice Aq m2 cq] 24) := ⟨_, rfl⟩
  rw [← hw9] at X11 h9 ⊢
  replace X11 := Lib.hid X11
  replace hV := Lib.hid (hV.out.keep h9)
  replace hA := Lib.hid (hA.out.keep h9)
  replace hB := Lib.hid (hB.out.keep h9)
  replace X2 := Lib.hid (X2.out.keep h9)
  replace hRO := Lib.hid (hRO.out.keep h9)
  replace X7 := Lib.hid (X7.out.keep h9)
  replace X8 := Lib.hid (X8.out.keep h9)
  replace hRW := Lib.hid (hRW.out.keep h9)
  replace X10 := Lib.hid (X10.out.keep h9)
  replace hO := Lib.hid (own_keep hO.out h9)
  replace hC := Lib.hid (own_keep hC.out h9)
  replace hP := Lib.hid (own_keep hP.out h9)
  replace hW := Lib.hid (own_keep hW.out h9)
  replace hN := Lib.hid (own_keep hN.out h9)
  replace hQ := Lib.hid (own_keep hQ.out h9)
  replace Kw := Lib.hid (Kw.out.trans h9)
  replace h9 := Lib.hid h9
  clear hw9 hRW nW hRO nO hmm hmm2 h0 h02 hi0 hz0 hz1 hz2
  have ord : Hid (s < w2.heap.size ∧ w2.heap.size < w3.heap.size ∧ w3.heap.size < w4.heap.size ∧ w4.heap.size < w6.heap.size ∧ w6.heap.size ≤ w7.heap.size ∧ w7.heap.size < w8.heap.size) := by
    have a1 := hs1.out; have a2 := z12.out; have a3 := z23.out; have a4 := z34.out; have a5 := z45.out; have a6 := z56.out; have a7 := z67.out; have a8 := z78.out
    exact ⟨by omega, by omega, by omega, by omega, by omega, by omega⟩
  have z5 := z45
  clear z12 z23 z34 z45 z56 z67 z78 hs1
  have hC3 := Lib.hid (own_base hC.out (base' := w2.heap.size) (by rw [World.size_alloc]; omega))
  have hP3 := Lib.hid (own_base hP.out (base' := w3.heap.size) (by rw [World.size_alloc]; omega))
  have hW3 := Lib.hid (own_base hW.out (base' := w4.heap.size) (by have a := z5.out; omega))
  have hkm : kM k m ≤ 100 := Nat.le_trans (kM_le k m) hm
  clear hC hP hW
  have dC : Hid (∀ q, (Value.slice Ac m cc).ownBlock = some q → ¬ (Value.slice Aw m2 cw).ownBlock = some q) := fun q h1 h2 => by have a := IC.out q h1; have b := IW.out q h2; have o := ord.out; omega
  have n7 : Hid (¬ ((Value.slice Aw m2 cw).ownBlock = some w3.heap.size ∨ (Value.slice Ac m cc).ownBlock = some w3.heap.size)) := fun hq => by
    rcases hq with hq | hq
    · have a := IW.out _ hq; have o := ord.out; omega
    · have a := IC.out _ hq; have o := ord.out; omega
  have dP : Hid (∀ q, (Value.slice Ap (kM k m) cpp).ownBlock = some q → ¬ ((Value.slice Aw m2 cw).ownBlock = some q ∨ (Value.slice Ac m cc).ownBlock = some q)) := fun q h1 hq => by
    have b := IP.out q h1
    rcases hq with hq | hq
    · have a := IW.out _ hq; have o := ord.out; omega
    · have a := IC.out _ hq; have o := ord.out; omega
  have n8 : Hid (¬ (((Value.slice Aw m2 cw).ownBlock = some w4.heap.size ∨ (Value.slice Ac m cc).ownBlock = some w4.heap.size) ∨ (Value.slice Ap (kM k m) cpp).ownBlock = some w4.heap.size)) := fun hq => by
    rcases hq with (hq | hq) | hq
    · have a := IW.out _ hq; have o := ord.out; omega
    · have a := IC.out _ hq; have o := ord.out; omega
    · have a := IP.out _ hq; have o := ord.out; omega
  have nl : Hid (∀ q, q < w2.heap.size → ¬ (((Value.slice Aw m2 cw).ownBlock = some q ∨ (Value.slice Ac m cc).ownBlock = some q) ∨ (Value.slice Ap (kM k m) cpp).ownBlock = some q)) := fun q hlt hq => by
    rcases hq with (hq | hq) | hq
    · have a := IW.out _ hq; have o := ord.out; omega
    · have a := IC.out _ hq; have o := ord.out; omega
    · have a := IP.out _ hq; have o := ord.out; omega
  have nh : Hid (∀ q, w6.heap.size ≤ q → ¬ (((Value.slice Aw m2 cw).ownBlock = some q ∨ (Value.slice Ac m cc).ownBlock = some q) ∨ (Value.slice Ap (kM k m) cpp).ownBlock = some q)) := fun q hge hq => by
    rcases hq with (hq | hq) | hq
    · have a := IW.out _ hq; have o := ord.out; omega
    · have a := IC.out _ hq; have o := ord.out; omega
    · have a := IP.out _ hq; have o := ord.out; omega
  have gs : Hid (∀ q, (((Value.slice Aw m2 cw).ownBlock = some q ∨ (Value.slice Ac m cc).ownBlock = some q) ∨ (Value.slice Ap (kM k m) cpp).ownBlock = some q) → w.heap.size ≤ q) := fun q hq => by
    have b := hs.out
    rcases hq with (hq | hq) | hq
    · have a := IW.out _ hq; have o := ord.out; omega
    · have a := IC.out _ hq; have o := ord.out; omega
    · have a := IP.out _ hq; have o := ord.out; omega
  have ns : Hid (s < w2.heap.size) := ord.out.1
  have nN : Hid (w6.heap.size ≤ w7.heap.size) := by show _ ≤ _; have o := ord.out; omega
  have nQ : Hid (w6.heap.size ≤ w8.heap.size) := by show _ ≤ _; have o := ord.out; omega
  have nQ2 : Hid (∀ q, w7.heap.size < q → w6.heap.size ≤ q) := fun q hq => by have o := ord.out; omega
  go_loopg [12] (m2) (fun g i wr => ∃ (j : Nat) (D : Nat → Int), j ≤ m2 ∧ g = m2 - j ∧ i = .int .i64 j ∧ Hid (Off (fun q => (Value.slice Aw m2 cw).ownBlock = some q) w9 wr) ∧ Hid (wr.ownsRow w4.heap.size 2 1 (Value.slice Aw m2 cw) (m2) (rowL (m2) D)))
  case atStart => exact ⟨0, Y, Nat.zero_le _, rfl, rfl, Off.refl _ _, hW3.out⟩
  case round =>
    obtain ⟨j, D, hj, rfl, rfl, hf, hr⟩ := hrel
    by_cases hlt : j < m2
    · obtain ⟨gg, rfl⟩ := row_some hr.out (by omega)
      have c1 := row_cell hr.out hlt
      have f1 := hr.out.frozenAt j
      go_wp2
      go_roundg (m2 - (j + 1))
      case measure => omega
      case rel => exact ⟨j + 1, _, hlt, rfl, by go_num, Off.set (a := ⟨gg, j, none⟩) hf.out (rfl) _, row_set hr.out j _⟩
    · go_wp2
      go_loopg [13] (m) (fun g i wr => ∃ (j : Nat) (D : Nat → Int), j ≤ m ∧ g = m - j ∧ i = .int .i64 j ∧ Hid (Off (fun q => (Value.slice Aw m2 cw).ownBlock = some q ∨ (Value.slice Ac m cc).ownBlock = some q) w9 wr) ∧ Hid (wr.ownsRow w2.heap.size 2 1 (Value.slice Ac m cc) (m) (rowL (m) D)))
      case atStart => exact ⟨0, Z, Nat.zero_le _, rfl, rfl, hf.out.mono (fun q hq => Or.inl hq), hf.out.own hC3.out dC.out⟩
      case round =>
        obtain ⟨j, D, hj, rfl, rfl, hf, hr⟩ := hrel
        have bx := hf.out.cell X7.out.e5 n7.out
        by_cases hlt : j < m
        · obtain ⟨gg, rfl⟩ := row_some hr.out (by omega)
          have c1 := row_cell hr.out hlt
          have f1 := hr.out.frozenAt j
          go_wp2
          go_roundg (m - (j + 1))
          case measure => omega
          case rel => exact ⟨j + 1, _, hlt, rfl, by go_num, Off.set (a := ⟨gg, j, none⟩) hf.out (Or.inr rfl) _, row_set hr.out j _⟩
        · go_wp2
          go_loopg [14] (kM k m) (fun g i wr => ∃ (j : Nat) (D : Nat → Int), j ≤ kM k m ∧ g = kM k m - j ∧ i = .int .i64 j ∧ Hid (Off (fun q => ((Value.slice Aw m2 cw).ownBlock = some q ∨ (Value.slice Ac m cc).ownBlock = some q) ∨ (Value.slice Ap (kM k m) cpp).ownBlock = some q) w9 wr) ∧ Hid (wr.ownsRow w3.heap.size 2 1 (Value.slice Ap (kM k m) cpp) (kM k m) (rowL (kM k m) D)))
          case atStart => exact ⟨0, Z, Nat.zero_le _, rfl, rfl, hf.out.mono (fun q hq => Or.inl hq), hf.out.own hP3.out dP.out⟩
          case round =>
            obtain ⟨j, D, hj, rfl, rfl, hf, hr⟩ := hrel
            have bx := hf.out.cell X8.out.e5 n8.out
            by_cases hlt : j < kM k m
            · obtain ⟨gg, rfl⟩ := row_some hr.out (by omega)
              have c1 := row_cell hr.out hlt
              have f1 := hr.out.frozenAt j
              go_wp2
              go_roundg (kM k m - (j + 1))
              case measure => omega
              case rel => exact ⟨j + 1, _, hlt, rfl, by go_num, Off.set (a := ⟨gg, j, none⟩) hf.out (Or.inr rfl) _, row_set hr.out j _⟩
            · skip
              have K := Lib.hid (Below.trans Kw.out (hf.out.below (B := w.heap.size) Kw.out.size gs.out))
              have rO := Lib.hid (rd_of_own (hf.out.own hO.out (fun q hq => nl.out q (LO.out q hq))) hA.out)
              have rN := Lib.hid (rd_of_own (hf.out.own hN.out (fun q hq => nh.out q (IN.out q hq).1)) hB.out)
              have rQ := Lib.hid (rd_of_own (hf.out.own hQ.out (fun q hq => nh.out q (nQ2.out q (IQ.out q hq)))) hB.out)
              have rA := Lib.hid (hA0.out.keep K.out)
              have rB := Lib.hid (hB0.out.keep K.out)
              have e2 := hf.out.cell X2.out.e5 (nl.out s ns.out)
              have y10 := Lib.hid (hf.out.cell X10.out.e5 (nh.out _ nN.out))
              have y11 := Lib.hid (hf.out.cell X11.out.e5 (nh.out _ nQ.out))
              go_wp2_with fail
              refine (rsame_k rO.out rA.out true (same_refl m Z)).mono ?_
              rintro e wa ⟨rfl, h⟩
              have K1 := Lib.hid h
              have e10 := h.cell y10.out
              replace h := Lib.hid h
              go_wp2_with fail
              refine (rsame_k (rN.out.keep K1.out) (rB.out.keep K1.out) true (same_refl m2 Y)).mono ?_
              rintro e wb ⟨rfl, h⟩
              have K2 := Lib.hid (K1.out.trans h)
              have e11 := K2.out.cell y11.out
              replace h := Lib.hid h
              go_wp2_with fail
              refine (rsame_k (rQ.out.keep K2.out) (rB.out.keep K2.out) true (same_refl m2 Y)).mono ?_
              rintro e wd ⟨rfl, h⟩
              have K3 := Lib.hid (K2.out.trans h)
              replace h := Lib.hid h
              go_wp2
              go_ret
              exact ⟨rfl, Keep.trans K.out K3.out⟩
theorem keeps_walk (k i c n : Int) (f : Bool) (A : Option Addr) (m cp : Nat) (Z : Nat → Int) (B : Option Addr) (m2 cp2 : Nat) (Y : Nat → Int) (w : World) (hv : Vars w) (hA : Rd w A m Z) (hB : Rd w B m2 Y) (h0 : A = none → m = 0 ∧ cp = 0) (h02 : B = none → m2 = 0 ∧ cp2 = 0) :
    Calls Tryd.prog 5 #[.agg #[.int .i64 k, .int .i64 i, .int .i64 c, .int .i64 n, .bool f, .slice A m cp], .slice B m2 cp2] w fun e w' => e = .returned (.bool true) ∧ Keep w w' := by
  by_cases hm : m ≤ 100
  · by_cases hm2 : m2 ≤ 100
    · exact keeps_in k i c n f A m cp Z B m2 cp2 Y w hv hA hB h0 h02 hm hm2
    · exact keeps_out k i c n f A m cp B m2 cp2 w hv (Or.inr ⟨hm, by omega⟩)
  · exact keeps_out k i c n f A m cp B m2 cp2 w hv (Or.inl (by omega))

end Go.Proofs.YtflkeabjcbjkhaaDoor
