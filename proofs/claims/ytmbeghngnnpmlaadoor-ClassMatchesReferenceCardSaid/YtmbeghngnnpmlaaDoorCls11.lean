/-
  The store of classes: New, Add, Get. Condition: errors.errorType holds its own.
-/
import Derived.Test.YtmbeghngnnpmlaaDoorCon11
import Derived.Test.YtmbeghngnnpmlaaDoorRefC11
import Derived.Test.YtmbeghngnnpmlaaDoorFuncs
namespace Go.Proofs.YtmbeghngnnpmlaaDoor.T11
open Go.RowKit Go.Sort Go.Lib Go.Shelf

/-- The store at q, with its table at p and the map at m, holds the classes of L. -/
structure SI (w : World) (s : Int) (q p m : Nat) (L : List ClV) : Prop where
  hq : w.heap[q]? = some (.cells #[.pointer (some ⟨p, 0, none⟩)] 57 (0, 0))
  t : TI w s p m L
section
variable {w w' : World} {s : Int} {q p m : Nat} {L : List ClV}
theorem SI.keep (h : SI w s q p m L) (k : Keep w w') : SI w' s q p m L := ⟨k.block h.hq, h.t.keep k⟩
theorem SI.qlt (h : SI w s q p m L) : q < w.heap.size := lt_of_block h.hq
theorem SI.c0 (h : SI w s q p m L) : w.cell? ⟨q, 0, none⟩ = some (.pointer (some ⟨p, 0, none⟩)) := by rw [cell_of_row w q _ _ _ _ h.hq]; rfl
theorem SI.ne (h : SI w s q p m L) : ¬ q = m := h.t.off_block (a := ⟨q, 0, none⟩) h.c0
theorem SI.pne (h : SI w s q p m L) : ¬ p = m := fun e => by obtain ⟨l, a, _⟩ := h.t.ex; exact a.ne e
theorem SI.put (h : SI w s q p m L) {L' : List ClV} (t : TI w' s p m L') (f : Fr (· = m) w w') : SI w' s q p m L' := ⟨(f.block _ h.qlt h.ne).trans h.hq, t⟩
theorem SI.fr (h : SI w s q p m L) {E : Nat → Prop} (f : Fr E w w') (h0 : ¬ E q) (h1 : ¬ E p) (h2 : ¬ E m) : SI w' s q p m L := ⟨(f.block _ h.qlt h0).trans h.hq, h.t.fr f h1 h2⟩
theorem errT_fr (h : ErrT w) (t : TI w s p m L) (f : Fr (· = m) w w') : ErrT w' := f.cell h (t.off_block h)

theorem csnew_fn (s : Int) (hs : I64 s) (w : World) : Calls Tryd.prog 7 #[.int .i64 s] w fun e w' => ∃ q, e = .returned (.pointer (some ⟨q, 0, none⟩)) ∧ ∃ p m, SI w' (if 0 ≤ s then s else 0) q p m [] ∧ Keep w w' ∧ w.heap.size ≤ q ∧ w.heap.size ≤ p ∧ w.heap.size ≤ m := by
  have h := tnew_fn s hs w
  obtain ⟨S, hS⟩ : ∃ S : Int, S = if 0 ≤ s then s else 0 := ⟨_, rfl⟩
  rw [← hS] at h ⊢
  replace hS := Lib.hid hS
  replace h := Lib.hid h
  go_enter Tryd.func7, Tryd.ntmps7
  go_wp2_with fail
  refine h.out.mono ?_
  rintro e w1 ⟨p, rfl, m, T, k, h1, h2⟩
  have hn := heap_alloc_new w1 (.cells #[.pointer (some ⟨p, 0, none⟩)] 57)
  have K := k.alloc (.cells #[.pointer (some ⟨p, 0, none⟩)] 57)
  have T2 := T.keep (Keep.one w1 (.cells #[.pointer (some ⟨p, 0, none⟩)] 57))
  have hsz := k.size
  replace hn := Lib.hid hn
  replace K := Lib.hid K
  replace T2 := Lib.hid T2
  replace T := Lib.hid T
  replace k := Lib.hid k
  go_wp2
  go_ret
  exact ⟨_, rfl, p, m, ⟨hn.out, T2.out⟩, K.out, hsz, h1, h2⟩

/-- The fault of a code at an index; none at 0. -/
def flt (c n : Int) : Value := (Base.fault c n).val
def fltC (c : Int) : Value := if c = 0 then .nilIface else flt c 0
theorem located_nil (w : World) : Calls Tryd.prog 24 #[.nilIface] w fun e w' => e = .returned .nilIface ∧ Keep w w' := by
  have hA := Lib.hid (fun t W => As_nil t W)
  go_enter Tryd.func24, Tryd.ntmps24
  go_wp2_with fail
  refine (hA.out _ _).mono ?_
  rintro e w1 ⟨rfl, rfl⟩
  go_wp2
  go_ret
  exact ⟨rfl, Keep.one _ _⟩
set_option maxHeartbeats 2000000 in
theorem located_code (c : Int) (w : World) (hg : ErrT w) : Calls Tryd.prog 24 #[.iface 59 (.int .i64 c)] w fun e w' => e = .returned (flt c 0) ∧ Keep w w' := by
  have hk0 : Keep w (w.alloc (.cells #[.int .i64 0] 59)) := Keep.one _ _
  have hA := As_Code 59 (.int .i64 c) ⟨w.heap.size, 0, none⟩ (w.alloc (.cells #[.int .i64 0] 59)) true
    (fun w' => Hit ⟨w.heap.size, 0, none⟩ (w.alloc (.cells #[.int .i64 0] 59)) w' ∧ w'.cell? ⟨w.heap.size, 0, none⟩ = some (.int .i64 c)) (hg.keep hk0)
    (fun w1 aa hk ha => (as_code_yes c [] (.code c) _ w1 aa ⟨w.heap.size, 0, none⟩ (.int .i64 0) (.base _) (Or.inl rfl) (hk.cell (by simp)) (by rw [frozen_keep hk (by simp)]; simp) ha).mono
      fun e w' ⟨he, hh, hc0⟩ => ⟨he, hh.from hk (by simp), hc0⟩)
  have hA := Lib.hid hA
  have hn := Lib.hid (fun W => new_fn c 0 W)
  clear hg
  unfold flt
  go_enter Tryd.func24, Tryd.ntmps24
  go_wp2_with fail
  refine hA.out.mono ?_
  rintro e w9 ⟨rfl, hh, hc0⟩
  have K : Hid (Keep w w9) := keep_grown (Keep.one _ _) hh.1 (fun g hg => by cases hg; exact Nat.le_refl _)
  replace hh := Lib.hid hh
  go_wp2_with fail
  refine (hn.out _).mono ?_
  rintro e w' ⟨rfl, rfl⟩
  go_wp2
  go_ret
  exact ⟨rfl, K.out⟩
theorem located_fn (c : Int) (w : World) (hg : ErrT w) : Calls Tryd.prog 24 #[errC c] w fun e w' => e = .returned (fltC c) ∧ Keep w w' := by
  unfold errC fltC
  by_cases h : c = 0
  · rw [if_pos h, if_pos h]; exact located_nil w
  · rw [if_neg h, if_neg h]; exact located_code c w hg
theorem csadd_nil (x : ClV) (w : World) : Calls Tryd.prog 11 #[.pointer none, x.val] w fun e w' => e = .returned (flt 5 0) ∧ Keep w w' := by
  have hn := Lib.hid (fun W => new_fn 5 0 W)
  unfold ClV.val flt
  go_enter Tryd.func11, Tryd.ntmps11
  go_wp2_with fail
  refine (hn.out _).mono ?_
  rintro e w' ⟨rfl, rfl⟩
  go_wp2
  go_ret
  exact ⟨rfl, Keep.one _ _⟩
set_option maxRecDepth 100000 in
set_option maxHeartbeats 4000000 in
theorem csadd_fn (h : SI w s q p m L) (x : ClV) (hx : ClOk x) (hg : ErrT w) : Calls Tryd.prog 11 #[.pointer (some ⟨q, 0, none⟩), x.val] w fun e w' => e = .returned (fltC (addC L s x)) ∧ SI w' s q p m (addL L s x) ∧ Fr (· = m) w w' := by
  obtain ⟨W0, hW0⟩ : ∃ W0, W0 = w.alloc (.cells #[.int .i64 x.k, .int .i64 x.p, .bool x.f] 30) := ⟨_, rfl⟩
  have K0 : Hid (Keep w W0) := by rw [hW0]; exact Keep.one _ _
  have hb : W0.heap[w.heap.size]? = some (.cells #[.int .i64 x.k, .int .i64 x.p, .bool x.f] 30 (0, 0)) := by rw [hW0]; exact heap_alloc_new _ _
  obtain ⟨x0, x1, x2⟩ := cel_block hb
  have hb' := Lib.hid hb
  clear hb
  have c0 := K0.out.cell h.c0
  have n0 := h.ne
  have hm := h.t.mlt
  have nb : Hid (¬ w.heap.size = m) := by show ¬ _; omega
  have n0 := Lib.hid n0
  have hA : Hid (∀ W, Keep W0 W → Calls Tryd.prog 25 #[.pointer (some ⟨p, 0, none⟩), .int .i64 x.k, x.val] W fun e w' => e = .returned (errC (addC L s x)) ∧ TI w' s p m (addL L s x) ∧ Fr (· = m) W w') := fun W k => tadd_fn (h.t.keep (K0.out.trans k)) x hx
  obtain ⟨M, hM⟩ : ∃ M, M = addL L s x := ⟨_, rfl⟩
  obtain ⟨c, hc⟩ : ∃ c, c = addC L s x := ⟨_, rfl⟩
  rw [← hM, ← hc] at hA
  rw [← hM, ← hc]
  obtain ⟨ev, hev⟩ : ∃ ev, ev = errC c := ⟨_, rfl⟩
  rw [← hev] at hA
  have hL : Hid (∀ W, ErrT W → Calls Tryd.prog 24 #[ev] W fun e w' => e = .returned (fltC c) ∧ Keep W w') := fun W g => by rw [hev]; exact located_fn c W g
  obtain ⟨fv, hfv⟩ : ∃ fv, fv = fltC c := ⟨_, rfl⟩
  rw [← hfv] at hL
  rw [← hfv]
  replace hM := Lib.hid hM
  replace hc := Lib.hid hc
  replace hev := Lib.hid hev
  replace hfv := Lib.hid hfv
  have H := Lib.hid h
  have tT : Hid (∀ W, Keep W0 W → TI W s p m L) := fun W k => h.t.keep (K0.out.trans k)
  have gT : Hid (∀ W, Keep W0 W → ErrT W) := fun W k => hg.keep (K0.out.trans k)
  clear h hg hm
  unfold ClV.val at hA
  unfold ClV.val
  go_enter Tryd.func11, Tryd.ntmps11
  go_wp2_with fail
  rw [← hW0]
  replace hW0 := Lib.hid hW0
  generalize w.heap.size = b at *
  go_region_held3 (fun w' => w'.cell? ⟨q, 0, none⟩ = some (.pointer (some ⟨p, 0, none⟩)) ∧ w'.cell? ⟨b, 0, none⟩ = some (.int .i64 x.k) ∧ w'.cell? ⟨b, 1, none⟩ = some (.int .i64 x.p) ∧ w'.cell? ⟨b, 2, none⟩ = some (.bool x.f))
      (first
        | ((refine (fun (K : Gr W0 _) => ⟨K.cell c0, K.cell x0, K.cell x1, K.cell x2⟩) ?_; repeat (with_reducible first | exact Gr.refl W0 | apply Gr.alloc | apply Gr.drew | apply Gr.drewN)); done)
        | (refine (fun (K : Fr (· = m) W0 _) => ⟨K.cell c0 n0.out, K.cell x0 nb.out, K.cell x1 nb.out, K.cell x2 nb.out⟩) ?_; repeat (with_reducible first | exact F1.out | apply Fr.drew | apply Fr.drewN | (refine Fr.keep ?_ k2.out))))
      (first
        | (go_at_call 25; refine (hA.out _ ?_).mono ?_; (repeat (with_reducible first | exact Keep.refl W0 | apply Keep.drew | apply Keep.drewN)); rintro e w1 ⟨rfl, t1, f1⟩; have F1 : Hid (Fr (· = m) W0 w1) := Fr.after (by repeat (with_reducible first | exact Keep.refl W0 | apply Keep.drew | apply Keep.drewN)) f1; have g1 : Hid (ErrT w1) := errT_fr (gT.out _ (by repeat (with_reducible first | exact Keep.refl W0 | apply Keep.drew | apply Keep.drewN))) (tT.out _ (by repeat (with_reducible first | exact Keep.refl W0 | apply Keep.drew | apply Keep.drewN))) f1; replace t1 := Lib.hid t1; replace f1 := Lib.hid f1)
        | (go_at_call 24; refine (hL.out _ g1.out).mono ?_; rintro e w2 ⟨rfl, k2⟩; replace k2 := Lib.hid k2))
  all_goals
    have F2 : Hid (Fr (· = m) W0 w2) := F1.out.keep k2.out
    have T2 : Hid (TI w2 s p m M) := t1.out.keep k2.out
    go_wp2
    go_ret
    exact ⟨rfl, (H.out.keep K0.out).put T2.out F2.out, Fr.after K0.out F2.out⟩
set_option maxRecDepth 100000 in
set_option maxHeartbeats 4000000 in
theorem csget_fn (h : SI w s q p m L) (id : Int) : Calls Tryd.prog 15 #[.pointer (some ⟨q, 0, none⟩), .int .i64 id] w fun e w' => e = .returned (.tuple #[(getL L id).val, .bool (decide (id ∈ keys L))]) ∧ Keep w w' := by
  have c0 := h.c0
  have hG : Hid (∀ W, Keep w W → Calls Tryd.prog 30 #[.pointer (some ⟨p, 0, none⟩), .int .i64 id] W fun e w' => e = .returned (.tuple #[(getL L id).val, .bool (decide (id ∈ keys L))]) ∧ Gr W w') := fun W k => tget_fn (h.t.keep k) id
  obtain ⟨y, hy⟩ : ∃ y, y = getL L id := ⟨_, rfl⟩
  obtain ⟨b, hb⟩ : ∃ b, b = decide (id ∈ keys L) := ⟨_, rfl⟩
  rw [← hy, ← hb] at hG
  rw [← hy, ← hb]
  unfold ClV.val at *
  replace hy := Lib.hid hy
  replace hb := Lib.hid hb
  have hq := h.qlt
  clear h
  have B0 := heap_alloc_new w (.cells #[.int .i64 0, .int .i64 0, .bool false] 30)
  have B0 := Lib.hid B0
  go_enter Tryd.func15, Tryd.ntmps15
  go_wp2_with fail
  refine (hG.out _ (Keep.one _ _)).mono ?_
  rintro e w1 ⟨rfl, g1⟩
  have K1 : Hid (Keep w w1) := (Keep.one _ _).trans g1.keep
  have B1 := g1.keep.block B0.out
  obtain ⟨d0, d1, d2⟩ := cel_block (x := zp) B1
  have g0 := fun i => frozen_of_row w1 _ i _ _ B1
  replace g1 := Lib.hid g1
  replace B1 := Lib.hid B1
  clear c0
  have B2 : Hid ((((w1.setCell ⟨w.heap.size, 0, none⟩ (.int .i64 y.k)).setCell ⟨w.heap.size, 1, none⟩ (.int .i64 y.p)).setCell ⟨w.heap.size, 2, none⟩ (.bool y.f)).heap[w.heap.size]? = some (.cells #[.int .i64 y.k, .int .i64 y.p, .bool y.f] 30 (0, 0))) := set3_heap y B1.out
  have K2 : Hid (Keep w (((w1.setCell ⟨w.heap.size, 0, none⟩ (.int .i64 y.k)).setCell ⟨w.heap.size, 1, none⟩ (.int .i64 y.p)).setCell ⟨w.heap.size, 2, none⟩ (.bool y.f))) := set3_keep y K1.out (Nat.le_refl _)
  go_wp2
  obtain ⟨e0, e1, e2⟩ := cel_block B2.out
  refine bodyPost_ret (v := .tuple #[.agg #[.int .i64 y.k, .int .i64 y.p, .bool y.f], .bool b]) (by simp [results, Tryd.results15, go_sem, e0, e1, e2]) rfl ⟨rfl, K2.out⟩
end
end Go.Proofs.YtmbeghngnnpmlaaDoor.T11
