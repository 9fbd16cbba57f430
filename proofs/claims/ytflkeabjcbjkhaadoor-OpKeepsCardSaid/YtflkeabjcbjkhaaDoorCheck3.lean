/-
  op.Check. Condition: the listed variables hold their own.
-/
import Derived.Test.YtflkeabjcbjkhaaDoorChk3
import Derived.Test.YtflkeabjcbjkhaaDoorNames
namespace Go.Proofs.YtflkeabjcbjkhaaDoor
open Go.RowKit Go.Extern.Stop Go.Stop Go.Extern

theorem owrong_nil (k i c n : Int) (f : Bool) (A : Option Addr) (m cp : Nat) (Z : Nat → Int) (d : Int) (w : World) (hA : Rd w A m Z) (h : wr k i c n (wrongOf m Z d) = none) :
    Calls Tryd.prog 33 #[.agg #[.int .i64 k, .int .i64 i, .int .i64 c, .int .i64 n, .bool f, .slice A m cp], .int .i64 d] w fun e w' => e = .returned .nilIface ∧ Keep w w' := by
  have := owrong_fn k i c n f A m cp Z d w hA
  rw [h] at this
  exact this
theorem owrong_err (k i c n : Int) (f : Bool) (A : Option Addr) (m cp : Nat) (Z : Nat → Int) (d : Int) (w : World) (hA : Rd w A m Z) (x y : Int) (h : wr k i c n (wrongOf m Z d) = some (x, y)) :
    Calls Tryd.prog 33 #[.agg #[.int .i64 k, .int .i64 i, .int .i64 c, .int .i64 n, .bool f, .slice A m cp], .int .i64 d] w fun e w' => e = .returned (.iface 55 (.agg #[.int .i64 x, .int .i64 y])) ∧ Keep w w' := by
  have := owrong_fn k i c n f A m cp Z d w hA
  rw [h] at this
  exact this
/-- The name of a kind of the table is not empty. -/
theorem kindNm_ne {k : Int} (h : ¬ (k < 1 ∨ 7 < k)) : (kindNm k).toList.isEmpty = false := by
  rcases kinds_or k with rfl | rfl | rfl | rfl | rfl | rfl | rfl | h'
  iterate 7 decide +kernel
  exact absurd h' h

set_option maxHeartbeats 4000000 in
theorem ocheck_out (k i c n : Int) (f : Bool) (A : Option Addr) (m cp : Nat) (d : Int) (w : World) (hv : Vars w) (h : k < 1 ∨ 7 < k) :
    Calls Tryd.prog 9 #[.agg #[.int .i64 k, .int .i64 i, .int .i64 c, .int .i64 n, .bool f, .slice A m cp], .int .i64 d] w fun e w' => e = .returned (Base.fault 1 0).val ∧ Keep w w' := by
  have hn : kindNm k = ⟨#[]⟩ := by
    by_cases h0 : k = 0
    · subst h0; rfl
    · exact kindNm_out (by omega)
  have hn := Lib.hid hn
  replace hv := Lib.hid hv
  replace h := Lib.hid h
  go_enter Tryd.func9, Tryd.ntmps9
  go_wp2_with fail
  refine (kind_name k _ (hv.out.keep (Keep.one _ _))).mono ?_
  rintro e w' ⟨rfl, rfl⟩
  rw [hn.out]
  go_wp2_with fail
  refine (new_fn 1 0 _).mono ?_
  rintro e w' ⟨rfl, rfl⟩
  go_wp2
  go_ret
  exact ⟨rfl, Keep.one _ _⟩

set_option maxRecDepth 100000 in
set_option maxHeartbeats 8000000 in
theorem ocheck_none (k i c n : Int) (f : Bool) (A : Option Addr) (m cp : Nat) (Z : Nat → Int) (d : Int) (w : World) (hv : Vars w) (hA : Rd w A m Z) (h : ¬ (k < 1 ∨ 7 < k)) (hr : wr k (kI k i) (kC k c) (kN k n) (wrongOf (kM k m) Z d) = none) :
    Calls Tryd.prog 9 #[.agg #[.int .i64 k, .int .i64 i, .int .i64 c, .int .i64 n, .bool f, .slice A m cp], .int .i64 d] w fun e w' => e = .returned .nilIface ∧ Keep w w' := by
  replace hA := Lib.hid (hA.kept k)
  replace hv := Lib.hid hv
  have hn := Lib.hid (kindNm_ne h)
  replace h := Lib.hid h
  replace hr := Lib.hid hr
  go_enter Tryd.func9, Tryd.ntmps9
  go_wp2_with fail
  refine (kind_name k _ (hv.out.keep (Keep.one _ _))).mono ?_
  rintro e w' ⟨rfl, rfl⟩
  have hn1 := hn.out
  go_wp2_with fail
  have k0 : Keep w (w.alloc (.cells #[.int .i64 k, .int .i64 i, .int .i64 c, .int .i64 n, .bool f, .slice A m cp] 24)) := Keep.one w _
  have X1 := Box.new w (.int .i64 k) (.int .i64 i) (.int .i64 c) (.int .i64 n) (.bool f) (.slice A m cp)
  obtain ⟨w0, hw0⟩ : ∃ w0, w0 = w.alloc (.cells #[.int .i64 k, .int .i64 i, .int .i64 c, .int .i64 n, .bool f, .slice A m cp] 24) := ⟨_, rfl⟩
  rw [← hw0] at k0 X1 ⊢
  have p0 := X1.ce0
  have p1 := X1.ce1
  have p2 := X1.ce2
  have p3 := X1.ce3
  have p4 := X1.ce4
  have p5 := X1.ce5
  replace k0 := Lib.hid k0
  clear X1 hw0
  go_region_held3 (fun w' => w'.cell? ⟨w.heap.size, 0, none⟩ = some (.int .i64 k) ∧ w'.cell? ⟨w.heap.size, 1, none⟩ = some (.int .i64 i) ∧ w'.cell? ⟨w.heap.size, 2, none⟩ = some (.int .i64 c) ∧ w'.cell? ⟨w.heap.size, 3, none⟩ = some (.int .i64 n) ∧ w'.cell? ⟨w.heap.size, 4, none⟩ = some (.bool f) ∧ w'.cell? ⟨w.heap.size, 5, none⟩ = some (.slice A m cp))
    (first | assumption | exact ⟨p0, p1, p2, p3, p4, p5⟩ | (go_split_ands; exact ⟨Keep.cell (by assumption) (by assumption), Keep.cell (by assumption) (by assumption), Keep.cell (by assumption) (by assumption), Keep.cell (by assumption) (by assumption), Keep.cell (by assumption) (by assumption), Keep.cell (by assumption) (by assumption)⟩) | (refine (fun (K : Keep w0 _) => ⟨K.cell p0, K.cell p1, K.cell p2, K.cell p3, K.cell p4, K.cell p5⟩) ?_; exact ((Keep.ofDrew hb1).trans hb2).alloc _))
    (first
      | (go_at_call 34; refine (kept_fn k i c n f A m cp _).mono ?_; rintro e w1 ⟨rfl, hb1⟩)
      | (go_at_call 33; refine (owrong_nil k (kI k i) (kC k c) (kN k n) (kF k f) (kA k A) (kM k m) (kM k cp) Z d _ (hA.out.keep (k0.out.trans (Keep.ofDrew hb1))) hr.out).mono ?_; rintro e w2 ⟨rfl, hb2⟩)
      | (go_at_call 32; refine (in_nil k _).mono ?_; rintro e w3 ⟨rfl, rfl⟩))
  all_goals
    go_wp2
    go_ret
    exact ⟨rfl, k0.out.trans ((Keep.ofDrew hb1).trans hb2)⟩

/-- An error that is wrapped once, with a kind. -/
def Wrapped (k x y : Int) (w : World) (e : Ending) (w' : World) : Prop :=
  ∃ b : Nat, e = .returned (.iface 58 (.pointer (some ⟨b, 0, none⟩))) ∧ w'.cell? ⟨b, 0, none⟩ = some (.int .i64 k) ∧ w'.cell? ⟨b, 0 + 1, none⟩ = some (Base.fault x y).val ∧ Keep w w'

set_option maxRecDepth 100000 in
set_option maxHeartbeats 8000000 in
theorem ocheck_some (k i c n : Int) (f : Bool) (A : Option Addr) (m cp : Nat) (Z : Nat → Int) (d : Int) (w : World) (hv : Vars w) (hA : Rd w A m Z) (h : ¬ (k < 1 ∨ 7 < k)) (x y : Int) (hr : wr k (kI k i) (kC k c) (kN k n) (wrongOf (kM k m) Z d) = some (x, y)) :
    Calls Tryd.prog 9 #[.agg #[.int .i64 k, .int .i64 i, .int .i64 c, .int .i64 n, .bool f, .slice A m cp], .int .i64 d] w fun e w' => Wrapped k x y w e w' := by
  replace hA := Lib.hid (hA.kept k)
  replace hv := Lib.hid hv
  have hn := Lib.hid (kindNm_ne h)
  replace h := Lib.hid h
  replace hr := Lib.hid hr
  go_enter Tryd.func9, Tryd.ntmps9
  go_wp2_with fail
  refine (kind_name k _ (hv.out.keep (Keep.one _ _))).mono ?_
  rintro e w' ⟨rfl, rfl⟩
  have hn1 := hn.out
  go_wp2_with fail
  have k0 : Keep w (w.alloc (.cells #[.int .i64 k, .int .i64 i, .int .i64 c, .int .i64 n, .bool f, .slice A m cp] 24)) := Keep.one w _
  have X1 := Box.new w (.int .i64 k) (.int .i64 i) (.int .i64 c) (.int .i64 n) (.bool f) (.slice A m cp)
  obtain ⟨w0, hw0⟩ : ∃ w0, w0 = w.alloc (.cells #[.int .i64 k, .int .i64 i, .int .i64 c, .int .i64 n, .bool f, .slice A m cp] 24) := ⟨_, rfl⟩
  rw [← hw0] at k0 X1 ⊢
  have p0 := X1.ce0
  have p1 := X1.ce1
  have p2 := X1.ce2
  have p3 := X1.ce3
  have p4 := X1.ce4
  have p5 := X1.ce5
  replace k0 := Lib.hid k0
  clear X1 hw0
  go_region_held3 (fun w' => w'.cell? ⟨w.heap.size, 0, none⟩ = some (.int .i64 k) ∧ w'.cell? ⟨w.heap.size, 1, none⟩ = some (.int .i64 i) ∧ w'.cell? ⟨w.heap.size, 2, none⟩ = some (.int .i64 c) ∧ w'.cell? ⟨w.heap.size, 3, none⟩ = some (.int .i64 n) ∧ w'.cell? ⟨w.heap.size, 4, none⟩ = some (.bool f) ∧ w'.cell? ⟨w.heap.size, 5, none⟩ = some (.slice A m cp))
    (first | assumption | exact ⟨p0, p1, p2, p3, p4, p5⟩ | (go_split_ands; exact ⟨Keep.cell (by assumption) (by assumption), Keep.cell (by assumption) (by assumption), Keep.cell (by assumption) (by assumption), Keep.cell (by assumption) (by assumption), Keep.cell (by assumption) (by assumption), Keep.cell (by assumption) (by assumption)⟩) | (refine (fun (K : Keep w0 _) => ⟨K.cell p0, K.cell p1, K.cell p2, K.cell p3, K.cell p4, K.cell p5⟩) ?_; exact ((Keep.ofDrew hb1).trans hb2).alloc _))
    (first
      | (go_at_call 34; refine (kept_fn k i c n f A m cp _).mono ?_; rintro e w1 ⟨rfl, hb1⟩)
      | (go_at_call 33; refine (owrong_err k (kI k i) (kC k c) (kN k n) (kF k f) (kA k A) (kM k m) (kM k cp) Z d _ (hA.out.keep (k0.out.trans (Keep.ofDrew hb1))) x y hr.out).mono ?_; rintro e w2 ⟨rfl, hb2⟩)
      | (go_at_call 32; refine (in_fn k _ _ _).mono ?_; rintro e w3 ⟨rfl, rfl⟩))
  all_goals
    go_wp2
    go_ret
    exact ⟨_, rfl, by simp, by simp [Base.val], k0.out.trans (((Keep.ofDrew hb1).trans hb2).alloc _)⟩

end Go.Proofs.YtflkeabjcbjkhaaDoor
