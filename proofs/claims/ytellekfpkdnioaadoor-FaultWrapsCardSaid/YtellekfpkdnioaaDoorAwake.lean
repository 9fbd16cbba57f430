/-
  The fixed examples of stage 2 hold. Condition: the three listed variables hold their own.
-/
import Derived.Test.YtellekfpkdnioaaDoorTexts
namespace Go.Proofs.YtellekfpkdnioaaDoor
open Go.RowKit Go.Extern.Stop Go.Stop Go.Extern

theorem codeError_of (c : Int) (s : ByteArray) (w : World) (hs : s.size ≤ 1000) (h : Calls Tryd.prog 58 #[.int .i64 c] w fun e w' => e = .returned (.string s) ∧ Keep w w') :
    Calls Tryd.prog 57 #[.int .i64 c] w fun e w' => e = .returned (.string (⟨#[101, 114, 114, 111, 114, 32]⟩ ++ s)) ∧ Keep w w' := by
  have h := Lib.hid h
  go_enter Tryd.func57, Tryd.ntmps57
  go_wp2_with (go_at_call 58; refine h.out.mono ?_; rintro e w' ⟨rfl, hk⟩)

  go_ret
  exact ⟨rfl, hk⟩
theorem itoa7 (w : World) : Calls Tryd.prog 58 #[.int .i64 7] w fun e w' => e = .returned (.string ⟨#[55]⟩) ∧ Keep w w' := by
  refine (Tryd.strconv_Itoa_small 7 (by decide) w).mono fun e w' ⟨he, hw⟩ => ⟨?_, hw ▸ Keep.refl _⟩
  rw [he, Lib.decDigits]
  rfl
theorem says7 (w : World) : Says 7 ⟨#[101, 114, 114, 111, 114, 32, 55]⟩ w := fun W _ =>
  (codeError_of 7 _ W (by decide) (itoa7 W)).mono fun _ _ ⟨he, hw⟩ => ⟨he, hw⟩
theorem harm_yes (c : Int) (ks : List Int) (b : Base) (v : Value) (w : World) (hch : Chain w ks b v) (hb : hasCode c b) (hg : ErrT w) :
    Calls Tryd.prog 13 #[v] w fun e w' => e = .returned (.bool (harmB c)) ∧ Keep w w' := harm_walk v c true w (code_yes c ks b v w hch hb hg)
theorem harm_no (ks : List Int) (b : Base) (v : Value) (w : World) (hch : Chain w ks b v) (hb : isText b) (hg : ErrT w) :
    Calls Tryd.prog 13 #[v] w fun e w' => e = .returned (.bool false) ∧ Keep w w' := harm_walk v 0 false w (code_no ks b v w hch hb hg)
theorem harm_nil (w : World) : Calls Tryd.prog 13 #[.nilIface] w fun e w' => e = .returned (.bool false) ∧ Keep w w' := harm_walk .nilIface 0 false w (code_nil w)

set_option maxRecDepth 100000 in
set_option maxHeartbeats 8000000 in
theorem awake_true (w : World) (hv : Vars w) : Calls Tryd.prog 8 #[] w fun e w' => e = .returned (.bool true) ∧ Keep w w' := by
  have m1 := Tryd.mErrLoc
  have hv := Lib.hid hv
  go_enter Tryd.func8, Tryd.ntmps8
  go_wp2_with fail
  refine (new_fn 7 7 _).mono ?_
  rintro e w' ⟨rfl, rfl⟩
  unfold Base.val
  go_wp2_with fail
  refine (in_fn 4 _ _ _).mono ?_
  rintro e w' ⟨rfl, rfl⟩
  have hk0 := Lib.hid (Keep.one w (.cells #[.int .i64 4, .iface 40 (.agg #[.int .i64 7, .int .i64 7])] 59))
  have hC := Lib.hid ((Chain.base (w := w) (.fault 7 7)).in_ 4)
  have hp : Hid ((w.alloc (.cells #[.int .i64 4, .iface 40 (.agg #[.int .i64 7, .int .i64 7])] 59)).cell? ⟨w.heap.size, 0, none⟩ = some (.int .i64 4)) := by simp [Hid]
  have hp2 : Hid ((w.alloc (.cells #[.int .i64 4, .iface 40 (.agg #[.int .i64 7, .int .i64 7])] 59)).cell? ⟨w.heap.size, 0 + 1, none⟩ = some (.iface 40 (.agg #[.int .i64 7, .int .i64 7]))) := by simp [Hid]
  have hV := Lib.hid (hv.out.keep hk0.out)
  obtain ⟨w0, hw0⟩ : ∃ w0, w0 = w.alloc (.cells #[.int .i64 4, .iface 40 (.agg #[.int .i64 7, .int .i64 7])] 59) := ⟨_, rfl⟩
  rw [← hw0] at hk0 hC hp hp2 hV ⊢
  replace hw0 := Lib.hid hw0
  have k0 := Lib.hid (Keep.refl w0)

  go_wp2_with fail
  refine (code_yes 7 [4] (.fault 7 7) _ _ (hC.out.keep k0.out) (Or.inr ⟨_, rfl⟩) (hV.out.keep k0.out).err).mono ?_
  rintro e w1 ⟨rfl, h⟩
  have k1 := Lib.hid (k0.out.trans h)
  replace h := Lib.hid h

  go_wp2_with fail
  refine (at_yes 7 7 [4] _ _ (hC.out.keep k1.out) (hV.out.keep k1.out).err).mono ?_
  rintro e w2 ⟨rfl, h⟩
  have k2 := Lib.hid (k1.out.trans h)
  replace h := Lib.hid h

  go_wp2_with fail
  refine (place_yes 4 _ _ (k2.out.cell hp.out) (hV.out.keep k2.out).err).mono ?_
  rintro e w3 ⟨rfl, h⟩
  have k3 := Lib.hid (k2.out.trans h)
  replace h := Lib.hid h

  go_wp2_with fail
  refine (code_nil _).mono ?_
  rintro e w4 ⟨rfl, h⟩
  have k4 := Lib.hid (k3.out.trans h)
  replace h := Lib.hid h

  go_wp2_with fail
  refine (locError_Fault 4 [] 7 7 _ _ _ ⟨#[101, 114, 114, 111, 114, 32, 55]⟩ (hV.out.keep k4.out) (k4.out.cell hp.out) (k4.out.cell hp2.out) (.base _) (says7 _) (by decide)).mono ?_
  rintro e w5 ⟨rfl, h⟩
  have k5 := Lib.hid (k4.out.trans h)
  replace h := Lib.hid h

  have et : (⟨(chainText (ByteArray.mk #[101, 114, 114, 111, 114, 32, 55]).data.toList [4]).toArray⟩ : ByteArray) = ⟨#[112, 111, 100, 58, 32, 101, 114, 114, 111, 114, 32, 55]⟩ := by rfl
  rw [et]
  clear et

  go_wp2_with fail
  refine (harm_yes 7 [4] (.fault 7 7) _ _ (hC.out.keep k5.out) (Or.inr ⟨_, rfl⟩) (hV.out.keep k5.out).err).mono ?_
  rintro e w6 ⟨rfl, h⟩
  have k6 := Lib.hid (k5.out.trans h)
  replace h := Lib.hid h

  rw [show harmB 7 = true from rfl]

  go_wp2_with fail
  refine (harm_nil _).mono ?_
  rintro e w7 ⟨rfl, h⟩
  have k7 := Lib.hid (k6.out.trans h)
  replace h := Lib.hid h

  go_wp2_with fail
  refine (code_name 7 _ (hV.out.keep k7.out)).mono ?_
  rintro e w' ⟨rfl, rfl⟩
  rw [show codeNm 7 = ⟨#[102, 117, 108, 108]⟩ from rfl]
  go_wp2_with fail
  refine (kind_name 7 _ (hV.out.keep k7.out)).mono ?_
  rintro e w' ⟨rfl, rfl⟩
  rw [show kindNm 7 = ⟨#[99, 121, 99, 108, 101]⟩ from rfl]
  go_wp2_with fail
  refine (in_nil 1 _).mono ?_
  rintro e w' ⟨rfl, rfl⟩
  go_wp2
  go_ret
  exact ⟨rfl, hk0.out.trans k7.out⟩
end Go.Proofs.YtellekfpkdnioaaDoor
