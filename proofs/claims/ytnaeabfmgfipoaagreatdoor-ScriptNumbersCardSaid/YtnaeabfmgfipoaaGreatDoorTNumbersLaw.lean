/-
  ScriptNumbers: the walk. Condition: the listed variables hold their own.
-/
import Derived.Test.YtnaeabfmgfipoaaGreatDoorBase5
namespace Go.Proofs.YtnaeabfmgfipoaaGreatDoor
open Go.RowKit Go.Extern.Stop Go.Stop Go.Extern

set_option maxRecDepth 100000 in
set_option maxHeartbeats 4000000 in
theorem numbers_walk (s : ByteArray) (w : World) (hv : V4 w) (hs0 : s.size ≤ 9223372036854775807) :
    Calls Tryz.prog 6 #[.string s] w fun e w' => e = .returned (.bool true) ∧ Keep w w' := by
  replace hv := Lib.hid hv
  by_cases hs : s.size ≤ 200
  · have hd : decide ((s.size : Int) > 200) = false := decide_eq_false (by omega)
    have hn := fun w' (h : V4 w') => snumber_fn s w' h (by omega)
    have hr := fun w' => rnumber_fn s w' (by omega)
    obtain ⟨o, ho⟩ : ∃ o, o = numOf s := ⟨_, rfl⟩
    rw [← ho] at hn hr
    replace hn := Lib.hid hn
    replace hr := Lib.hid hr
    clear ho
    go_enter Tryz.func6, Tryz.ntmps6
    go_wp2_with fail
    refine (awake4_true _ hv.out).mono ?_
    rintro e w1 ⟨rfl, h⟩
    have k1 := Lib.hid h
    replace h := Lib.hid h
    go_wp2_with fail
    refine (hn.out _ (hv.out.keep k1.out)).mono ?_
    rintro e w2 ⟨rfl, h⟩
    have k2 := Lib.hid (k1.out.trans h)
    replace h := Lib.hid h
    go_wp2_with fail
    refine (hr.out _).mono ?_
    rintro e w3 ⟨rfl, rfl⟩
    cases o
    all_goals
      go_wp2
      go_ret
      exact ⟨by simp, k2.out⟩
  · have hd : decide ((s.size : Int) > 200) = true := decide_eq_true (by omega)
    go_enter Tryz.func6, Tryz.ntmps6
    go_wp2_with fail
    refine (awake4_true _ hv.out).mono ?_
    rintro e w1 ⟨rfl, h⟩
    have k1 := Lib.hid h
    replace h := Lib.hid h
    go_wp2_with fail
    refine (awake4_true _ (hv.out.keep k1.out)).mono ?_
    rintro e w2 ⟨rfl, h⟩
    have k2 := Lib.hid (k1.out.trans h)
    replace h := Lib.hid h
    go_wp2
    go_ret
    exact ⟨rfl, k2.out⟩
end Go.Proofs.YtnaeabfmgfipoaaGreatDoor
