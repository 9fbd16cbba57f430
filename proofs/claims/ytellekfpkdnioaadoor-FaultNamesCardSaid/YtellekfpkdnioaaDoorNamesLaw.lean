/-
  FaultNames: the walk. Condition: the three listed variables hold their own.
-/
import Derived.Test.YtellekfpkdnioaaDoorAwake
namespace Go.Proofs.YtellekfpkdnioaaDoor
open Go.RowKit Go.Extern.Stop Go.Stop Go.Extern

set_option maxRecDepth 100000 in
set_option maxHeartbeats 8000000 in
theorem names_walk (c n : Int) (w : World) (hv : Vars w) : Calls Tryd.prog 5 #[.int .i64 c, .int .i64 n] w fun e w' => e = .returned (.bool true) ∧ Keep w w' := by
  have hv := Lib.hid hv
  go_enter Tryd.func5, Tryd.ntmps5
  go_wp2_with fail
  refine (awake_true _ hv.out).mono ?_
  rintro e w1 ⟨rfl, h⟩
  have k1 := Lib.hid h
  replace h := Lib.hid h
  go_wp2_with fail
  refine (code_name c _ (hv.out.keep k1.out)).mono ?_
  rintro e w' ⟨rfl, rfl⟩
  go_wp2_with fail
  refine (code_rname c _).mono ?_
  rintro e w2 ⟨rfl, h⟩
  have k2 := Lib.hid (k1.out.trans h)
  replace h := Lib.hid h
  go_wp2_with fail
  refine (kind_name c _ (hv.out.keep k2.out)).mono ?_
  rintro e w' ⟨rfl, rfl⟩
  go_wp2_with fail
  refine (kind_rname c _).mono ?_
  rintro e w3 ⟨rfl, h⟩
  have k3 := Lib.hid (k2.out.trans h)
  replace h := Lib.hid h
  go_wp2_with fail
  refine (new_fn c n _).mono ?_
  rintro e w' ⟨rfl, rfl⟩
  unfold Base.val
  go_wp2_with fail
  refine (Is_fault c n _).mono ?_
  rintro e w' ⟨rfl, rfl⟩
  go_wp2_with fail
  refine (Is_yes c [] (.fault c n) _ _ (.base _) (Or.inr ⟨_, rfl⟩)).mono ?_
  rintro e w4 ⟨rfl, h⟩
  have k4 := Lib.hid (k3.out.trans h)
  replace h := Lib.hid h
  go_wp2
  go_ret
  exact ⟨rfl, k4.out⟩
end Go.Proofs.YtellekfpkdnioaaDoor
