/-
  op.kept with the world that it leaves written out. No condition.
-/
import Derived.Test.YtflkeabjcbjkhaaDoorEq3
import Derived.Deep.Draws
namespace Go.Proofs.YtflkeabjcbjkhaaDoor
open Go.RowKit

set_option maxHeartbeats 1000000 in
theorem keptx_1 (i c n : Int) (f : Bool) (A : Option Addr) (m cp : Nat) (w : World) :
    Calls Tryd.prog 34 #[.agg #[.int .i64 1, .int .i64 i, .int .i64 c, .int .i64 n, .bool f, .slice A m cp]] w fun e w' => e = .returned (.agg #[.int .i64 1, .int .i64 i, .int .i64 0, .int .i64 n, .bool f, .slice none 0 0]) ∧ ∃ q, w' = (((w.alloc (.cells #[.int .i64 1, .int .i64 i, .int .i64 c, .int .i64 n, .bool f, .slice A m cp] 24)).alloc (.cells #[.int .i64 1, .int .i64 i, .int .i64 0, .int .i64 n, .bool f, .slice none 0 0] 24)).alloc (.cells #[.int .i64 1, .int .i64 i, .int .i64 0, .int .i64 n, .bool f, .slice none 0 0] 24)).drewN q := by
  go_enter Tryd.func34, Tryd.ntmps34
  go_wp2
  go_region
  all_goals
    go_wp2
    refine bodyPost_ret (v := .agg #[.int .i64 1, .int .i64 i, .int .i64 0, .int .i64 n, .bool f, .slice none 0 0]) (by simp [results, Tryd.results34, go_sem]) rfl ⟨rfl, 1, rfl⟩
set_option maxHeartbeats 1000000 in
theorem keptx_2 (i c n : Int) (f : Bool) (A : Option Addr) (m cp : Nat) (w : World) :
    Calls Tryd.prog 34 #[.agg #[.int .i64 2, .int .i64 i, .int .i64 c, .int .i64 n, .bool f, .slice A m cp]] w fun e w' => e = .returned (.agg #[.int .i64 2, .int .i64 i, .int .i64 0, .int .i64 0, .bool false, .slice A m cp]) ∧ ∃ q, w' = (((w.alloc (.cells #[.int .i64 2, .int .i64 i, .int .i64 c, .int .i64 n, .bool f, .slice A m cp] 24)).alloc (.cells #[.int .i64 2, .int .i64 i, .int .i64 0, .int .i64 0, .bool false, .slice A m cp] 24)).alloc (.cells #[.int .i64 2, .int .i64 i, .int .i64 0, .int .i64 0, .bool false, .slice A m cp] 24)).drewN q := by
  go_enter Tryd.func34, Tryd.ntmps34
  go_wp2
  refine bodyPost_ret (v := .agg #[.int .i64 2, .int .i64 i, .int .i64 0, .int .i64 0, .bool false, .slice A m cp]) (by simp [results, Tryd.results34, go_sem]) rfl ⟨rfl, 0, rfl⟩
set_option maxHeartbeats 1000000 in
theorem keptx_3 (i c n : Int) (f : Bool) (A : Option Addr) (m cp : Nat) (w : World) :
    Calls Tryd.prog 34 #[.agg #[.int .i64 3, .int .i64 i, .int .i64 c, .int .i64 n, .bool f, .slice A m cp]] w fun e w' => e = .returned (.agg #[.int .i64 3, .int .i64 i, .int .i64 0, .int .i64 0, .bool false, .slice none 0 0]) ∧ ∃ q, w' = (((w.alloc (.cells #[.int .i64 3, .int .i64 i, .int .i64 c, .int .i64 n, .bool f, .slice A m cp] 24)).alloc (.cells #[.int .i64 3, .int .i64 i, .int .i64 0, .int .i64 0, .bool false, .slice none 0 0] 24)).alloc (.cells #[.int .i64 3, .int .i64 i, .int .i64 0, .int .i64 0, .bool false, .slice none 0 0] 24)).drewN q := by
  go_enter Tryd.func34, Tryd.ntmps34
  go_wp2
  refine bodyPost_ret (v := .agg #[.int .i64 3, .int .i64 i, .int .i64 0, .int .i64 0, .bool false, .slice none 0 0]) (by simp [results, Tryd.results34, go_sem]) rfl ⟨rfl, 0, rfl⟩
set_option maxHeartbeats 1000000 in
theorem keptx_4 (i c n : Int) (f : Bool) (A : Option Addr) (m cp : Nat) (w : World) :
    Calls Tryd.prog 34 #[.agg #[.int .i64 4, .int .i64 i, .int .i64 c, .int .i64 n, .bool f, .slice A m cp]] w fun e w' => e = .returned (.agg #[.int .i64 4, .int .i64 i, .int .i64 c, .int .i64 n, .bool false, .slice A m cp]) ∧ ∃ q, w' = (((w.alloc (.cells #[.int .i64 4, .int .i64 i, .int .i64 c, .int .i64 n, .bool f, .slice A m cp] 24)).alloc (.cells #[.int .i64 4, .int .i64 i, .int .i64 c, .int .i64 n, .bool false, .slice A m cp] 24)).alloc (.cells #[.int .i64 4, .int .i64 i, .int .i64 c, .int .i64 n, .bool false, .slice A m cp] 24)).drewN q := by
  go_enter Tryd.func34, Tryd.ntmps34
  go_wp2
  go_region
  all_goals
    go_wp2
    refine bodyPost_ret (v := .agg #[.int .i64 4, .int .i64 i, .int .i64 c, .int .i64 n, .bool false, .slice A m cp]) (by simp [results, Tryd.results34, go_sem]) rfl ⟨rfl, 1, rfl⟩
set_option maxHeartbeats 1000000 in
theorem keptx_5 (i c n : Int) (f : Bool) (A : Option Addr) (m cp : Nat) (w : World) :
    Calls Tryd.prog 34 #[.agg #[.int .i64 5, .int .i64 i, .int .i64 c, .int .i64 n, .bool f, .slice A m cp]] w fun e w' => e = .returned (.agg #[.int .i64 5, .int .i64 i, .int .i64 0, .int .i64 0, .bool false, .slice none 0 0]) ∧ ∃ q, w' = (((w.alloc (.cells #[.int .i64 5, .int .i64 i, .int .i64 c, .int .i64 n, .bool f, .slice A m cp] 24)).alloc (.cells #[.int .i64 5, .int .i64 i, .int .i64 0, .int .i64 0, .bool false, .slice none 0 0] 24)).alloc (.cells #[.int .i64 5, .int .i64 i, .int .i64 0, .int .i64 0, .bool false, .slice none 0 0] 24)).drewN q := by
  go_enter Tryd.func34, Tryd.ntmps34
  go_wp2
  refine bodyPost_ret (v := .agg #[.int .i64 5, .int .i64 i, .int .i64 0, .int .i64 0, .bool false, .slice none 0 0]) (by simp [results, Tryd.results34, go_sem]) rfl ⟨rfl, 0, rfl⟩
set_option maxHeartbeats 1000000 in
theorem keptx_6 (i c n : Int) (f : Bool) (A : Option Addr) (m cp : Nat) (w : World) :
    Calls Tryd.prog 34 #[.agg #[.int .i64 6, .int .i64 i, .int .i64 c, .int .i64 n, .bool f, .slice A m cp]] w fun e w' => e = .returned (.agg #[.int .i64 6, .int .i64 0, .int .i64 0, .int .i64 n, .bool false, .slice none 0 0]) ∧ ∃ q, w' = (((w.alloc (.cells #[.int .i64 6, .int .i64 i, .int .i64 c, .int .i64 n, .bool f, .slice A m cp] 24)).alloc (.cells #[.int .i64 6, .int .i64 0, .int .i64 0, .int .i64 n, .bool false, .slice none 0 0] 24)).alloc (.cells #[.int .i64 6, .int .i64 0, .int .i64 0, .int .i64 n, .bool false, .slice none 0 0] 24)).drewN q := by
  go_enter Tryd.func34, Tryd.ntmps34
  go_wp2
  refine bodyPost_ret (v := .agg #[.int .i64 6, .int .i64 0, .int .i64 0, .int .i64 n, .bool false, .slice none 0 0]) (by simp [results, Tryd.results34, go_sem]) rfl ⟨rfl, 0, rfl⟩
set_option maxHeartbeats 1000000 in
theorem keptx_7 (i c n : Int) (f : Bool) (A : Option Addr) (m cp : Nat) (w : World) :
    Calls Tryd.prog 34 #[.agg #[.int .i64 7, .int .i64 i, .int .i64 c, .int .i64 n, .bool f, .slice A m cp]] w fun e w' => e = .returned (.agg #[.int .i64 7, .int .i64 0, .int .i64 0, .int .i64 0, .bool false, .slice none 0 0]) ∧ ∃ q, w' = (((w.alloc (.cells #[.int .i64 7, .int .i64 i, .int .i64 c, .int .i64 n, .bool f, .slice A m cp] 24)).alloc (.cells #[.int .i64 7, .int .i64 0, .int .i64 0, .int .i64 0, .bool false, .slice none 0 0] 24)).alloc (.cells #[.int .i64 7, .int .i64 0, .int .i64 0, .int .i64 0, .bool false, .slice none 0 0] 24)).drewN q := by
  go_enter Tryd.func34, Tryd.ntmps34
  go_wp2
  refine bodyPost_ret (v := .agg #[.int .i64 7, .int .i64 0, .int .i64 0, .int .i64 0, .bool false, .slice none 0 0]) (by simp [results, Tryd.results34, go_sem]) rfl ⟨rfl, 0, rfl⟩
set_option maxHeartbeats 1000000 in
theorem keptx_out (k i c n : Int) (f : Bool) (A : Option Addr) (m cp : Nat) (w : World) (h : k < 1 ∨ 7 < k) :
    Calls Tryd.prog 34 #[.agg #[.int .i64 k, .int .i64 i, .int .i64 c, .int .i64 n, .bool f, .slice A m cp]] w fun e w' => e = .returned (.agg #[.int .i64 k, .int .i64 0, .int .i64 0, .int .i64 0, .bool false, .slice none 0 0]) ∧ ∃ q, w' = (((w.alloc (.cells #[.int .i64 k, .int .i64 i, .int .i64 c, .int .i64 n, .bool f, .slice A m cp] 24)).alloc (.cells #[.int .i64 k, .int .i64 0, .int .i64 0, .int .i64 0, .bool false, .slice none 0 0] 24)).alloc (.cells #[.int .i64 k, .int .i64 0, .int .i64 0, .int .i64 0, .bool false, .slice none 0 0] 24)).drewN q := by
  have h1 : (k == 1) = false := beq_eq_false_iff_ne.2 (by omega)
  have h2 : (k == 2) = false := beq_eq_false_iff_ne.2 (by omega)
  have h3 : (k == 3) = false := beq_eq_false_iff_ne.2 (by omega)
  have h4 : (k == 4) = false := beq_eq_false_iff_ne.2 (by omega)
  have h5 : (k == 5) = false := beq_eq_false_iff_ne.2 (by omega)
  have h6 : (k == 6) = false := beq_eq_false_iff_ne.2 (by omega)
  clear h
  go_enter Tryd.func34, Tryd.ntmps34
  go_wp2
  refine bodyPost_ret (v := .agg #[.int .i64 k, .int .i64 0, .int .i64 0, .int .i64 0, .bool false, .slice none 0 0]) (by simp [results, Tryd.results34, go_sem]) rfl ⟨rfl, 0, rfl⟩
theorem keptx_fn (k i c n : Int) (f : Bool) (A : Option Addr) (m cp : Nat) (w : World) :
    Calls Tryd.prog 34 #[.agg #[.int .i64 k, .int .i64 i, .int .i64 c, .int .i64 n, .bool f, .slice A m cp]] w fun e w' => e = .returned (.agg #[.int .i64 k, .int .i64 (kI k i), .int .i64 (kC k c), .int .i64 (kN k n), .bool (kF k f), .slice (kA k A) (kM k m) (kM k cp)]) ∧ ∃ q, w' = (((w.alloc (.cells #[.int .i64 k, .int .i64 i, .int .i64 c, .int .i64 n, .bool f, .slice A m cp] 24)).alloc (.cells #[.int .i64 k, .int .i64 (kI k i), .int .i64 (kC k c), .int .i64 (kN k n), .bool (kF k f), .slice (kA k A) (kM k m) (kM k cp)] 24)).alloc (.cells #[.int .i64 k, .int .i64 (kI k i), .int .i64 (kC k c), .int .i64 (kN k n), .bool (kF k f), .slice (kA k A) (kM k m) (kM k cp)] 24)).drewN q := by
  rcases kinds_or k with rfl | rfl | rfl | rfl | rfl | rfl | rfl | h
  · exact keptx_1 i c n f A m cp w
  · exact keptx_2 i c n f A m cp w
  · exact keptx_3 i c n f A m cp w
  · exact keptx_4 i c n f A m cp w
  · exact keptx_5 i c n f A m cp w
  · exact keptx_6 i c n f A m cp w
  · exact keptx_7 i c n f A m cp w
  · rw [kI_out h, kC_out h, kN_out h, kF_out h, kA_out h, kM_out h, kM_out h]
    exact keptx_out k i c n f A m cp w h
end Go.Proofs.YtflkeabjcbjkhaaDoor
