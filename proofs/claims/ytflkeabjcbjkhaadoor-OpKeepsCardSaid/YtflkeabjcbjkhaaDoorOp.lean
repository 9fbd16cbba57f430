/-
  Operations as values: the fields that are kept, the reference's and the program's; copies. Condition: at most 1048576 amounts.
-/
import Derived.Test.YtflkeabjcbjkhaaDoorSlices
import Derived.Laws.AppendOwnNone
import Derived.Laws.OwnMore
namespace Go.Proofs.YtflkeabjcbjkhaaDoor
open Go.RowKit

/-! ### What is kept, field by field -/
def kI (k x : Int) : Int := if k = 1 ∨ k = 2 ∨ k = 3 ∨ k = 4 ∨ k = 5 then x else 0
def kC (k x : Int) : Int := if k = 4 then x else 0
def kN (k x : Int) : Int := if k = 1 ∨ k = 4 ∨ k = 6 then x else 0
def kF (k : Int) (x : Bool) : Bool := if k = 1 then x else false
def kA (k : Int) (x : Option Addr) : Option Addr := if k = 2 ∨ k = 4 then x else none
def kM (k : Int) (x : Nat) : Nat := if k = 2 ∨ k = 4 then x else 0
theorem kinds_or (k : Int) : k = 1 ∨ k = 2 ∨ k = 3 ∨ k = 4 ∨ k = 5 ∨ k = 6 ∨ k = 7 ∨ (k < 1 ∨ 7 < k) := by omega
theorem kI_out {k x : Int} (h : k < 1 ∨ 7 < k) : kI k x = 0 := by unfold kI; rw [if_neg (by omega)]
theorem kC_out {k x : Int} (h : k < 1 ∨ 7 < k) : kC k x = 0 := by unfold kC; rw [if_neg (by omega)]
theorem kN_out {k x : Int} (h : k < 1 ∨ 7 < k) : kN k x = 0 := by unfold kN; rw [if_neg (by omega)]
theorem kF_out {k : Int} {x : Bool} (h : k < 1 ∨ 7 < k) : kF k x = false := by unfold kF; rw [if_neg (by omega)]
theorem kA_out {k : Int} {x : Option Addr} (h : k < 1 ∨ 7 < k) : kA k x = none := by unfold kA; rw [if_neg (by omega)]
theorem kM_out {k : Int} {x : Nat} (h : k < 1 ∨ 7 < k) : kM k x = 0 := by unfold kM; rw [if_neg (by omega)]

theorem Tryd.infoI64 : (Tryd.prog.info? 2).map (fun i => (i.zero, i.size, i.bytes)) = some (some (.int .i64 0), 1, 8) := by kernel_rfl
theorem Keep.set {w w' : World} (k : Keep w w') {a : Addr} (hb : w.heap.size ≤ a.block) (x : Value) : Keep w (w'.setCell a x) := Below.setCell k hb x

set_option maxHeartbeats 1000000 in
theorem kept_1 (i c n : Int) (f : Bool) (A : Option Addr) (m cp : Nat) (w : World) :
    Calls Tryd.prog 34 #[.agg #[.int .i64 1, .int .i64 i, .int .i64 c, .int .i64 n, .bool f, .slice A m cp]] w fun e w' => e = .returned (.agg #[.int .i64 1, .int .i64 i, .int .i64 0, .int .i64 n, .bool f, .slice none 0 0]) ∧ Keep w w' := by
  go_enter Tryd.func34, Tryd.ntmps34
  go_wp2
  go_region
  all_goals
    go_wp2
    refine bodyPost_ret (v := .agg #[.int .i64 1, .int .i64 i, .int .i64 0, .int .i64 n, .bool f, .slice none 0 0]) (by simp [results, Tryd.results34, go_sem]) rfl ⟨rfl, ?_⟩
    repeat (first | exact Keep.refl _ | apply Keep.alloc | apply Keep.drew | (refine Keep.set ?_ (by simp) _))
set_option maxHeartbeats 1000000 in
theorem kept_2 (i c n : Int) (f : Bool) (A : Option Addr) (m cp : Nat) (w : World) :
    Calls Tryd.prog 34 #[.agg #[.int .i64 2, .int .i64 i, .int .i64 c, .int .i64 n, .bool f, .slice A m cp]] w fun e w' => e = .returned (.agg #[.int .i64 2, .int .i64 i, .int .i64 0, .int .i64 0, .bool false, .slice A m cp]) ∧ Keep w w' := by
  go_enter Tryd.func34, Tryd.ntmps34
  go_wp2
  refine bodyPost_ret (v := .agg #[.int .i64 2, .int .i64 i, .int .i64 0, .int .i64 0, .bool false, .slice A m cp]) (by simp [results, Tryd.results34, go_sem]) rfl ⟨rfl, ?_⟩
  repeat (first | exact Keep.refl _ | apply Keep.alloc | apply Keep.drew | (refine Keep.set ?_ (by simp) _))
set_option maxHeartbeats 1000000 in
theorem kept_3 (i c n : Int) (f : Bool) (A : Option Addr) (m cp : Nat) (w : World) :
    Calls Tryd.prog 34 #[.agg #[.int .i64 3, .int .i64 i, .int .i64 c, .int .i64 n, .bool f, .slice A m cp]] w fun e w' => e = .returned (.agg #[.int .i64 3, .int .i64 i, .int .i64 0, .int .i64 0, .bool false, .slice none 0 0]) ∧ Keep w w' := by
  go_enter Tryd.func34, Tryd.ntmps34
  go_wp2
  refine bodyPost_ret (v := .agg #[.int .i64 3, .int .i64 i, .int .i64 0, .int .i64 0, .bool false, .slice none 0 0]) (by simp [results, Tryd.results34, go_sem]) rfl ⟨rfl, ?_⟩
  repeat (first | exact Keep.refl _ | apply Keep.alloc | apply Keep.drew | (refine Keep.set ?_ (by simp) _))
set_option maxHeartbeats 1000000 in
theorem kept_4 (i c n : Int) (f : Bool) (A : Option Addr) (m cp : Nat) (w : World) :
    Calls Tryd.prog 34 #[.agg #[.int .i64 4, .int .i64 i, .int .i64 c, .int .i64 n, .bool f, .slice A m cp]] w fun e w' => e = .returned (.agg #[.int .i64 4, .int .i64 i, .int .i64 c, .int .i64 n, .bool false, .slice A m cp]) ∧ Keep w w' := by
  go_enter Tryd.func34, Tryd.ntmps34
  go_wp2
  go_region
  all_goals
    go_wp2
    refine bodyPost_ret (v := .agg #[.int .i64 4, .int .i64 i, .int .i64 c, .int .i64 n, .bool false, .slice A m cp]) (by simp [results, Tryd.results34, go_sem]) rfl ⟨rfl, ?_⟩
    repeat (first | exact Keep.refl _ | apply Keep.alloc | apply Keep.drew | (refine Keep.set ?_ (by simp) _))
set_option maxHeartbeats 1000000 in
theorem kept_5 (i c n : Int) (f : Bool) (A : Option Addr) (m cp : Nat) (w : World) :
    Calls Tryd.prog 34 #[.agg #[.int .i64 5, .int .i64 i, .int .i64 c, .int .i64 n, .bool f, .slice A m cp]] w fun e w' => e = .returned (.agg #[.int .i64 5, .int .i64 i, .int .i64 0, .int .i64 0, .bool false, .slice none 0 0]) ∧ Keep w w' := by
  go_enter Tryd.func34, Tryd.ntmps34
  go_wp2
  refine bodyPost_ret (v := .agg #[.int .i64 5, .int .i64 i, .int .i64 0, .int .i64 0, .bool false, .slice none 0 0]) (by simp [results, Tryd.results34, go_sem]) rfl ⟨rfl, ?_⟩
  repeat (first | exact Keep.refl _ | apply Keep.alloc | apply Keep.drew | (refine Keep.set ?_ (by simp) _))
set_option maxHeartbeats 1000000 in
theorem kept_6 (i c n : Int) (f : Bool) (A : Option Addr) (m cp : Nat) (w : World) :
    Calls Tryd.prog 34 #[.agg #[.int .i64 6, .int .i64 i, .int .i64 c, .int .i64 n, .bool f, .slice A m cp]] w fun e w' => e = .returned (.agg #[.int .i64 6, .int .i64 0, .int .i64 0, .int .i64 n, .bool false, .slice none 0 0]) ∧ Keep w w' := by
  go_enter Tryd.func34, Tryd.ntmps34
  go_wp2
  refine bodyPost_ret (v := .agg #[.int .i64 6, .int .i64 0, .int .i64 0, .int .i64 n, .bool false, .slice none 0 0]) (by simp [results, Tryd.results34, go_sem]) rfl ⟨rfl, ?_⟩
  repeat (first | exact Keep.refl _ | apply Keep.alloc | apply Keep.drew | (refine Keep.set ?_ (by simp) _))
set_option maxHeartbeats 1000000 in
theorem kept_7 (i c n : Int) (f : Bool) (A : Option Addr) (m cp : Nat) (w : World) :
    Calls Tryd.prog 34 #[.agg #[.int .i64 7, .int .i64 i, .int .i64 c, .int .i64 n, .bool f, .slice A m cp]] w fun e w' => e = .returned (.agg #[.int .i64 7, .int .i64 0, .int .i64 0, .int .i64 0, .bool false, .slice none 0 0]) ∧ Keep w w' := by
  go_enter Tryd.func34, Tryd.ntmps34
  go_wp2
  refine bodyPost_ret (v := .agg #[.int .i64 7, .int .i64 0, .int .i64 0, .int .i64 0, .bool false, .slice none 0 0]) (by simp [results, Tryd.results34, go_sem]) rfl ⟨rfl, ?_⟩
  repeat (first | exact Keep.refl _ | apply Keep.alloc | apply Keep.drew | (refine Keep.set ?_ (by simp) _))
set_option maxHeartbeats 1000000 in
theorem kept_out (k i c n : Int) (f : Bool) (A : Option Addr) (m cp : Nat) (w : World) (h : k < 1 ∨ 7 < k) :
    Calls Tryd.prog 34 #[.agg #[.int .i64 k, .int .i64 i, .int .i64 c, .int .i64 n, .bool f, .slice A m cp]] w fun e w' => e = .returned (.agg #[.int .i64 k, .int .i64 0, .int .i64 0, .int .i64 0, .bool false, .slice none 0 0]) ∧ Keep w w' := by
  have h1 : (k == 1) = false := beq_eq_false_iff_ne.2 (by omega)
  have h2 : (k == 2) = false := beq_eq_false_iff_ne.2 (by omega)
  have h3 : (k == 3) = false := beq_eq_false_iff_ne.2 (by omega)
  have h4 : (k == 4) = false := beq_eq_false_iff_ne.2 (by omega)
  have h5 : (k == 5) = false := beq_eq_false_iff_ne.2 (by omega)
  have h6 : (k == 6) = false := beq_eq_false_iff_ne.2 (by omega)
  clear h
  go_enter Tryd.func34, Tryd.ntmps34
  go_wp2
  refine bodyPost_ret (v := .agg #[.int .i64 k, .int .i64 0, .int .i64 0, .int .i64 0, .bool false, .slice none 0 0]) (by simp [results, Tryd.results34, go_sem]) rfl ⟨rfl, ?_⟩
  repeat (first | exact Keep.refl _ | apply Keep.alloc | apply Keep.drew | (refine Keep.set ?_ (by simp) _))
theorem kept_fn (k i c n : Int) (f : Bool) (A : Option Addr) (m cp : Nat) (w : World) :
    Calls Tryd.prog 34 #[.agg #[.int .i64 k, .int .i64 i, .int .i64 c, .int .i64 n, .bool f, .slice A m cp]] w fun e w' => e = .returned (.agg #[.int .i64 k, .int .i64 (kI k i), .int .i64 (kC k c), .int .i64 (kN k n), .bool (kF k f), .slice (kA k A) (kM k m) (kM k cp)]) ∧ Keep w w' := by
  rcases kinds_or k with rfl | rfl | rfl | rfl | rfl | rfl | rfl | h
  · exact kept_1 i c n f A m cp w
  · exact kept_2 i c n f A m cp w
  · exact kept_3 i c n f A m cp w
  · exact kept_4 i c n f A m cp w
  · exact kept_5 i c n f A m cp w
  · exact kept_6 i c n f A m cp w
  · exact kept_7 i c n f A m cp w
  · rw [kI_out h, kC_out h, kN_out h, kF_out h, kA_out h, kM_out h, kM_out h]
    exact kept_out k i c n f A m cp w h
set_option maxHeartbeats 1000000 in
theorem rplain_1 (i c n : Int) (f : Bool) (A : Option Addr) (m cp : Nat) (w : World) :
    Calls Tryd.prog 18 #[.agg #[.int .i64 1, .int .i64 i, .int .i64 c, .int .i64 n, .bool f, .slice A m cp]] w fun e w' => e = .returned (.agg #[.int .i64 1, .int .i64 i, .int .i64 0, .int .i64 n, .bool f, .slice none 0 0]) ∧ Keep w w' := by
  go_enter Tryd.func18, Tryd.ntmps18
  go_wp2
  refine bodyPost_ret (v := .agg #[.int .i64 1, .int .i64 i, .int .i64 0, .int .i64 n, .bool f, .slice none 0 0]) (by simp [results, Tryd.results18, go_sem]) rfl ⟨rfl, ?_⟩
  repeat (first | exact Keep.refl _ | apply Keep.alloc | apply Keep.drew | (refine Keep.set ?_ (by simp) _))
set_option maxHeartbeats 1000000 in
theorem rplain_2 (i c n : Int) (f : Bool) (A : Option Addr) (m cp : Nat) (w : World) :
    Calls Tryd.prog 18 #[.agg #[.int .i64 2, .int .i64 i, .int .i64 c, .int .i64 n, .bool f, .slice A m cp]] w fun e w' => e = .returned (.agg #[.int .i64 2, .int .i64 i, .int .i64 0, .int .i64 0, .bool false, .slice A m cp]) ∧ Keep w w' := by
  go_enter Tryd.func18, Tryd.ntmps18
  go_wp2
  refine bodyPost_ret (v := .agg #[.int .i64 2, .int .i64 i, .int .i64 0, .int .i64 0, .bool false, .slice A m cp]) (by simp [results, Tryd.results18, go_sem]) rfl ⟨rfl, ?_⟩
  repeat (first | exact Keep.refl _ | apply Keep.alloc | apply Keep.drew | (refine Keep.set ?_ (by simp) _))
set_option maxHeartbeats 1000000 in
theorem rplain_3 (i c n : Int) (f : Bool) (A : Option Addr) (m cp : Nat) (w : World) :
    Calls Tryd.prog 18 #[.agg #[.int .i64 3, .int .i64 i, .int .i64 c, .int .i64 n, .bool f, .slice A m cp]] w fun e w' => e = .returned (.agg #[.int .i64 3, .int .i64 i, .int .i64 0, .int .i64 0, .bool false, .slice none 0 0]) ∧ Keep w w' := by
  go_enter Tryd.func18, Tryd.ntmps18
  go_wp2
  refine bodyPost_ret (v := .agg #[.int .i64 3, .int .i64 i, .int .i64 0, .int .i64 0, .bool false, .slice none 0 0]) (by simp [results, Tryd.results18, go_sem]) rfl ⟨rfl, ?_⟩
  repeat (first | exact Keep.refl _ | apply Keep.alloc | apply Keep.drew | (refine Keep.set ?_ (by simp) _))
set_option maxHeartbeats 1000000 in
theorem rplain_4 (i c n : Int) (f : Bool) (A : Option Addr) (m cp : Nat) (w : World) :
    Calls Tryd.prog 18 #[.agg #[.int .i64 4, .int .i64 i, .int .i64 c, .int .i64 n, .bool f, .slice A m cp]] w fun e w' => e = .returned (.agg #[.int .i64 4, .int .i64 i, .int .i64 c, .int .i64 n, .bool false, .slice A m cp]) ∧ Keep w w' := by
  go_enter Tryd.func18, Tryd.ntmps18
  go_wp2
  refine bodyPost_ret (v := .agg #[.int .i64 4, .int .i64 i, .int .i64 c, .int .i64 n, .bool false, .slice A m cp]) (by simp [results, Tryd.results18, go_sem]) rfl ⟨rfl, ?_⟩
  repeat (first | exact Keep.refl _ | apply Keep.alloc | apply Keep.drew | (refine Keep.set ?_ (by simp) _))
set_option maxHeartbeats 1000000 in
theorem rplain_5 (i c n : Int) (f : Bool) (A : Option Addr) (m cp : Nat) (w : World) :
    Calls Tryd.prog 18 #[.agg #[.int .i64 5, .int .i64 i, .int .i64 c, .int .i64 n, .bool f, .slice A m cp]] w fun e w' => e = .returned (.agg #[.int .i64 5, .int .i64 i, .int .i64 0, .int .i64 0, .bool false, .slice none 0 0]) ∧ Keep w w' := by
  go_enter Tryd.func18, Tryd.ntmps18
  go_wp2
  refine bodyPost_ret (v := .agg #[.int .i64 5, .int .i64 i, .int .i64 0, .int .i64 0, .bool false, .slice none 0 0]) (by simp [results, Tryd.results18, go_sem]) rfl ⟨rfl, ?_⟩
  repeat (first | exact Keep.refl _ | apply Keep.alloc | apply Keep.drew | (refine Keep.set ?_ (by simp) _))
set_option maxHeartbeats 1000000 in
theorem rplain_6 (i c n : Int) (f : Bool) (A : Option Addr) (m cp : Nat) (w : World) :
    Calls Tryd.prog 18 #[.agg #[.int .i64 6, .int .i64 i, .int .i64 c, .int .i64 n, .bool f, .slice A m cp]] w fun e w' => e = .returned (.agg #[.int .i64 6, .int .i64 0, .int .i64 0, .int .i64 n, .bool false, .slice none 0 0]) ∧ Keep w w' := by
  go_enter Tryd.func18, Tryd.ntmps18
  go_wp2
  refine bodyPost_ret (v := .agg #[.int .i64 6, .int .i64 0, .int .i64 0, .int .i64 n, .bool false, .slice none 0 0]) (by simp [results, Tryd.results18, go_sem]) rfl ⟨rfl, ?_⟩
  repeat (first | exact Keep.refl _ | apply Keep.alloc | apply Keep.drew | (refine Keep.set ?_ (by simp) _))
set_option maxHeartbeats 1000000 in
theorem rplain_7 (i c n : Int) (f : Bool) (A : Option Addr) (m cp : Nat) (w : World) :
    Calls Tryd.prog 18 #[.agg #[.int .i64 7, .int .i64 i, .int .i64 c, .int .i64 n, .bool f, .slice A m cp]] w fun e w' => e = .returned (.agg #[.int .i64 7, .int .i64 0, .int .i64 0, .int .i64 0, .bool false, .slice none 0 0]) ∧ Keep w w' := by
  go_enter Tryd.func18, Tryd.ntmps18
  go_wp2
  refine bodyPost_ret (v := .agg #[.int .i64 7, .int .i64 0, .int .i64 0, .int .i64 0, .bool false, .slice none 0 0]) (by simp [results, Tryd.results18, go_sem]) rfl ⟨rfl, ?_⟩
  repeat (first | exact Keep.refl _ | apply Keep.alloc | apply Keep.drew | (refine Keep.set ?_ (by simp) _))
set_option maxHeartbeats 1000000 in
theorem rplain_out (k i c n : Int) (f : Bool) (A : Option Addr) (m cp : Nat) (w : World) (h : k < 1 ∨ 7 < k) :
    Calls Tryd.prog 18 #[.agg #[.int .i64 k, .int .i64 i, .int .i64 c, .int .i64 n, .bool f, .slice A m cp]] w fun e w' => e = .returned (.agg #[.int .i64 k, .int .i64 0, .int .i64 0, .int .i64 0, .bool false, .slice none 0 0]) ∧ Keep w w' := by
  have h1 : (k == 1) = false := beq_eq_false_iff_ne.2 (by omega)
  have h2 : (k == 2) = false := beq_eq_false_iff_ne.2 (by omega)
  have h3 : (k == 3) = false := beq_eq_false_iff_ne.2 (by omega)
  have h4 : (k == 4) = false := beq_eq_false_iff_ne.2 (by omega)
  have h5 : (k == 5) = false := beq_eq_false_iff_ne.2 (by omega)
  have h6 : (k == 6) = false := beq_eq_false_iff_ne.2 (by omega)
  rcases h with h | h
  · go_enter Tryd.func18, Tryd.ntmps18
    go_wp2
    refine bodyPost_ret (v := .agg #[.int .i64 k, .int .i64 0, .int .i64 0, .int .i64 0, .bool false, .slice none 0 0]) (by simp [results, Tryd.results18, go_sem]) rfl ⟨rfl, ?_⟩
    repeat (first | exact Keep.refl _ | apply Keep.alloc | apply Keep.drew | (refine Keep.set ?_ (by simp) _))
  · go_enter Tryd.func18, Tryd.ntmps18
    go_wp2
    refine bodyPost_ret (v := .agg #[.int .i64 k, .int .i64 0, .int .i64 0, .int .i64 0, .bool false, .slice none 0 0]) (by simp [results, Tryd.results18, go_sem]) rfl ⟨rfl, ?_⟩
    repeat (first | exact Keep.refl _ | apply Keep.alloc | apply Keep.drew | (refine Keep.set ?_ (by simp) _))
theorem rplain_fn (k i c n : Int) (f : Bool) (A : Option Addr) (m cp : Nat) (w : World) :
    Calls Tryd.prog 18 #[.agg #[.int .i64 k, .int .i64 i, .int .i64 c, .int .i64 n, .bool f, .slice A m cp]] w fun e w' => e = .returned (.agg #[.int .i64 k, .int .i64 (kI k i), .int .i64 (kC k c), .int .i64 (kN k n), .bool (kF k f), .slice (kA k A) (kM k m) (kM k cp)]) ∧ Keep w w' := by
  rcases kinds_or k with rfl | rfl | rfl | rfl | rfl | rfl | rfl | h
  · exact rplain_1 i c n f A m cp w
  · exact rplain_2 i c n f A m cp w
  · exact rplain_3 i c n f A m cp w
  · exact rplain_4 i c n f A m cp w
  · exact rplain_5 i c n f A m cp w
  · exact rplain_6 i c n f A m cp w
  · exact rplain_7 i c n f A m cp w
  · rw [kI_out h, kC_out h, kN_out h, kF_out h, kA_out h, kM_out h, kM_out h]
    exact rplain_out k i c n f A m cp w h
end Go.Proofs.YtflkeabjcbjkhaaDoor
