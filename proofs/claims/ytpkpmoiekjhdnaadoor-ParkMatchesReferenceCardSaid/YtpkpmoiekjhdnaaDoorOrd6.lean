/-
  The comparison of pods, a closure that combines keys. No condition.
-/
import Derived.Test.YtpkpmoiekjhdnaaDoorPod6
import Derived.Deep.RegionHeld3
namespace Go.Proofs.YtpkpmoiekjhdnaaDoor
open Go.RowKit Go.Sort Go.Lib

def cmpI (a b : Int) : Int := if a < b then -1 else if b < a then 1 else 0
theorem cmpI_range (a b : Int) : -1 ≤ cmpI a b ∧ cmpI a b ≤ 1 := by
  unfold cmpI
  repeat' split
  all_goals omega

set_option maxHeartbeats 1000000 in
theorem key1_fn (x : PodV) (w : World) : Calls Tryd.prog 39 #[x.val] w fun e w' => e = .returned (.int .i64 x.p) ∧ Gr w w' := by
  unfold PodV.val
  go_enter Tryd.func39, Tryd.ntmps39
  go_wp2
  go_ret
  exact ⟨rfl, Gr.one _ _⟩
set_option maxHeartbeats 1000000 in
theorem key2_fn (x : PodV) (w : World) : Calls Tryd.prog 40 #[x.val] w fun e w' => e = .returned (.int .i64 x.a) ∧ Gr w w' := by
  unfold PodV.val
  go_enter Tryd.func40, Tryd.ntmps40
  go_wp2
  go_ret
  exact ⟨rfl, Gr.one _ _⟩
set_option maxHeartbeats 1000000 in
theorem key3_fn (x : PodV) (w : World) : Calls Tryd.prog 41 #[x.val] w fun e w' => e = .returned (.int .i64 x.k) ∧ Gr w w' := by
  unfold PodV.val
  go_enter Tryd.func41, Tryd.ntmps41
  go_wp2
  go_ret
  exact ⟨rfl, Gr.one _ _⟩
set_option maxHeartbeats 1000000 in
theorem nan_fn (x : Int) (w : World) : Calls Tryd.prog 49 #[.int .i64 x] w fun e w' => e = .returned (.bool false) ∧ w = w' := by
  go_enter Tryd.func49, Tryd.ntmps49
  go_wp2
  go_ret
  exact ⟨rfl, rfl⟩
set_option maxHeartbeats 1000000 in
theorem compare_fn (x y : Int) (w : World) : Calls Tryd.prog 47 #[.int .i64 x, .int .i64 y] w fun e w' => e = .returned (.int .i64 (cmpI x y)) ∧ w = w' := by
  by_cases h1 : x < y
  · rw [show cmpI x y = -1 from if_pos h1]
    go_enter Tryd.func47, Tryd.ntmps47
    go_wp2_with fail
    refine (nan_fn x w).mono ?_
    rintro e w1 ⟨rfl, rfl⟩
    go_wp2_with fail
    refine (nan_fn y w).mono ?_
    rintro e w1 ⟨rfl, rfl⟩
    go_wp2
    go_ret
    exact ⟨rfl, rfl⟩
  · by_cases h2 : y < x
    · rw [show cmpI x y = 1 from (if_neg h1).trans (if_pos h2)]
      go_enter Tryd.func47, Tryd.ntmps47
      go_wp2_with fail
      refine (nan_fn x w).mono ?_
      rintro e w1 ⟨rfl, rfl⟩
      go_wp2_with fail
      refine (nan_fn y w).mono ?_
      rintro e w1 ⟨rfl, rfl⟩
      go_wp2
      go_ret
      exact ⟨rfl, rfl⟩
    · rw [show cmpI x y = 0 from (if_neg h1).trans (if_neg h2)]
      go_enter Tryd.func47, Tryd.ntmps47
      go_wp2_with fail
      refine (nan_fn x w).mono ?_
      rintro e w1 ⟨rfl, rfl⟩
      go_wp2_with fail
      refine (nan_fn y w).mono ?_
      rintro e w1 ⟨rfl, rfl⟩
      go_wp2
      go_ret
      exact ⟨rfl, rfl⟩

/-- The first of three that is not 0. -/
def or3 (x y z : Int) : Int := if x ≠ 0 then x else if y ≠ 0 then y else z
set_option maxHeartbeats 2000000 in
theorem or_fn (b c : Nat) (x y z : Int) (w : World) (h0 : w.cell? ⟨b, 0, none⟩ = some (.int .i64 x)) (h1 : w.cell? ⟨b, 1, none⟩ = some (.int .i64 y)) (h2 : w.cell? ⟨b, 2, none⟩ = some (.int .i64 z)) :
    Calls Tryd.prog 43 #[.slice (some ⟨b, 0, none⟩) 3 c] w fun e w' => e = .returned (.int .i64 (or3 x y z)) ∧ w = w' := by
  go_enter Tryd.func43, Tryd.ntmps43
  go_wp2
  go_loopg [8] 3 (fun gx i wr => ∃ j : Nat, j ≤ 3 ∧ gx = 3 - j ∧ i = .int .i64 j ∧ Hid (w = wr) ∧ Hid ((0 < j → x = 0) ∧ (1 < j → y = 0) ∧ (2 < j → z = 0)))
  case atStart => exact ⟨0, by omega, rfl, rfl, rfl, ⟨fun h => by omega, fun h => by omega, fun h => by omega⟩⟩
  case round =>
    obtain ⟨j, hj, rfl, rfl, hw, HI⟩ := hrel
    have hw := hw.out
    subst hw
    obtain rfl | rfl | rfl | rfl : j = 0 ∨ j = 1 ∨ j = 2 ∨ j = 3 := by omega
    · by_cases hx : x = 0
      · have H1 := Lib.hid hx
        have hb : (x != 0) = false := by simp [hx]
        clear hx
        go_wp2
        go_roundg 2
        case measure => omega
        case rel => exact ⟨1, by omega, rfl, rfl, rfl, ⟨fun _ => H1.out, fun h => by omega, fun h => by omega⟩⟩
      · have hb : (x != 0) = true := by simpa using hx
        have e : Hid (or3 x y z = x) := if_pos hx
        go_wp2
        go_ret
        exact ⟨by rw [e.out]; rfl, rfl⟩
    · by_cases hx : y = 0
      · have H1 := Lib.hid hx
        have hb : (y != 0) = false := by simp [hx]
        clear hx
        go_wp2
        go_roundg 1
        case measure => omega
        case rel => exact ⟨2, by omega, rfl, rfl, rfl, ⟨fun _ => HI.out.1 (by omega), fun _ => H1.out, fun h => by omega⟩⟩
      · have hb : (y != 0) = true := by simpa using hx
        have e : Hid (or3 x y z = y) := by show _ = _; unfold or3; rw [if_neg (by simp [HI.out.1 (by omega)]), if_pos hx]
        go_wp2
        go_ret
        exact ⟨by rw [e.out]; rfl, rfl⟩
    · by_cases hx : z = 0
      · have H1 := Lib.hid hx
        have hb : (z != 0) = false := by simp [hx]
        clear hx
        go_wp2
        go_roundg 0
        case measure => omega
        case rel => exact ⟨3, by omega, rfl, rfl, rfl, ⟨fun _ => HI.out.1 (by omega), fun _ => HI.out.2.1 (by omega), fun _ => H1.out⟩⟩
      · have hb : (z != 0) = true := by simpa using hx
        have e : Hid (or3 x y z = z) := by show _ = _; unfold or3; rw [if_neg (by simp [HI.out.1 (by omega)]), if_neg (by simp [HI.out.2.1 (by omega)])]
        go_wp2
        go_ret
        exact ⟨by rw [e.out]; rfl, rfl⟩
    · have e : Hid (or3 x y z = 0) := by show _ = _; unfold or3; rw [if_neg (by simp [HI.out.1 (by omega)]), if_neg (by simp [HI.out.2.1 (by omega)]), HI.out.2.2 (by omega)]
      go_wp2
      go_ret
      exact ⟨by rw [e.out]; rfl, rfl⟩
end Go.Proofs.YtpkpmoiekjhdnaaDoor
