/-
  The reference's Few. No condition.
-/
import Derived.Test.YtnaeabfmgfipoaaGreatDoorTLinesLaw
namespace Go.Proofs.YtnaeabfmgfipoaaGreatDoor
open Go.RowKit Go.Extern.Stop Go.Stop Go.Extern

def fewB (n : Nat) (P : Nat → OpV) : Bool := decide ((∀ j, j < n → (P j).m ≤ 20) ∧ n ≤ 300)
set_option maxRecDepth 100000 in
set_option maxHeartbeats 4000000 in
theorem rfew_fn (A : Option Addr) (n cp : Nat) (P : Nat → OpV) (w : World) (hP : RdOps w A n P) (hn63 : n ≤ 9223372036854775807) (hm63 : ∀ j, j < n → (P j).m ≤ 9223372036854775807) : Calls Tryz.prog 17 #[.slice A n cp] w fun e w' => e = .returned (.bool (fewB n P)) ∧ w = w' := by
  replace hP := Lib.hid hP
  replace hm63 := Lib.hid hm63
  go_enter Tryz.func17, Tryz.ntmps17
  go_wp2
  go_loopg [3] (n) (fun g iv wr => ∃ (q : Nat), q ≤ n ∧ g = n - q ∧ iv = .int .i64 q ∧ w = wr ∧ Hid (∀ j, j < q → (P j).m ≤ 20))
  case atStart => exact ⟨0, Nat.zero_le _, rfl, rfl, rfl, fun j hj => by omega⟩
  case round =>
    obtain ⟨q, hq, rfl, rfl, rfl, hd⟩ := hrel
    by_cases hqn : q < n
    · obtain ⟨ab, ao, hAe, hcell⟩ := hP.out.adr (by omega)
      have hia := ops_at A n cp q ab ao hAe hqn
      have c5 := hcell q hqn 5 _ rfl
      clear hcell
      replace hAe := Lib.hid hAe
      by_cases hm : (P q).m ≤ 20
      · have hd1 : decide (((P q).m : Int) > 20) = false := decide_eq_false (by omega)
        have hd2 : Hid (∀ j, j < q + 1 → (P j).m ≤ 20) := fun j hj => by
          by_cases he : j = q
          · rw [he]; exact hm
          · exact hd.out j (by omega)
        go_wp2
        go_roundg (n - (q + 1))
        case measure => omega
        case rel => exact ⟨q + 1, by omega, rfl, by go_num, rfl, hd2⟩
      · have hd1 : decide (((P q).m : Int) > 20) = true := decide_eq_true (by omega)
        have hf : Hid (fewB n P = false) := decide_eq_false (fun h => hm (h.1 q hqn))
        go_wp2
        go_ret
        rw [hf.out]
        exact ⟨rfl, rfl⟩
    · obtain rfl : q = n := by omega
      by_cases h3 : q ≤ 300
      · have hd1 : decide ((q : Int) ≤ 300) = true := decide_eq_true (by omega)
        have hf : Hid (fewB q P = true) := decide_eq_true ⟨hd.out, h3⟩
        go_wp2
        go_ret
        rw [hf.out]
        exact ⟨rfl, rfl⟩
      · have hd1 : decide ((q : Int) ≤ 300) = false := decide_eq_false (by omega)
        have hf : Hid (fewB q P = false) := decide_eq_false (fun h => h3 h.2)
        go_wp2
        go_ret
        rw [hf.out]
        exact ⟨rfl, rfl⟩
end Go.Proofs.YtnaeabfmgfipoaaGreatDoor
