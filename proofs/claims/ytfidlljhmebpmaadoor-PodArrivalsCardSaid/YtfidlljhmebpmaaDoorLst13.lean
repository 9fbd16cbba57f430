/-
  The store's filters and what its lists begin with. No condition.
-/
import Derived.Test.YtfidlljhmebpmaaDoorIter13
namespace Go.Proofs.YtfidlljhmebpmaaDoor.T13
open Go.RowKit Go.Sort Go.Lib Go.Shelf V12

def placed (p : Int) : Bool := decide (2 ≤ p ∧ p ≤ 4)
theorem traits_fn (p : Int) (w : World) : Calls Tryd.prog 50 #[.int .i64 p] w fun e w' => (∃ a b, e = .returned (.tuple #[.bool a, .bool b, .bool (placed p)])) ∧ w = w' := by
  by_cases h2 : p = 2
  · subst h2
    go_enter Tryd.func50, Tryd.ntmps50
    go_wp2
    go_ret3
    exact ⟨⟨_, _, rfl⟩, rfl⟩
  by_cases h1 : p = 1
  · subst h1
    go_enter Tryd.func50, Tryd.ntmps50
    go_wp2
    go_ret3
    exact ⟨⟨_, _, rfl⟩, rfl⟩
  by_cases h3 : p = 3
  · subst h3
    go_enter Tryd.func50, Tryd.ntmps50
    go_wp2
    go_ret3
    exact ⟨⟨_, _, rfl⟩, rfl⟩
  by_cases h4 : p = 4
  · subst h4
    go_enter Tryd.func50, Tryd.ntmps50
    go_wp2
    go_ret3
    exact ⟨⟨_, _, rfl⟩, rfl⟩
  have e3 : placed p = false := decide_eq_false (by omega)
  rw [e3]
  go_enter Tryd.func50, Tryd.ntmps50
  go_wp2
  go_ret3
  exact ⟨⟨_, _, rfl⟩, rfl⟩
theorem placed_fn (p : Int) (w : World) : Calls Tryd.prog 38 #[.int .i64 p] w fun e w' => e = .returned (.bool (placed p)) ∧ w = w' := by
  have hT := traits_fn p w
  generalize placed p = z at *
  go_enter Tryd.func38, Tryd.ntmps38
  go_wp2_with fail
  refine hT.mono ?_
  rintro e w1 ⟨⟨a, b, rfl⟩, rfl⟩
  go_wp2
  go_ret
  exact ⟨rfl, rfl⟩
theorem all1_fn (x : PodV) (w : World) : Calls Tryd.prog 33 #[x.val] w fun e w' => e = .returned (.bool true) ∧ Keep w w' := by
  unfold PodV.val
  go_enter Tryd.func33, Tryd.ntmps33
  go_wp2
  go_ret
  exact ⟨rfl, Keep.one _ _⟩
set_option maxHeartbeats 1000000 in
theorem in1_fn (x : PodV) (b : Nat) (p : Int) (w : World) (hc : w.cell? ⟨b, 0, none⟩ = some (.int .i64 p)) : Calls Tryd.prog 51 #[x.val, .pointer (some ⟨b, 0, none⟩)] w fun e w' => e = .returned (.bool (withB p x)) ∧ Keep w w' := by
  have c1 := (Keep.one w (.cells (podB x) 32)).cell hc
  unfold podB at c1
  unfold PodV.val withB
  go_enter Tryd.func51, Tryd.ntmps51
  go_wp2
  go_ret
  exact ⟨rfl, Keep.one _ _⟩
set_option maxHeartbeats 1000000 in
theorem on1_fn (x : PodV) (b : Nat) (nd : Int) (w : World) (hc : w.cell? ⟨b, 0, none⟩ = some (.int .i64 nd)) : Calls Tryd.prog 37 #[x.val, .pointer (some ⟨b, 0, none⟩)] w fun e w' => e = .returned (.bool (onB nd x)) ∧ Keep w w' := by
  have c1 := (Keep.one w (.cells (podB x) 32)).cell hc
  have hP := Lib.hid (fun W => placed_fn x.h W)
  unfold podB at c1
  unfold PodV.val
  by_cases h : x.d = nd
  · have e : onB nd x = placed x.h := by unfold onB placed; simp [h]
    have hd : decide (x.d = nd) = true := decide_eq_true h
    rw [e]
    generalize placed x.h = z at *
    replace h := Lib.hid h
    replace e := Lib.hid e
    go_enter Tryd.func37, Tryd.ntmps37
    go_wp2_with fail
    refine (hP.out _).mono ?_
    rintro e w1 ⟨rfl, rfl⟩
    go_wp2
    go_ret
    exact ⟨rfl, Keep.one _ _⟩
  · have e : onB nd x = false := decide_eq_false fun h2 => h h2.1
    rw [e]
    go_enter Tryd.func37, Tryd.ntmps37
    go_wp2
    go_ret
    exact ⟨rfl, Keep.one _ _⟩
theorem hmf (fn : Fn) (first cap : Array Value) (w : World) : (Instr.makeFunc fn first cap).run Tryd.prog w = .ok (.func fn first cap) w := rfl
theorem podin_fn (p : Int) (w : World) : Calls Tryd.prog 39 #[.int .i64 p] w fun e w' => e = .returned (.func (.func 51) #[] #[.pointer (some ⟨w.heap.size, 0, none⟩)]) ∧ w' = w.alloc (.cells #[.int .i64 p] 3) := by
  have h1 := hmf
  go_enter Tryd.func39, Tryd.ntmps39
  go_wp2
  go_ret
  exact ⟨rfl, rfl⟩
theorem each_fn (P : Option Addr) (F : Value) (w : World) (hF : ∃ kf caps, F = .func (.func kf) #[] caps) : Calls Tryd.prog 40 #[.pointer P, F] w fun e w' => e = .returned (.func (.func 52) #[] #[.pointer (some ⟨w.heap.size, 0, none⟩), .pointer (some ⟨w.heap.size + 1, 0, none⟩)]) ∧ w' = (w.alloc (.cells #[.pointer P] 23)).alloc (.cells #[F] 67) := by
  have h1 := hmf
  obtain ⟨kf, caps, rfl⟩ := hF
  go_enter Tryd.func40, Tryd.ntmps40
  go_wp2
  go_ret
  exact ⟨rfl, rfl⟩
/-- A row of pods that speaks of cells alone. -/
theorem RowP.own' {X Y : World} {base n : Nat} {v : Value} {Q : Nat → PodV} {row : Option Nat} (h : RowP X base v n Q) (hg : X.grownBy Y row) (hr : ∀ r, row = some r → ∃ o : Obj, X.heap[r]? = some o ∧ o.isCells = false) : RowP Y base v n Q := by
  have key : ∀ {e : TypeId} {z k : Nat} {u : Value} {xs : List Value}, X.ownsRow base e z u k xs → Y.ownsRow base e z u k xs := fun h => own_blocks1 h fun g hg2 => hg.block g (h.lt g hg2).2 fun e => by
    obtain ⟨o, ho, hc⟩ := hr g e.symm
    obtain ⟨cur, e2⟩ := row_kind h hg2
    rw [e2] at ho
    cases ho
    cases hc
  exact ⟨key h.row, fun j hj => key (h.own j hj), h.ok⟩
end Go.Proofs.YtfidlljhmebpmaaDoor.T13
