/-
  The law's awake returns true. Condition: the table of names holds its own.
-/
import Derived.Test.YtpjaalloenapbaaDoorRef5
namespace Go.Proofs.YtpjaalloenapbaaDoor
open Go.RowKit Go.Extern.Stop Go.Stop Go.Extern

/-- A row of numbers that was just laid. -/
theorem Rd.lits {w : World} {T : TypeId} (l : List Int) (hl : l.length ≤ 9223372036854775807) (h : ∀ x ∈ l, -9223372036854775808 ≤ x ∧ x ≤ 9223372036854775807) (xs : Array Value) (hx : xs = (l.map (Value.int .i64)).toArray) :
    Rd (w.alloc (.cells xs T)) (some ⟨w.heap.size, 0, none⟩) l.length (fun j => l.getD j 0) := by
  subst hx
  refine ⟨hl, fun k hk => ?_, fun _ => ⟨w.heap.size, 0, rfl, fun j hj => ?_⟩⟩
  · rw [List.getD_eq_getElem?_getD, List.getElem?_eq_getElem hk]
    exact h _ (List.getElem_mem hk)
  · rw [Nat.zero_add, World.cell?_alloc_new]
    simp [hj]
theorem run_124 : runP 1 (fun j => [2, 1, 4].getD j 0) 3 = (4, 3) := by decide +kernel
theorem par_bound : par ⟨#[98, 111, 117, 110, 100]⟩ = 3 := by decide +kernel

set_option maxRecDepth 100000 in
set_option maxHeartbeats 4000000 in
theorem awake_true (w : World) (hv : V5 w) : Calls Tryd.prog 8 #[] w fun e w' => e = .returned (.bool true) ∧ Keep w w' := by
  replace hv := Lib.hid hv
  have hR := Lib.hid (Rd.lits (w := w) (T := 3) [2, 1, 4] (by decide) (by decide) #[.int .i64 2, .int .i64 1, .int .i64 4] rfl)
  go_enter Tryd.func8, Tryd.ntmps8
  go_wp2_with fail
  refine (run_fn 1 _ 3 3 _ _ hR.out).mono ?_
  rintro e w1 ⟨rfl, k1⟩
  have e1 := run_124
  rw [e1]
  clear e1
  have K1 := Lib.hid ((Keep.one w _).trans k1)
  replace k1 := Lib.hid k1
  clear hR
  go_wp2_with fail
  refine (next_fn 5 5 _).mono ?_
  rintro e w2 ⟨rfl, k2⟩
  have e1 : nxt 5 5 = 0 := rfl
  rw [e1]
  clear e1
  have K2 := Lib.hid (K1.out.trans k2)
  replace k2 := Lib.hid k2
  go_wp2_with fail
  refine (parse_fn _ _ (hv.out.keep K2.out)).mono ?_
  rintro e w3 ⟨rfl, rfl⟩
  rw [par_bound]
  go_wp2_with fail
  refine (name_fn 5 _ (hv.out.keep K2.out)).mono ?_
  rintro e w3 ⟨rfl, rfl⟩
  obtain ⟨y, hy⟩ : ∃ y, y = nm 5 := ⟨_, rfl⟩
  rw [← hy]
  have hq : (y.toList == [103, 111, 110, 101]) = true := by rw [hy]; decide +kernel
  replace hy := Lib.hid hy
  go_wp2_with fail
  refine (waits_fn 2 _).mono ?_
  rintro e w3 ⟨rfl, rfl⟩
  go_wp2_with fail
  refine (holds_fn 4 _).mono ?_
  rintro e w3 ⟨rfl, rfl⟩
  go_wp2_with fail
  refine (placed_fn 2 _).mono ?_
  rintro e w3 ⟨rfl, rfl⟩
  go_wp2_with fail
  refine (holds_fn 2 _).mono ?_
  rintro e w3 ⟨rfl, rfl⟩
  go_wp2
  go_ret
  exact ⟨rfl, K2.out⟩
end Go.Proofs.YtpjaalloenapbaaDoor
