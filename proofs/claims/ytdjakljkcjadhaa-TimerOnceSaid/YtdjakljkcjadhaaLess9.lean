/-
  Less of a list's heap. Condition: both places lie in the list.
-/
import Derived.Test.YtdjakljkcjadhaaQ9
namespace Go.Proofs.Ytdjakljkcjadhaa.T9
open Go.RowKit Go.Sort Go.Lib Go.Shelf

set_option maxRecDepth 100000 in
set_option maxHeartbeats 8000000 in
theorem hless_fn {w : World} {b bq B : Nat} {A : Option Addr} {c n : Nat} {Q : Nat → TmV} (h : TMem w b bq B A c n Q) (i j : Nat) (hi : i < n) (hj : j < n) :
    Calls Try.prog 72 #[.pointer (some ⟨bq, 0, none⟩), .int .i64 i, .int .i64 j] w fun e w' => e = .returned (.bool (befT (Q i) (Q j))) ∧ Keep w w' := by
  have mixed : Try.prog.follows .mixedOrders = true := by kernel_rfl
  obtain ⟨g, rfl, hg⟩ := h.at (by omega)
  have c0 := h.e0
  have X := (hg i hi).1
  have Y := (hg j hj).1
  have kb := fun W => tcompare_fn (Q i) (Q j) W
  have q1 := atT g 0 n c i hi
  have q2 := atT g 0 n c j hj
  rw [Nat.zero_add] at q1 q2
  clear h hg
  rw [← cmp_bef]
  generalize Q i = x at *
  generalize Q j = y at *
  generalize cmpT x y = r at kb ⊢
  unfold TmV.val Gr at kb
  replace kb := Lib.hid kb
  have c0 := grows c0
  have x0 := grows X.e0; have x1 := grows X.e1; have x2 := grows X.e2
  have y0 := grows Y.e0; have y1 := grows Y.e1; have y2 := grows Y.e2
  clear X Y
  go_enter Try.func72, Try.ntmps72
  go_wp2_with fail
  refine wp_region_quiet_grown (by assumption) (by kernel_rfl) ?_
  repeat (go_big_quiet_step (first | (go_at_call 25; with_reducible refine Calls.grown_of (kb.out _))))
  refine wpQuiet_nil ?_
  intro _ hw'
  obtain ⟨⟨nq, osq⟩, hw''⟩ := hw'
  subst hw''
  clear x0 x1 x2 y0 y1 y2 c0 kb
  go_wp2
  go_ret
  exact ⟨rfl, Gr.keep ⟨nq, osq, rfl⟩⟩
end Go.Proofs.Ytdjakljkcjadhaa.T9
