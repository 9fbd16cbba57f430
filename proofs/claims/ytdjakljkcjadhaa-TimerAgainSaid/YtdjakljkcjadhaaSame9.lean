/-
  The law's same: two rows of the same timers are the same. No condition.
-/
import Derived.Test.YtdjakljkcjadhaaCon9
namespace Go.Proofs.Ytdjakljkcjadhaa.T9
open Go.RowKit Go.Sort Go.Lib

set_option maxRecDepth 100000 in
set_option maxHeartbeats 4000000 in
theorem same_fn (A B : Option Addr) (n c d : Nat) (P R : Nat → TmV) (w : World) (hA : RdT w A n P) (hB : RdT w B n R) (he : ∀ j, j < n → P j = R j) :
    Calls Try.prog 12 #[.slice A n c, .slice B n d] w fun e w' => e = .returned (.bool true) ∧ Keep w w' := by
  have mixed : Try.prog.follows .mixedOrders = true := by kernel_rfl
  have hn := hA.small
  replace hA := Lib.hid hA
  replace hB := Lib.hid (hB.congr (fun j hj => (he j hj).symm))
  clear he
  go_enter Try.func12, Try.ntmps12
  go_wp2
  go_loopg [5] n (fun gx s5 wr => ∃ j : Nat, j ≤ n ∧ gx = n - j ∧ s5 = .int .i64 j ∧ Hid (Gr w wr))
  case atStart => exact ⟨0, Nat.zero_le _, rfl, rfl, Gr.refl _⟩
  case round =>
    obtain ⟨j, hj, rfl, rfl, G⟩ := hrel
    by_cases hlt : j < n
    · obtain ⟨b, off, hA2, ca⟩ := (hA.out.keep G.out.keep).adr (by omega)
      obtain ⟨b', off', hB2, cb⟩ := (hB.out.keep G.out.keep).adr (by omega)
      subst hA2
      subst hB2
      have q1 := atT b off n c j hlt
      have q2 := atR b' off' n d j hlt
      have X := ca j hlt
      have Y := cb j hlt
      clear ca cb
      obtain ⟨x, hx⟩ : ∃ x, x = P j := ⟨_, rfl⟩
      rw [← hx] at X Y
      replace hx := Lib.hid hx
      have x0 := X.e0; have x1 := X.e1; have x2 := X.e2
      have y0 := Y.e0; have y1 := Y.e1; have y2 := Y.e2
      clear X Y
      go_wp2_with fail
      go_quiet (fail)
      have G2 : Hid (Gr w (wr.drewN nq)) := G.out.drewN nq
      clear x0 x1 x2 y0 y1 y2
      generalize wr.drewN nq = w2 at G2 ⊢
      go_wp2
      go_roundg (n - (j + 1))
      case measure => omega
      case rel => exact ⟨j + 1, hlt, rfl, by go_num, G2⟩
    · obtain rfl : j = n := by omega
      go_wp2
      go_ret
      exact ⟨rfl, G.out.keep⟩
end Go.Proofs.Ytdjakljkcjadhaa.T9
