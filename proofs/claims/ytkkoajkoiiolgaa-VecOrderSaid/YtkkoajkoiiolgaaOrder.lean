/-
  The walk of VecOrder: it answers true for every input. No condition.
-/
import Derived.Test.YtkkoajkoiiolgaaPair
namespace Go.Proofs.Ytkkoajkoiiolgaa
open Go.RowKit

theorem fits_trans {n m l : Nat} {Z Y X : Nat → Int} (h1 : fitsB n Z m Y = true) (h2 : fitsB m Y l X = true) : fitsB n Z l X = true := by
  unfold fitsB at h1 h2 ⊢
  obtain ⟨rfl, g1⟩ := of_decide_eq_true h1
  obtain ⟨rfl, g2⟩ := of_decide_eq_true h2
  exact decide_eq_true ⟨rfl, fun k hk => by have := g1 k hk; have := g2 k hk; omega⟩
theorem fits_add {n m : Nat} {Z Y X : Nat → Int} : fitsB n (fun k => Z k + X k) m (fun k => Y k + X k) = fitsB n Z m Y := by
  unfold fitsB
  rw [decide_eq_decide]
  exact ⟨fun h => ⟨h.1, fun k hk => by have h2 : Z k + X k ≤ Y k + X k := h.2 k hk; omega⟩, fun h => ⟨h.1, fun k hk => by have := h.2 k hk; show Z k + X k ≤ Y k + X k; omega⟩⟩

set_option maxHeartbeats 1000000 in
theorem order_long (A B C : Option Addr) (n m l ca cb cc : Nat) (w : World) (h : 100 < n ∨ (n ≤ 100 ∧ 100 < m) ∨ (n ≤ 100 ∧ m ≤ 100 ∧ 100 < l)) :
    Calls Try.prog 7 #[.slice A n ca, .slice B m cb, .slice C l cc] w fun e w' => e = .returned (.bool true) ∧ Keep w w' := by
  rcases h with h | ⟨h1, h⟩ | ⟨h1, h2, h⟩
  all_goals
    go_enter Try.func7, Try.ntmps7
    go_wp2_with (go_at_call 9; refine (awake_fn _).mono ?_; rintro e w1 ⟨rfl, hk⟩)
    go_ret
    exact ⟨rfl, Keep.trans (by assumption) (by assumption)⟩

set_option maxHeartbeats 2000000 in
theorem order_short (A B C : Option Addr) (n m l ca cb cc : Nat) (Z Y X : Nat → Int) (w : World) (hA : Rd w A n Z) (hB : Rd w B m Y) (hC : Rd w C l X) (h1 : n ≤ 100) (h2 : m ≤ 100) (h3 : l ≤ 100) :
    Calls Try.prog 7 #[.slice A n ca, .slice B m cb, .slice C l cc] w fun e w' => e = .returned (.bool true) ∧ Keep w w' := by
  -- the second half, from any world
  go_enter Try.func7, Try.ntmps7
  go_wp2_with fail
  refine (awake_fn _).mono ?_
  rintro e w1 ⟨rfl, hk⟩
  replace hA := hA.keep hk
  replace hB := hB.keep hk
  replace hC := hC.keep hk
  cases e1 : fitsB n Z m Y
  · skip
    replace e1 : Hid (fitsB n Z m Y = false) := e1
    go_wp2_with fail
    refine (fits_k hA hB false e1.out).mono ?_
    rintro e w2 ⟨rfl, hk2⟩
    replace hA := hA.keep hk2
    replace hB := hB.keep hk2
    replace hC := hC.keep hk2
    replace hk := hk.trans hk2
    clear hk2
    go_wp2_with fail
    by_cases o1 : Add2Ok n l Z X
    · replace o1 : Hid (Add2Ok n l Z X) := o1
      refine (add2_yes _ _ n l _ _ Z X _ (Rds.two rfl hA hC) (by omega) (by omega) o1.out).mono ?_
      rintro e w4 ⟨B1, rfl, hk4, hx⟩
      replace hk4 := Keep.ofAlloc _ hk4
      replace hA := hA.keep hk4
      replace hB := hB.keep hk4
      replace hC := hC.keep hk4
      replace hk := hk.trans hk4
      clear hk4
      go_wp2_with fail
      by_cases o2 : Add2Ok m l Y X
      · replace o2 : Hid (Add2Ok m l Y X) := o2
        refine (add2_yes _ _ m l _ _ Y X _ (Rds.two rfl hB hC) (by omega) (by omega) o2.out).mono ?_
        rintro e w5 ⟨B2, rfl, hk5, hy⟩
        replace hk5 := Keep.ofAlloc _ hk5
        replace hA := hA.keep hk5
        replace hB := hB.keep hk5
        replace hx := hx.keep hk5
        replace hk := hk.trans hk5
        clear hk5
        go_wp2_with fail
        refine (fits_k hx hy _ (fits_add.trans e1.out)).mono ?_
        rintro e w6 ⟨rfl, hk6⟩
        replace hA := hA.keep hk6
        replace hB := hB.keep hk6
        replace hk := hk.trans hk6
        clear hk6
        go_wp2_with fail
        refine (fits_k hA hB _ e1.out).mono ?_
        rintro e w7 ⟨rfl, hk7⟩
        go_wp2_with fail
        go_ret
        exact ⟨rfl, hk.trans hk7⟩
      · replace o2 : Hid (¬ Add2Ok m l Y X) := o2
        refine (add2_no _ _ m l _ _ Y X _ (Rds.two rfl hB hC) (by omega) (by omega) o2.out).mono ?_
        rintro e w5 ⟨rfl, hk5⟩
        replace hk := hk.trans (Keep.ofAlloc _ hk5)
        clear hk5
        go_wp2_with fail
        go_ret
        exact ⟨rfl, hk⟩
    · replace o1 : Hid (¬ Add2Ok n l Z X) := o1
      refine (add2_no _ _ n l _ _ Z X _ (Rds.two rfl hA hC) (by omega) (by omega) o1.out).mono ?_
      rintro e w4 ⟨rfl, hk4⟩
      replace hk4 := Keep.ofAlloc _ hk4
      replace hB := hB.keep hk4
      replace hC := hC.keep hk4
      replace hk := hk.trans hk4
      clear hk4
      go_wp2_with fail
      by_cases o2 : Add2Ok m l Y X
      · replace o2 : Hid (Add2Ok m l Y X) := o2
        refine (add2_yes _ _ m l _ _ Y X _ (Rds.two rfl hB hC) (by omega) (by omega) o2.out).mono ?_
        rintro e w5 ⟨B2, rfl, hk5, hy⟩
        replace hk := hk.trans (Keep.ofAlloc _ hk5)
        clear hk5
        go_wp2_with fail
        go_ret
        exact ⟨rfl, hk⟩
      · replace o2 : Hid (¬ Add2Ok m l Y X) := o2
        refine (add2_no _ _ m l _ _ Y X _ (Rds.two rfl hB hC) (by omega) (by omega) o2.out).mono ?_
        rintro e w5 ⟨rfl, hk5⟩
        replace hk := hk.trans (Keep.ofAlloc _ hk5)
        clear hk5
        go_wp2_with fail
        go_ret
        exact ⟨rfl, hk⟩
  · cases e2 : fitsB m Y l X
    · skip
      replace e1 : Hid (fitsB n Z m Y = true) := e1
      go_wp2_with fail
      refine (fits_k hA hB true e1.out).mono ?_
      rintro e w2 ⟨rfl, hk2⟩
      replace hA := hA.keep hk2
      replace hB := hB.keep hk2
      replace hC := hC.keep hk2
      replace hk := hk.trans hk2
      clear hk2
      replace e2 : Hid (fitsB m Y l X = false) := e2
      go_wp2_with fail
      refine (fits_k hB hC false e2.out).mono ?_
      rintro e w2 ⟨rfl, hk2⟩
      replace hA := hA.keep hk2
      replace hB := hB.keep hk2
      replace hC := hC.keep hk2
      replace hk := hk.trans hk2
      clear hk2
      go_wp2_with fail
      by_cases o1 : Add2Ok n l Z X
      · replace o1 : Hid (Add2Ok n l Z X) := o1
        refine (add2_yes _ _ n l _ _ Z X _ (Rds.two rfl hA hC) (by omega) (by omega) o1.out).mono ?_
        rintro e w4 ⟨B1, rfl, hk4, hx⟩
        replace hk4 := Keep.ofAlloc _ hk4
        replace hA := hA.keep hk4
        replace hB := hB.keep hk4
        replace hC := hC.keep hk4
        replace hk := hk.trans hk4
        clear hk4
        go_wp2_with fail
        by_cases o2 : Add2Ok m l Y X
        · replace o2 : Hid (Add2Ok m l Y X) := o2
          refine (add2_yes _ _ m l _ _ Y X _ (Rds.two rfl hB hC) (by omega) (by omega) o2.out).mono ?_
          rintro e w5 ⟨B2, rfl, hk5, hy⟩
          replace hk5 := Keep.ofAlloc _ hk5
          replace hA := hA.keep hk5
          replace hB := hB.keep hk5
          replace hx := hx.keep hk5
          replace hk := hk.trans hk5
          clear hk5
          go_wp2_with fail
          refine (fits_k hx hy _ (fits_add.trans e1.out)).mono ?_
          rintro e w6 ⟨rfl, hk6⟩
          replace hA := hA.keep hk6
          replace hB := hB.keep hk6
          replace hk := hk.trans hk6
          clear hk6
          go_wp2_with fail
          refine (fits_k hA hB _ e1.out).mono ?_
          rintro e w7 ⟨rfl, hk7⟩
          go_wp2_with fail
          go_ret
          exact ⟨rfl, hk.trans hk7⟩
        · replace o2 : Hid (¬ Add2Ok m l Y X) := o2
          refine (add2_no _ _ m l _ _ Y X _ (Rds.two rfl hB hC) (by omega) (by omega) o2.out).mono ?_
          rintro e w5 ⟨rfl, hk5⟩
          replace hk := hk.trans (Keep.ofAlloc _ hk5)
          clear hk5
          go_wp2_with fail
          go_ret
          exact ⟨rfl, hk⟩
      · replace o1 : Hid (¬ Add2Ok n l Z X) := o1
        refine (add2_no _ _ n l _ _ Z X _ (Rds.two rfl hA hC) (by omega) (by omega) o1.out).mono ?_
        rintro e w4 ⟨rfl, hk4⟩
        replace hk4 := Keep.ofAlloc _ hk4
        replace hB := hB.keep hk4
        replace hC := hC.keep hk4
        replace hk := hk.trans hk4
        clear hk4
        go_wp2_with fail
        by_cases o2 : Add2Ok m l Y X
        · replace o2 : Hid (Add2Ok m l Y X) := o2
          refine (add2_yes _ _ m l _ _ Y X _ (Rds.two rfl hB hC) (by omega) (by omega) o2.out).mono ?_
          rintro e w5 ⟨B2, rfl, hk5, hy⟩
          replace hk := hk.trans (Keep.ofAlloc _ hk5)
          clear hk5
          go_wp2_with fail
          go_ret
          exact ⟨rfl, hk⟩
        · replace o2 : Hid (¬ Add2Ok m l Y X) := o2
          refine (add2_no _ _ m l _ _ Y X _ (Rds.two rfl hB hC) (by omega) (by omega) o2.out).mono ?_
          rintro e w5 ⟨rfl, hk5⟩
          replace hk := hk.trans (Keep.ofAlloc _ hk5)
          clear hk5
          go_wp2_with fail
          go_ret
          exact ⟨rfl, hk⟩
    · have e3 : Hid (fitsB n Z l X = true) := fits_trans e1 e2
      replace e1 : Hid (fitsB n Z m Y = true) := e1
      go_wp2_with fail
      refine (fits_k hA hB true e1.out).mono ?_
      rintro e w2 ⟨rfl, hk2⟩
      replace hA := hA.keep hk2
      replace hB := hB.keep hk2
      replace hC := hC.keep hk2
      replace hk := hk.trans hk2
      clear hk2
      replace e2 : Hid (fitsB m Y l X = true) := e2
      go_wp2_with fail
      refine (fits_k hB hC true e2.out).mono ?_
      rintro e w2 ⟨rfl, hk2⟩
      replace hA := hA.keep hk2
      replace hB := hB.keep hk2
      replace hC := hC.keep hk2
      replace hk := hk.trans hk2
      clear hk2
      go_wp2_with fail
      refine (fits_k hA hC true e3.out).mono ?_
      rintro e w2 ⟨rfl, hk2⟩
      replace hA := hA.keep hk2
      replace hB := hB.keep hk2
      replace hC := hC.keep hk2
      replace hk := hk.trans hk2
      clear hk2
      go_wp2_with fail
      by_cases o1 : Add2Ok n l Z X
      · replace o1 : Hid (Add2Ok n l Z X) := o1
        refine (add2_yes _ _ n l _ _ Z X _ (Rds.two rfl hA hC) (by omega) (by omega) o1.out).mono ?_
        rintro e w4 ⟨B1, rfl, hk4, hx⟩
        replace hk4 := Keep.ofAlloc _ hk4
        replace hA := hA.keep hk4
        replace hB := hB.keep hk4
        replace hC := hC.keep hk4
        replace hk := hk.trans hk4
        clear hk4
        go_wp2_with fail
        by_cases o2 : Add2Ok m l Y X
        · replace o2 : Hid (Add2Ok m l Y X) := o2
          refine (add2_yes _ _ m l _ _ Y X _ (Rds.two rfl hB hC) (by omega) (by omega) o2.out).mono ?_
          rintro e w5 ⟨B2, rfl, hk5, hy⟩
          replace hk5 := Keep.ofAlloc _ hk5
          replace hA := hA.keep hk5
          replace hB := hB.keep hk5
          replace hx := hx.keep hk5
          replace hk := hk.trans hk5
          clear hk5
          go_wp2_with fail
          refine (fits_k hx hy _ (fits_add.trans e1.out)).mono ?_
          rintro e w6 ⟨rfl, hk6⟩
          replace hA := hA.keep hk6
          replace hB := hB.keep hk6
          replace hk := hk.trans hk6
          clear hk6
          go_wp2_with fail
          refine (fits_k hA hB _ e1.out).mono ?_
          rintro e w7 ⟨rfl, hk7⟩
          go_wp2_with fail
          go_ret
          exact ⟨rfl, hk.trans hk7⟩
        · replace o2 : Hid (¬ Add2Ok m l Y X) := o2
          refine (add2_no _ _ m l _ _ Y X _ (Rds.two rfl hB hC) (by omega) (by omega) o2.out).mono ?_
          rintro e w5 ⟨rfl, hk5⟩
          replace hk := hk.trans (Keep.ofAlloc _ hk5)
          clear hk5
          go_wp2_with fail
          go_ret
          exact ⟨rfl, hk⟩
      · replace o1 : Hid (¬ Add2Ok n l Z X) := o1
        refine (add2_no _ _ n l _ _ Z X _ (Rds.two rfl hA hC) (by omega) (by omega) o1.out).mono ?_
        rintro e w4 ⟨rfl, hk4⟩
        replace hk4 := Keep.ofAlloc _ hk4
        replace hB := hB.keep hk4
        replace hC := hC.keep hk4
        replace hk := hk.trans hk4
        clear hk4
        go_wp2_with fail
        by_cases o2 : Add2Ok m l Y X
        · replace o2 : Hid (Add2Ok m l Y X) := o2
          refine (add2_yes _ _ m l _ _ Y X _ (Rds.two rfl hB hC) (by omega) (by omega) o2.out).mono ?_
          rintro e w5 ⟨B2, rfl, hk5, hy⟩
          replace hk := hk.trans (Keep.ofAlloc _ hk5)
          clear hk5
          go_wp2_with fail
          go_ret
          exact ⟨rfl, hk⟩
        · replace o2 : Hid (¬ Add2Ok m l Y X) := o2
          refine (add2_no _ _ m l _ _ Y X _ (Rds.two rfl hB hC) (by omega) (by omega) o2.out).mono ?_
          rintro e w5 ⟨rfl, hk5⟩
          replace hk := hk.trans (Keep.ofAlloc _ hk5)
          clear hk5
          go_wp2_with fail
          go_ret
          exact ⟨rfl, hk⟩

/-- VecOrder answers true, and what was there is as it was. -/
theorem order_walk (A B C : Option Addr) (n m l ca cb cc : Nat) (Z Y X : Nat → Int) (w : World) (hA : Rd w A n Z) (hB : Rd w B m Y) (hC : Rd w C l X) :
    Calls Try.prog 7 #[.slice A n ca, .slice B m cb, .slice C l cc] w fun e w' => e = .returned (.bool true) ∧ Keep w w' := by
  by_cases h : n ≤ 100 ∧ m ≤ 100 ∧ l ≤ 100
  · exact order_short A B C n m l ca cb cc Z Y X w hA hB hC h.1 h.2.1 h.2.2
  · exact order_long A B C n m l ca cb cc w (by omega)
end Go.Proofs.Ytkkoajkoiiolgaa
