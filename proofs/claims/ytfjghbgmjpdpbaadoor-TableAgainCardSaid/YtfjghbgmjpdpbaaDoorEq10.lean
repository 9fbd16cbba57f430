/-
  slices.Equal and slices.IsSorted at rows of ints; the statements' own 'code'. No condition but errors.errorType's value.
-/
import Derived.Test.YtfjghbgmjpdpbaaDoorGr10
import Derived.Test.YtfjghbgmjpdpbaaDoorShelfE
import Derived.Test.YtfjghbgmjpdpbaaDoorCode10
import Derived.Deep.QuietTactic
import Derived.BigQuiet
namespace Go.Proofs.YtfjghbgmjpdpbaaDoor.T10
open Go.RowKit Go.Lib Go.Sort

theorem getD_lst {Z : Nat → Int} {n j : Nat} (h : j < n) : ((List.range n).map Z).getD j 0 = Z j := by
  rw [List.getD_eq_getElem?_getD, List.getElem?_map, List.getElem?_range h]
  rfl
/-- Of two rows of numbers: whether they are the same. -/
theorem equal_yes (A1 A2 : Option Addr) (n c1 c2 : Nat) (Z1 Z2 : Nat → Int) (w : World) (h1 : Rd w A1 n Z1) (h2 : Rd w A2 n Z2) (he : ∀ j, j < n → Z1 j = Z2 j) :
    Calls Tryd.prog 11 #[.slice A1 n c1, .slice A2 n c2] w fun e w' => e = .returned (.bool true) ∧ Drawn w w' := by
  by_cases hn : 0 < n
  · obtain ⟨b1, o1, rfl, k1⟩ := h1.adr hn
    obtain ⟨b2, o2, rfl, k2⟩ := h2.adr hn
    have := Tryd.slices_Equal_int b1 o1 n c1 b2 o2 n c2 ((List.range n).map Z1) ((List.range n).map Z2) w (by simp) (by simp) h1.small h2.small
      (fun j hj => by rw [List.length_map, List.length_range] at hj; rw [getD_lst hj]; exact k1 j hj) (fun j hj => by rw [List.length_map, List.length_range] at hj; rw [getD_lst hj]; exact k2 j hj)
    refine this.mono fun e w' ⟨he', q, hq⟩ => ⟨?_, q, hq⟩
    rw [he']
    have e3 : (List.range n).map Z1 = (List.range n).map Z2 := List.map_congr_left fun j hj => he j (List.mem_range.1 hj)
    rw [e3]
    simp
  · obtain rfl : n = 0 := by omega
    refine (Tryd.slices_Equal_int_empty A1 A2 c1 0 c2 w (by omega)).mono fun e w' ⟨he', hq⟩ => ⟨he', ?_⟩
    rw [hq]
    exact Drawn.refl w
theorem atI (b off n cp j : Nat) (hj : j < n) (W : World) : (Instr.indexAt 34 (.slice (some ⟨b, off, none⟩) n cp) (.int .i64 j)).run Tryd.prog W = .ok (.pointer (some ⟨b, off + j, none⟩)) W := by
  go_simp
set_option maxRecDepth 100000 in
set_option maxHeartbeats 4000000 in
/-- A sorted row is sorted. -/
theorem sorted_yes (A : Option Addr) (n c : Nat) (Z : Nat → Int) (w : World) (h : Rd w A n Z) (hs : ∀ j, j + 1 < n → Z j ≤ Z (j + 1)) :
    Calls Tryd.prog 26 #[.slice A n c] w fun e w' => e = .returned (.bool true) ∧ Drawn w w' := by
  have mixed : Tryd.prog.follows .mixedOrders = true := by kernel_rfl
  have hb := h.small
  have h := Lib.hid h
  have hs := Lib.hid hs
  by_cases hn : n = 0
  · subst hn
    go_enter Tryd.func26, Tryd.ntmps26
    go_wp2
    go_loopg [3] 0 (fun gx s3 wr => s3 = .int .i64 (-1) ∧ wr = w)
    case atStart => exact ⟨by go_num, rfl⟩
    case round =>
      obtain ⟨rfl, rfl⟩ := hrel
      go_wp2
      go_ret
      exact ⟨rfl, Drawn.refl _⟩
  · obtain ⟨n', rfl⟩ : ∃ n', n = n' + 1 := ⟨n - 1, by omega⟩
    go_enter Tryd.func26, Tryd.ntmps26
    go_wp2
    go_loopg [3] n' (fun gx s3 wr => ∃ j : Nat, j ≤ n' ∧ j = gx ∧ s3 = .int .i64 j ∧ Hid (Drawn w wr))
    case atStart => exact ⟨n', Nat.le_refl _, rfl, by go_num, Drawn.refl _⟩
    case round =>
      obtain ⟨j, hj, rfl, rfl, D⟩ := hrel
      by_cases hlt : 0 < j
      · obtain ⟨i, rfl⟩ : ∃ i, j = i + 1 := ⟨j - 1, by omega⟩
        obtain ⟨b, off, hA, ca⟩ := (h.out.below D.out.keep).adr (by omega)
        subst hA
        have x0 := ca i (by omega)
        have x1 := ca (i + 1) (by omega)
        have q0 := fun W => atI b off (n' + 1) c i (by omega) W
        have q1 := fun W => atI b off (n' + 1) c (i + 1) (by omega) W
        have hlen := hs.out i (by omega)
        obtain ⟨z0, hz0⟩ : ∃ z, z = Z i := ⟨_, rfl⟩
        obtain ⟨z1, hz1⟩ : ∃ z, z = Z (i + 1) := ⟨_, rfl⟩
        rw [← hz0] at x0 hlen
        rw [← hz1] at x1 hlen
        replace hz0 := Lib.hid hz0
        replace hz1 := Lib.hid hz1
        have hl : ∀ W, Calls Tryd.prog 34 #[.int .i64 z1, .int .i64 z0] W fun e w' => e = .returned (.bool false) ∧ w' = W := fun W => by
          have := Tryd.cmp_Less_int2 z1 z0 W
          rw [decide_eq_false (by omega)] at this
          exact this
        replace hl := Lib.hid hl
        clear ca hlen
        go_wp2_with fail
        go_quiet (first | (go_at_call 34; refine Calls.quiet_of_same (hl.out _)))
        go_wp2
        go_roundg i
        case measure => omega
        case rel => exact ⟨i, by omega, rfl, by go_num, D.out.drewN _⟩
      · obtain rfl : j = 0 := by omega
        go_wp2
        go_ret
        exact ⟨rfl, D.out⟩
theorem errT_code (c : Int) (w : World) (hg : ErrT w) : Calls Tryd.prog 19 #[if c = 0 then .nilIface else .iface 70 (.int .i64 c)] w fun e w' => e = .returned (.int .i64 c) ∧ Keep w w' := by
  by_cases h : c = 0
  · subst h
    rw [if_pos rfl]
    have hc := Lib.hid (code_nil w)
    go_enter Tryd.func19, Tryd.ntmps19
    go_wp2_with fail
    refine hc.out.mono ?_
    rintro e w' ⟨rfl, k⟩
    replace k := Lib.hid k
    go_wp2
    go_ret
    exact ⟨rfl, k.out⟩
  · rw [if_neg h]
    have hc := Lib.hid (code_yes c w hg)
    replace h := Lib.hid h
    clear hg
    go_enter Tryd.func19, Tryd.ntmps19
    go_wp2_with fail
    refine hc.out.mono ?_
    rintro e w' ⟨rfl, k⟩
    replace k := Lib.hid k
    go_wp2
    go_ret
    exact ⟨rfl, k.out⟩
end Go.Proofs.YtfjghbgmjpdpbaaDoor.T10
