/-
  slices.Clone of amounts. Condition: at most 1048576 amounts.
-/
import Derived.Test.YtmbeghngnnpmlaaDoorPodV11
import Derived.Laws.AppendOwnNone
import Derived.Laws.OwnMore
namespace Go.Proofs.YtmbeghngnnpmlaaDoor.T11
open Go.RowKit Go.Sort

def rowL (n : Nat) (D : Nat → Int) : List Value := (List.range n).map fun k => .int .i64 (D k)
theorem rowL_one (n : Nat) (Z : Nat → Int) : ∀ u ∈ rowL n Z, u.oneCell' = true := by
  intro u hu
  simp only [rowL, List.mem_map] at hu
  obtain ⟨k, _, rfl⟩ := hu
  rfl
theorem news_of {w : World} {a : Addr} {n : Nat} {Z : Nat → Int} (h : Rd w (some a) n Z) : ∀ j u, (rowL n Z)[j]? = some u → w.cell? (a.add j) = some u := by
  intro j u hu
  have hj : j < n := by
    have := (List.getElem?_eq_some_iff.1 hu).1
    simpa [rowL] using this
  obtain ⟨b, off, e, hc⟩ := h.adr (by omega)
  obtain rfl := Option.some.inj e
  rw [WideShapes.add_plain, hc j hj]
  simpa [rowL, hj] using hu
theorem rd_own {w : World} {base n cap : Nat} {A : Option Addr} {D : Nat → Int} (h : w.ownsRow base 2 1 (.slice A n cap) n (rowL n D)) (hn : n ≤ 9223372036854775807) (hr : ∀ k, k < n → -9223372036854775808 ≤ D k ∧ D k ≤ 9223372036854775807) : Rd w A n D := by
  rcases h.2 with ⟨e, rfl⟩ | ⟨g, cap, cur, e, _⟩
  · exact Rd.nil _ _ _
  · simp only [Value.slice.injEq] at e
    obtain ⟨rfl, _, _⟩ := e
    refine ⟨hn, hr, fun _ => ⟨g, 0, rfl, fun j hj => ?_⟩⟩
    have := h.cells (g := g) rfl j (.int .i64 (D j)) (by simp [rowL, hj])
    rwa [WideShapes.add_plain] at this

theorem Tryd.infoI64 : (Tryd.prog.info? 2).map (fun i => (i.zero, i.size, i.bytes)) = some (some (.int .i64 0), 1, 8) := by kernel_rfl
theorem Tryd.eqNil (w : World) : (binOp .eql 43 (.slice none 0 0) (.slice none 0 0)).run Tryd.prog w = .ok (.bool true) w := by kernel_rfl
theorem Tryd.eqSome (a : Addr) (n c : Nat) (w : World) : (binOp .eql 43 (.slice (some a) n c) (.slice none 0 0)).run Tryd.prog w = .ok (.bool false) w := by kernel_rfl
set_option maxHeartbeats 1000000 in
theorem sclone_own (A : Option Addr) (n c : Nat) (Z : Nat → Int) (w : World) (hA : Rd w A n Z) (h0 : A = none → n = 0 ∧ c = 0) (hn : n ≤ 1048576) :
    Calls Tryd.prog 35 #[.slice A n c] w fun e w' => ∃ A' cap, e = .returned (.slice A' n cap) ∧ Keep w w' ∧ w'.ownsRow w.heap.size 2 1 (.slice A' n cap) n (rowL n Z) := by
  cases A with
  | none =>
    obtain ⟨rfl, rfl⟩ := h0 rfl
    clear h0 hA
    have q1 := Tryd.eqNil
    go_enter Tryd.func35, Tryd.ntmps35
    go_wp2
    go_ret
    exact ⟨none, 0, rfl, Keep.refl _, World.ownsRow_nil _ _ _ _⟩
  | some a =>
    clear h0
    obtain ⟨i0, hi0, hz0, hz1, hz2⟩ := info_parts Tryd.infoI64
    have hnew := news_of (hA.keep (Keep.one w (.cells #[] 2)))
    replace hnew := Lib.hid hnew
    have hown := World.ownsRow_made (base := w.heap.size) (e := 2) (size := 1) w #[] 0 (Nat.le_refl _) (Nat.zero_le _) rfl
    clear hA
    have q1 := Tryd.eqSome
    go_enter Tryd.func35, Tryd.ntmps35
    go_wp2_with (at_builtin; refine wpList_append_own _ rfl _ _ 43 rfl w.heap.size 2 i0 (.int .i64 0) 1 8 Tryd.underlying43 hi0 hz0 hz1 hz2 rfl (by decide) _ _ _ rfl hown a n c (rowL n Z) rfl (by simp [rowL]) hnew.out (rowL_one n Z) (by unfold maxLen; omega) (by omega) (by simp) ?_; intro v' w2 hown2 hgrow hnil)
    go_ret
    obtain ⟨A', cap, rfl, _⟩ := own_form hown2
    simp only [Nat.zero_add, List.nil_append] at hown2
    exact ⟨A', cap, by simp, keep_grown (Keep.one w _) hgrow (fun q hq => (hown.lt q hq).1), hown2⟩

end Go.Proofs.YtmbeghngnnpmlaaDoor.T11
