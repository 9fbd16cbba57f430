/-
  Pods that are the same but for where the request lies; the reference's SamePod. No condition.
-/
import Derived.Test.YtmbeghngnnpmlaaDoorClone11
import Derived.Test.YtmbeghngnnpmlaaDoorVec6
namespace Go.Proofs.YtmbeghngnnpmlaaDoor.T11
open Go.RowKit Go.Sort Go.Shelf

/-- x with another request's place. -/
def PodV.at (x : PodV) (A : Option Addr) (c : Nat) : PodV := { x with A := A, c := c }
def SameV (x y : PodV) : Prop := ∃ A c, x = y.at A c
theorem SameV.refl (x : PodV) : SameV x x := ⟨x.A, x.c, rfl⟩
set_option maxRecDepth 100000 in
set_option maxHeartbeats 8000000 in
theorem rsamepod_fn (x y : PodV) (w : World) (h : SameV x y) (hx : PodIs w x) (hy : PodIs w y) : Calls Tryd.prog 20 #[x.val, y.val] w fun e w' => e = .returned (.bool true) ∧ Gr w w' := by
  obtain ⟨A', c', rfl⟩ := h
  have hs := fun W (K : Keep w W) => rsame_is A' y.A y.m y.m c' y.c y.Z y.Z W (hx.rd.keep K) (hy.rd.keep K) true (decide_eq_true ⟨rfl, fun _ _ => rfl⟩)
  replace hs := Lib.hid hs
  clear hx hy
  unfold PodV.at PodV.val
  go_enter Tryd.func20, Tryd.ntmps20
  go_wp2_with fail
  refine (hs.out _ (((Keep.refl w).alloc _).alloc _)).mono ?_
  rintro e w1 ⟨rfl, q, rfl⟩
  go_wp2
  go_ret
  exact ⟨rfl, (((Gr.refl w).alloc _).alloc _).drewN q⟩

end Go.Proofs.YtmbeghngnnpmlaaDoor.T11
