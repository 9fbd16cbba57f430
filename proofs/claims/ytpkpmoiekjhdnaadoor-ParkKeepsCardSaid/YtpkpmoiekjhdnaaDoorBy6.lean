/-
  A comparison by a key; the comparison by all keys. No condition.
-/
import Derived.Test.YtpkpmoiekjhdnaaDoorOrd6
namespace Go.Proofs.YtpkpmoiekjhdnaaDoor
open Go.RowKit Go.Sort Go.Lib Go.Shelf

/-- A cell of a world, in all worlds that have grown. -/
theorem grows {w : World} {a : Addr} {v : Value} (h : w.cell? a = some v) (n : Nat) (os : Array Obj) : (grow (w.drewN n) os).cell? a = some v := cell_grown (cell_lt h) h n os

set_option maxHeartbeats 4000000 in
theorem by_fn (f : FuncId) (pr : PodV → Int) (ef : ∀ args w, (callFunc f args).run Tryd.prog w = .ok (.enter f args) w) (hf : ∀ (p : PodV) (w : World), Calls Tryd.prog f #[p.val] w fun e w' => e = .returned (.int .i64 (pr p)) ∧ Gr w w') (x y : PodV) (w : World) :
    Calls Tryd.prog 44 #[.func (.func f) #[] #[], x.val, y.val] w fun e w' => e = .returned (.int .i64 (cmpI (pr x) (pr y))) ∧ Gr w w' := by
  have mixed : Tryd.prog.follows .mixedOrders = true := by kernel_rfl
  have hx := hf x
  have hy := hf y
  have hc := fun W => compare_fn (pr x) (pr y) W
  generalize cmpI (pr x) (pr y) = r at hc ⊢
  generalize pr x = u at hx hc
  generalize pr y = v at hy hc
  clear hf
  unfold PodV.val Gr at hx hy
  unfold PodV.val
  replace hc : ∀ W, Calls Tryd.prog 47 #[.int .i64 u, .int .i64 v] W fun e w' => e = .returned (.int .i64 r) ∧ ∃ q os, w' = grow (W.drewN q) os := fun W => (hc W).mono fun e w' h => ⟨h.1, 0, #[], by rw [← h.2, grow_empty]; rfl⟩
  go_enter Tryd.func44, Tryd.ntmps44
  go_wp2_with fail
  have g0 := ((Gr.refl w).alloc (.cells #[.int .i64 x.k, .int .i64 x.p, .bool x.f, .int .i64 x.g, .slice x.A x.m x.c, .int .i64 x.a, .int .i64 x.h, .int .i64 x.d, .int .i64 x.t] 35)).alloc (.cells #[.int .i64 y.k, .int .i64 y.p, .bool y.f, .int .i64 y.g, .slice y.A y.m y.c, .int .i64 y.a, .int .i64 y.h, .int .i64 y.d, .int .i64 y.t] 35)
  have X := (Cel9.new w x 35 _ rfl).keep (Keep.one _ (.cells #[.int .i64 y.k, .int .i64 y.p, .bool y.f, .int .i64 y.g, .slice y.A y.m y.c, .int .i64 y.a, .int .i64 y.h, .int .i64 y.d, .int .i64 y.t] 35))
  have Y := Cel9.new (w.alloc (.cells #[.int .i64 x.k, .int .i64 x.p, .bool x.f, .int .i64 x.g, .slice x.A x.m x.c, .int .i64 x.a, .int .i64 x.h, .int .i64 x.d, .int .i64 x.t] 35)) y 35 _ rfl
  rw [show (w.alloc (.cells #[.int .i64 x.k, .int .i64 x.p, .bool x.f, .int .i64 x.g, .slice x.A x.m x.c, .int .i64 x.a, .int .i64 x.h, .int .i64 x.d, .int .i64 x.t] 35)).heap.size = w.heap.size + 1 by simp] at Y
  generalize (w.alloc (.cells #[.int .i64 x.k, .int .i64 x.p, .bool x.f, .int .i64 x.g, .slice x.A x.m x.c, .int .i64 x.a, .int .i64 x.h, .int .i64 x.d, .int .i64 x.t] 35)).alloc (.cells #[.int .i64 y.k, .int .i64 y.p, .bool y.f, .int .i64 y.g, .slice y.A y.m y.c, .int .i64 y.a, .int .i64 y.h, .int .i64 y.d, .int .i64 y.t] 35) = w0 at g0 X Y ⊢
  replace g0 := Lib.hid g0
  have x0 := grows X.e0; have x1 := grows X.e1; have x2 := grows X.e2; have x3 := grows X.e3; have x4 := grows X.e4; have x5 := grows X.e5; have x6 := grows X.e6; have x7 := grows X.e7; have x8 := grows X.e8
  have y0 := grows Y.e0; have y1 := grows Y.e1; have y2 := grows Y.e2; have y3 := grows Y.e3; have y4 := grows Y.e4; have y5 := grows Y.e5; have y6 := grows Y.e6; have y7 := grows Y.e7; have y8 := grows Y.e8
  clear X Y
  simp only [Nat.zero_add] at x1 x2 x3 x4 x5 x6 x7 x8 y1 y2 y3 y4 y5 y6 y7 y8
  go_quiet_grown (first
    | (go_at_fn f; refine Calls.grown_of (hx _))
    | (go_at_fn f; refine Calls.grown_of (hy _))
    | (go_at_call 47; refine Calls.grown_of (hc _)))
  go_wp2
  go_ret
  exact ⟨rfl, g0.out.trans ⟨nq, osq, rfl⟩⟩
end Go.Proofs.YtpkpmoiekjhdnaaDoor
