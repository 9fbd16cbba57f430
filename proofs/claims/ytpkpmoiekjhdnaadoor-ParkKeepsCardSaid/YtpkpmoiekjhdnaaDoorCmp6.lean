/-
  The comparison by all keys. No condition.
-/
import Derived.Test.YtpkpmoiekjhdnaaDoorBy6
namespace Go.Proofs.YtpkpmoiekjhdnaaDoor
open Go.RowKit Go.Sort Go.Lib Go.Shelf

/-- Below 0: x comes before y. -/
def cmpP (x y : PodV) : Int := or3 (cmpI y.p x.p) (cmpI x.a y.a) (cmpI x.k y.k)
/-- The closure that combines the keys, in its variables. -/
structure Keys (w : World) (b1 b2 b3 : Nat) : Prop where
  c1 : w.cell? ⟨b1, 0, none⟩ = some (.func (.func 39) #[] #[])
  c2 : w.cell? ⟨b2, 0, none⟩ = some (.func (.func 40) #[] #[])
  c3 : w.cell? ⟨b3, 0, none⟩ = some (.func (.func 41) #[] #[])
theorem Keys.keep {w w' : World} {b1 b2 b3 : Nat} (h : Keys w b1 b2 b3) (k : Keep w w') : Keys w' b1 b2 b3 := ⟨k.cell h.c1, k.cell h.c2, k.cell h.c3⟩
def keysV (b1 b2 b3 : Nat) : Array Value := #[.pointer (some ⟨b1, 0, none⟩), .pointer (some ⟨b2, 0, none⟩), .pointer (some ⟨b3, 0, none⟩)]
def cmpV (b1 b2 b3 : Nat) : Value := .func (.func 42) #[] (keysV b1 b2 b3)

set_option maxRecDepth 100000 in
set_option maxHeartbeats 16000000 in
theorem cmp_fn (b1 b2 b3 : Nat) (x y : PodV) (w : World) (hK : Keys w b1 b2 b3) :
    Calls Tryd.prog 42 #[x.val, y.val, .pointer (some ⟨b1, 0, none⟩), .pointer (some ⟨b2, 0, none⟩), .pointer (some ⟨b3, 0, none⟩)] w fun e w' => e = .returned (.int .i64 (cmpP x y)) ∧ Gr w w' := by
  have hb1 := fun W => by_fn 39 PodV.p (enters_of Tryd.func39 (by kernel_rfl) rfl) key1_fn y x W
  have hb2 := fun W => by_fn 40 PodV.a (enters_of Tryd.func40 (by kernel_rfl) rfl) key2_fn x y W
  have hb3 := fun W => by_fn 41 PodV.k (enters_of Tryd.func41 (by kernel_rfl) rfl) key3_fn x y W
  unfold cmpP
  generalize cmpI y.p x.p = u at hb1 ⊢
  generalize cmpI x.a y.a = v at hb2 ⊢
  generalize cmpI x.k y.k = z at hb3 ⊢
  have ho := fun b c W => or_fn b c u v z W
  generalize or3 u v z = r at ho ⊢
  unfold PodV.val at hb1 hb2 hb3
  unfold PodV.val
  replace hb1 := Lib.hid hb1
  replace hb2 := Lib.hid hb2
  replace hb3 := Lib.hid hb3
  replace ho := Lib.hid ho
  go_enter Tryd.func42, Tryd.ntmps42
  go_wp2_with fail
  have g0 := ((Gr.refl w).alloc (.cells #[.int .i64 x.k, .int .i64 x.p, .bool x.f, .int .i64 x.g, .slice x.A x.m x.c, .int .i64 x.a, .int .i64 x.h, .int .i64 x.d, .int .i64 x.t] 35)).alloc (.cells #[.int .i64 y.k, .int .i64 y.p, .bool y.f, .int .i64 y.g, .slice y.A y.m y.c, .int .i64 y.a, .int .i64 y.h, .int .i64 y.d, .int .i64 y.t] 35)
  have X := (Cel9.new w x 35 _ rfl).keep (Keep.one _ (.cells #[.int .i64 y.k, .int .i64 y.p, .bool y.f, .int .i64 y.g, .slice y.A y.m y.c, .int .i64 y.a, .int .i64 y.h, .int .i64 y.d, .int .i64 y.t] 35))
  have Y := Cel9.new (w.alloc (.cells #[.int .i64 x.k, .int .i64 x.p, .bool x.f, .int .i64 x.g, .slice x.A x.m x.c, .int .i64 x.a, .int .i64 x.h, .int .i64 x.d, .int .i64 x.t] 35)) y 35 _ rfl
  have K0 := hK.keep g0.keep
  rw [show (w.alloc (.cells #[.int .i64 x.k, .int .i64 x.p, .bool x.f, .int .i64 x.g, .slice x.A x.m x.c, .int .i64 x.a, .int .i64 x.h, .int .i64 x.d, .int .i64 x.t] 35)).heap.size = w.heap.size + 1 by simp] at Y
  generalize (w.alloc (.cells #[.int .i64 x.k, .int .i64 x.p, .bool x.f, .int .i64 x.g, .slice x.A x.m x.c, .int .i64 x.a, .int .i64 x.h, .int .i64 x.d, .int .i64 x.t] 35)).alloc (.cells #[.int .i64 y.k, .int .i64 y.p, .bool y.f, .int .i64 y.g, .slice y.A y.m y.c, .int .i64 y.a, .int .i64 y.h, .int .i64 y.d, .int .i64 y.t] 35) = w0 at g0 X Y K0 ⊢
  replace g0 := Lib.hid g0
  clear hK
  have x0 := X.e0; have x1 := X.e1; have x2 := X.e2; have x3 := X.e3; have x4 := X.e4; have x5 := X.e5; have x6 := X.e6; have x7 := X.e7; have x8 := X.e8
  have y0 := Y.e0; have y1 := Y.e1; have y2 := Y.e2; have y3 := Y.e3; have y4 := Y.e4; have y5 := Y.e5; have y6 := Y.e6; have y7 := Y.e7; have y8 := Y.e8
  have k1 := K0.c1; have k2 := K0.c2; have k3 := K0.c3
  clear X Y K0
  simp only [Nat.zero_add] at x1 x2 x3 x4 x5 x6 x7 x8 y1 y2 y3 y4 y5 y6 y7 y8
  generalize w.heap.size = q at *
  go_region_held3 (fun w' => w'.cell? ⟨b1, 0, none⟩ = some (.func (.func 39) #[] #[]) ∧ w'.cell? ⟨b2, 0, none⟩ = some (.func (.func 40) #[] #[]) ∧ w'.cell? ⟨b3, 0, none⟩ = some (.func (.func 41) #[] #[])
      ∧ w'.cell? ⟨q, 0, none⟩ = some (.int .i64 x.k) ∧ w'.cell? ⟨q, 1, none⟩ = some (.int .i64 x.p) ∧ w'.cell? ⟨q, 2, none⟩ = some (.bool x.f) ∧ w'.cell? ⟨q, 3, none⟩ = some (.int .i64 x.g) ∧ w'.cell? ⟨q, 4, none⟩ = some (.slice x.A x.m x.c) ∧ w'.cell? ⟨q, 5, none⟩ = some (.int .i64 x.a) ∧ w'.cell? ⟨q, 6, none⟩ = some (.int .i64 x.h) ∧ w'.cell? ⟨q, 7, none⟩ = some (.int .i64 x.d) ∧ w'.cell? ⟨q, 8, none⟩ = some (.int .i64 x.t)
      ∧ w'.cell? ⟨q + 1, 0, none⟩ = some (.int .i64 y.k) ∧ w'.cell? ⟨q + 1, 1, none⟩ = some (.int .i64 y.p) ∧ w'.cell? ⟨q + 1, 2, none⟩ = some (.bool y.f) ∧ w'.cell? ⟨q + 1, 3, none⟩ = some (.int .i64 y.g) ∧ w'.cell? ⟨q + 1, 4, none⟩ = some (.slice y.A y.m y.c) ∧ w'.cell? ⟨q + 1, 5, none⟩ = some (.int .i64 y.a) ∧ w'.cell? ⟨q + 1, 6, none⟩ = some (.int .i64 y.h) ∧ w'.cell? ⟨q + 1, 7, none⟩ = some (.int .i64 y.d) ∧ w'.cell? ⟨q + 1, 8, none⟩ = some (.int .i64 y.t))
      ((refine (fun (K : Gr w0 _) => ⟨K.cell k1, K.cell k2, K.cell k3, K.cell x0, K.cell x1, K.cell x2, K.cell x3, K.cell x4, K.cell x5, K.cell x6, K.cell x7, K.cell x8, K.cell y0, K.cell y1, K.cell y2, K.cell y3, K.cell y4, K.cell y5, K.cell y6, K.cell y7, K.cell y8⟩) ?_; repeat (with_reducible first | exact Gr.refl w0 | apply Gr.alloc | apply Gr.drew | apply Gr.drewN | (refine Gr.trans ?_ h1.out) | (refine Gr.trans ?_ h2.out) | (refine Gr.trans ?_ h3.out))))
      (first
        | (go_at_call_of 44 (Value.func (.func 39) #[] #[]); refine (hb1.out _).mono ?_; rintro e w1 ⟨rfl, h1⟩; replace h1 := Lib.hid h1)
        | (go_at_call_of 44 (Value.func (.func 40) #[] #[]); refine (hb2.out _).mono ?_; rintro e w2 ⟨rfl, h2⟩; replace h2 := Lib.hid h2)
        | (go_at_call_of 44 (Value.func (.func 41) #[] #[]); refine (hb3.out _).mono ?_; rintro e w3 ⟨rfl, h3⟩; replace h3 := Lib.hid h3)
        | (go_at_call 43; refine (ho.out _ _ _ (by simp) (by simp) (by simp)).mono ?_; rintro e w4 ⟨rfl, rfl⟩))
  all_goals
    go_wp2
    go_ret
    refine ⟨rfl, g0.out.trans ?_⟩
    repeat (with_reducible first | exact Gr.refl w0 | apply Gr.alloc | apply Gr.drew | apply Gr.drewN | (refine Gr.trans ?_ h1.out) | (refine Gr.trans ?_ h2.out) | (refine Gr.trans ?_ h3.out))
end Go.Proofs.YtpkpmoiekjhdnaaDoor
