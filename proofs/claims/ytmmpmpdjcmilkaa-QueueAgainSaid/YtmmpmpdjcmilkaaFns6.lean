/-
  Compare, Before, Least; pods of a slice. No condition.
-/
import Derived.Test.YtmmpmpdjcmilkaaCmp6
import Derived.Laws.EntriesVeiled
namespace Go.Proofs.Ytmmpmpdjcmilkaa
open Go.RowKit Go.Sort Go.Lib Go.Shelf

/-- The pods of a slice. -/
structure RdPods (w : World) (A : Option Addr) (n : Nat) (P : Nat → PodV) : Prop where
  small : n ≤ 9223372036854775807
  adr : 0 < n → ∃ b off, A = some ⟨b, off, none⟩ ∧ ∀ j, j < n → Cel9 w b (off + j * 9) (P j)
  is : ∀ j, j < n → PodIs w (P j)
theorem RdPods.keep {w w' : World} {A : Option Addr} {n : Nat} {P : Nat → PodV} (h : RdPods w A n P) (k : Keep w w') : RdPods w' A n P :=
  ⟨h.small, fun hn => by obtain ⟨b, off, e, hc⟩ := h.adr hn; exact ⟨b, off, e, fun j hj => (hc j hj).keep k⟩, fun j hj => (h.is j hj).keep k⟩
theorem RdPods.nil (w : World) (A : Option Addr) (P : Nat → PodV) : RdPods w A 0 P := ⟨by omega, fun h => absurd h (Nat.lt_irrefl _), fun _ h => absurd h (Nat.not_lt_zero _)⟩
theorem RdPods.congr {w : World} {A : Option Addr} {n : Nat} {P Q : Nat → PodV} (h : RdPods w A n P) (e : ∀ j, j < n → P j = Q j) : RdPods w A n Q :=
  ⟨h.small, fun hn => by obtain ⟨b, off, ea, hc⟩ := h.adr hn; exact ⟨b, off, ea, fun j hj => by rw [← e j hj]; exact hc j hj⟩, fun j hj => by rw [← e j hj]; exact h.is j hj⟩
theorem pods_at (b off n cp j : Nat) (hj : j < n) (W : World) : (Instr.indexAt 27 (.slice (some ⟨b, off, none⟩) n cp) (.int .i64 j)).run Try.prog W = .ok (.pointer (some ⟨b, off + j * 9, none⟩)) W := by
  go_simp

set_option maxHeartbeats 2000000 in
theorem order_fn (w : World) : Calls Try.prog 37 #[] w fun e w' => ∃ b1 b2 b3, e = .returned (cmpV b1 b2 b3) ∧ Keys w' b1 b2 b3 ∧ Gr w w' ∧ w.heap.size ≤ b1 ∧ w.heap.size ≤ b2 ∧ w.heap.size ≤ b3 := by
  unfold cmpV keysV
  have hmf : ∀ (fn : Fn) (first cap : Array Value) (w : World), (Instr.makeFunc fn first cap).run Try.prog w = .ok (.func fn first cap) w := fun _ _ _ _ => rfl
  go_enter Try.func37, Try.ntmps37
  go_wp2
  refine bodyPost_ret (v := .func (.func 47) #[] #[.pointer (some ⟨w.heap.size, 0, none⟩), .pointer (some ⟨w.heap.size + 1, 0, none⟩), .pointer (some ⟨w.heap.size + 2, 0, none⟩)]) (by simp [results, Try.results37, go_sem]) rfl ?_
  refine ⟨_, _, _, rfl, ⟨?_, ?_, ?_⟩, ?_, Nat.le_refl _, by omega, by omega⟩
  rotate_left 3
  · repeat (with_reducible first | exact Gr.refl w | apply Gr.alloc | apply Gr.drew)
  all_goals simp (maxDischargeDepth := 12) [go_sem]

set_option maxRecDepth 100000 in
set_option maxHeartbeats 8000000 in
theorem kcompare_fn (x y : PodV) (w : World) : Calls Try.prog 77 #[x.val, y.val] w fun e w' => e = .returned (.int .i64 (cmpP x y)) ∧ Gr w w' := by
  have hc := fun b1 b2 b3 W K => cmp_fn b1 b2 b3 x y W K
  generalize cmpP x y = r at hc ⊢
  unfold PodV.val at hc
  unfold PodV.val
  replace hc := Lib.hid hc
  have ho := Lib.hid order_fn
  unfold cmpV keysV at ho
  go_enter Try.func77, Try.ntmps77
  go_wp2_with fail
  have g0 := ((Gr.refl w).alloc (.cells #[.int .i64 x.k, .int .i64 x.p, .bool x.f, .int .i64 x.g, .slice x.A x.m x.c, .int .i64 x.a, .int .i64 x.h, .int .i64 x.d, .int .i64 x.t] 32)).alloc (.cells #[.int .i64 y.k, .int .i64 y.p, .bool y.f, .int .i64 y.g, .slice y.A y.m y.c, .int .i64 y.a, .int .i64 y.h, .int .i64 y.d, .int .i64 y.t] 32)
  have X := (Cel9.new w x 32 _ rfl).keep (Keep.one _ (.cells #[.int .i64 y.k, .int .i64 y.p, .bool y.f, .int .i64 y.g, .slice y.A y.m y.c, .int .i64 y.a, .int .i64 y.h, .int .i64 y.d, .int .i64 y.t] 32))
  have Y := Cel9.new (w.alloc (.cells #[.int .i64 x.k, .int .i64 x.p, .bool x.f, .int .i64 x.g, .slice x.A x.m x.c, .int .i64 x.a, .int .i64 x.h, .int .i64 x.d, .int .i64 x.t] 32)) y 32 _ rfl
  rw [show (w.alloc (.cells #[.int .i64 x.k, .int .i64 x.p, .bool x.f, .int .i64 x.g, .slice x.A x.m x.c, .int .i64 x.a, .int .i64 x.h, .int .i64 x.d, .int .i64 x.t] 32)).heap.size = w.heap.size + 1 by simp] at Y
  generalize (w.alloc (.cells #[.int .i64 x.k, .int .i64 x.p, .bool x.f, .int .i64 x.g, .slice x.A x.m x.c, .int .i64 x.a, .int .i64 x.h, .int .i64 x.d, .int .i64 x.t] 32)).alloc (.cells #[.int .i64 y.k, .int .i64 y.p, .bool y.f, .int .i64 y.g, .slice y.A y.m y.c, .int .i64 y.a, .int .i64 y.h, .int .i64 y.d, .int .i64 y.t] 32) = w0 at g0 X Y ⊢
  replace g0 := Lib.hid g0
  have x0 := X.e0; have x1 := X.e1; have x2 := X.e2; have x3 := X.e3; have x4 := X.e4; have x5 := X.e5; have x6 := X.e6; have x7 := X.e7; have x8 := X.e8
  have y0 := Y.e0; have y1 := Y.e1; have y2 := Y.e2; have y3 := Y.e3; have y4 := Y.e4; have y5 := Y.e5; have y6 := Y.e6; have y7 := Y.e7; have y8 := Y.e8
  clear X Y
  simp only [Nat.zero_add] at x1 x2 x3 x4 x5 x6 x7 x8 y1 y2 y3 y4 y5 y6 y7 y8
  generalize w.heap.size = q at *
  go_region_held3 (fun w' => w'.cell? ⟨q, 0, none⟩ = some (.int .i64 x.k) ∧ w'.cell? ⟨q, 1, none⟩ = some (.int .i64 x.p) ∧ w'.cell? ⟨q, 2, none⟩ = some (.bool x.f) ∧ w'.cell? ⟨q, 3, none⟩ = some (.int .i64 x.g) ∧ w'.cell? ⟨q, 4, none⟩ = some (.slice x.A x.m x.c) ∧ w'.cell? ⟨q, 5, none⟩ = some (.int .i64 x.a) ∧ w'.cell? ⟨q, 6, none⟩ = some (.int .i64 x.h) ∧ w'.cell? ⟨q, 7, none⟩ = some (.int .i64 x.d) ∧ w'.cell? ⟨q, 8, none⟩ = some (.int .i64 x.t)
      ∧ w'.cell? ⟨q + 1, 0, none⟩ = some (.int .i64 y.k) ∧ w'.cell? ⟨q + 1, 1, none⟩ = some (.int .i64 y.p) ∧ w'.cell? ⟨q + 1, 2, none⟩ = some (.bool y.f) ∧ w'.cell? ⟨q + 1, 3, none⟩ = some (.int .i64 y.g) ∧ w'.cell? ⟨q + 1, 4, none⟩ = some (.slice y.A y.m y.c) ∧ w'.cell? ⟨q + 1, 5, none⟩ = some (.int .i64 y.a) ∧ w'.cell? ⟨q + 1, 6, none⟩ = some (.int .i64 y.h) ∧ w'.cell? ⟨q + 1, 7, none⟩ = some (.int .i64 y.d) ∧ w'.cell? ⟨q + 1, 8, none⟩ = some (.int .i64 y.t))
      ((refine (fun (K : Gr w0 _) => ⟨K.cell x0, K.cell x1, K.cell x2, K.cell x3, K.cell x4, K.cell x5, K.cell x6, K.cell x7, K.cell x8, K.cell y0, K.cell y1, K.cell y2, K.cell y3, K.cell y4, K.cell y5, K.cell y6, K.cell y7, K.cell y8⟩) ?_; repeat (with_reducible first | exact Gr.refl w0 | apply Gr.alloc | apply Gr.drew | apply Gr.drewN | (refine Gr.trans ?_ h1.out) | (refine Gr.trans ?_ h2.out))))
      (first
        | (go_at_call 37; refine (ho.out _).mono ?_; rintro e w1 ⟨b1, b2, b3, rfl, K1, h1, _, _, _⟩; replace h1 := Lib.hid h1; replace K1 := Lib.hid K1)
        | (go_at_call 47; refine (hc.out _ _ _ _ K1.out).mono ?_; rintro e w2 ⟨rfl, h2⟩; replace h2 := Lib.hid h2))
  all_goals
    go_wp2
    go_ret
    refine ⟨rfl, g0.out.trans ?_⟩
    repeat (with_reducible first | exact Gr.refl w0 | apply Gr.alloc | apply Gr.drew | apply Gr.drewN | (refine Gr.trans ?_ h1.out) | (refine Gr.trans ?_ h2.out))

def befP (x y : PodV) : Bool := decide (cmpP x y < 0)
set_option maxHeartbeats 4000000 in
theorem before_fn (x y : PodV) (w : World) : Calls Try.prog 76 #[x.val, y.val] w fun e w' => e = .returned (.bool (befP x y)) ∧ Gr w w' := by
  have hc := fun W => kcompare_fn x y W
  unfold befP
  generalize cmpP x y = r at hc ⊢
  unfold PodV.val at hc
  unfold PodV.val
  replace hc := Lib.hid hc
  go_enter Try.func76, Try.ntmps76
  go_wp2_with fail
  refine (hc.out _).mono ?_
  rintro e w1 ⟨rfl, h1⟩
  replace h1 := Lib.hid h1
  go_wp2
  go_ret
  exact ⟨rfl, (((Gr.refl w).alloc _).alloc _).trans h1.out⟩

/-- The first of the least. -/
def leastI (P : Nat → PodV) : Nat → Nat
  | 0 => 0
  | n + 1 => if cmpP (P n) (P (leastI P n)) < 0 then n else leastI P n
theorem leastI_lt (P : Nat → PodV) : ∀ n, 0 < n → leastI P n < n
  | 0, h => absurd h (Nat.lt_irrefl _)
  | n + 1, _ => by
    unfold leastI
    split
    · omega
    · cases n with
      | zero => exact Nat.one_pos
      | succ n => have := leastI_lt P (n + 1) (by omega); omega
theorem leastI_le (P : Nat → PodV) (n : Nat) : leastI P n ≤ n := by
  rcases Nat.eq_zero_or_pos n with rfl | h
  · exact Nat.le_refl _
  · exact Nat.le_of_lt (leastI_lt P n h)

end Go.Proofs.Ytmmpmpdjcmilkaa
