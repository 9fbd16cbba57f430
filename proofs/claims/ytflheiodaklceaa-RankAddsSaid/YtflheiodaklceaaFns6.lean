/-
  Compare, Before, Least; pods of a slice. No condition.
-/
import Derived.Test.YtflheiodaklceaaCmp6
import Derived.Laws.EntriesVeiled
namespace Go.Proofs.Ytflheiodaklceaa
open Go.RowKit Go.Sort Go.Lib Go.Shelf

/-- The pods of a slice. -/
structure RdPods (w : World) (A : Option Addr) (n : Nat) (P : Nat → PodV) : Prop where
  small : n ≤ 9223372036854775807
  adr : 0 < n → ∃ b off, A = some ⟨b, off, none⟩ ∧ ∀ j, j < n → Cel9 w b (off + j * 9) (P j)
  is : ∀ j, j < n → PodIs w (P j)
theorem RdPods.keep {w w' : World} {A : Option Addr} {n : Nat} {P : Nat → PodV} (h : RdPods w A n P) (k : Keep w w') : RdPods w' A n P :=
  ⟨h.small, fun hn => by obtain ⟨b, off, e, hc⟩ := h.adr hn; exact ⟨b, off, e, fun j hj => (hc j hj).keep k⟩, fun j hj => (h.is j hj).keep k⟩
theorem RdPods.nil (w : World) (A : Option Addr) (P : Nat → PodV) : RdPods w A 0 P := ⟨by omega, fun h => absurd h (Nat.lt_irrefl _), fun _ h => absurd h (Nat.not_lt_zero _)⟩
theorem RdPods.congr {w : World} {A : Option Addr} {n : Nat} {P Q : Nat → PodV} (h : RdPods w A n P) (e : ∀ j, j < n → P j = Q j) : RdPods w A n Q :=
  ⟨h.small, fun hn => by obtain ⟨b, off, ea, hc⟩ := h.adr hn; exact ⟨b, off, ea, fun j hj => by rw [← e j hj]; exact hc j hj⟩, fun j hj => by rw [← e j hj]; exact h.is j hj⟩
theorem pods_at (b off n cp j : Nat) (hj : j < n) (W : World) : (Instr.indexAt 22 (.slice (some ⟨b, off, none⟩) n cp) (.int .i64 j)).run Try.prog W = .ok (.pointer (some ⟨b, off + j * 9, none⟩)) W := by
  go_simp

set_option maxHeartbeats 2000000 in
theorem order_fn (w : World) : Calls Try.prog 22 #[] w fun e w' => ∃ b1 b2 b3, e = .returned (cmpV b1 b2 b3) ∧ Keys w' b1 b2 b3 ∧ Gr w w' ∧ w.heap.size ≤ b1 ∧ w.heap.size ≤ b2 ∧ w.heap.size ≤ b3 := by
  unfold cmpV keysV
  have hmf : ∀ (fn : Fn) (first cap : Array Value) (w : World), (Instr.makeFunc fn first cap).run Try.prog w = .ok (.func fn first cap) w := fun _ _ _ _ => rfl
  go_enter Try.func22, Try.ntmps22
  go_wp2
  refine bodyPost_ret (v := .func (.func 29) #[] #[.pointer (some ⟨w.heap.size, 0, none⟩), .pointer (some ⟨w.heap.size + 1, 0, none⟩), .pointer (some ⟨w.heap.size + 2, 0, none⟩)]) (by simp [results, Try.results22, go_sem]) rfl ?_
  refine ⟨_, _, _, rfl, ⟨?_, ?_, ?_⟩, ?_, Nat.le_refl _, by omega, by omega⟩
  rotate_left 3
  · repeat (with_reducible first | exact Gr.refl w | apply Gr.alloc | apply Gr.drew)
  all_goals simp (maxDischargeDepth := 12) [go_sem]

set_option maxRecDepth 100000 in
set_option maxHeartbeats 8000000 in
theorem kcompare_fn (x y : PodV) (w : World) : Calls Try.prog 10 #[x.val, y.val] w fun e w' => e = .returned (.int .i64 (cmpP x y)) ∧ Gr w w' := by
  have hc := fun b1 b2 b3 W K => cmp_fn b1 b2 b3 x y W K
  generalize cmpP x y = r at hc ⊢
  unfold PodV.val at hc
  unfold PodV.val
  replace hc := Lib.hid hc
  have ho := Lib.hid order_fn
  unfold cmpV keysV at ho
  go_enter Try.func10, Try.ntmps10
  go_wp2_with fail
  have g0 := ((Gr.refl w).alloc (.cells #[.int .i64 x.k, .int .i64 x.p, .bool x.f, .int .i64 x.g, .slice x.A x.m x.c, .int .i64 x.a, .int .i64 x.h, .int .i64 x.d, .int .i64 x.t] 25)).alloc (.cells #[.int .i64 y.k, .int .i64 y.p, .bool y.f, .int .i64 y.g, .slice y.A y.m y.c, .int .i64 y.a, .int .i64 y.h, .int .i64 y.d, .int .i64 y.t] 25)
  have X := (Cel9.new w x 25 _ rfl).keep (Keep.one _ (.cells #[.int .i64 y.k, .int .i64 y.p, .bool y.f, .int .i64 y.g, .slice y.A y.m y.c, .int .i64 y.a, .int .i64 y.h, .int .i64 y.d, .int .i64 y.t] 25))
  have Y := Cel9.new (w.alloc (.cells #[.int .i64 x.k, .int .i64 x.p, .bool x.f, .int .i64 x.g, .slice x.A x.m x.c, .int .i64 x.a, .int .i64 x.h, .int .i64 x.d, .int .i64 x.t] 25)) y 25 _ rfl
  rw [show (w.alloc (.cells #[.int .i64 x.k, .int .i64 x.p, .bool x.f, .int .i64 x.g, .slice x.A x.m x.c, .int .i64 x.a, .int .i64 x.h, .int .i64 x.d, .int .i64 x.t] 25)).heap.size = w.heap.size + 1 by simp] at Y
  generalize (w.alloc (.cells #[.int .i64 x.k, .int .i64 x.p, .bool x.f, .int .i64 x.g, .slice x.A x.m x.c, .int .i64 x.a, .int .i64 x.h, .int .i64 x.d, .int .i64 x.t] 25)).alloc (.cells #[.int .i64 y.k, .int .i64 y.p, .bool y.f, .int .i64 y.g, .slice y.A y.m y.c, .int .i64 y.a, .int .i64 y.h, .int .i64 y.d, .int .i64 y.t] 25) = w0 at g0 X Y ⊢
  replace g0 := Lib.hid g0
  have x0 := X.e0; have x1 := X.e1; have x2 := X.e2; have x3 := X.e3; have x4 := X.e4; have x5 := X.e5; have x6 := X.e6; have x7 := X.e7; have x8 := X.e8
  have y0 := Y.e0; have y1 := Y.e1; have y2 := Y.e2; have y3 := Y.e3; have y4 := Y.e4; have y5 := Y.e5; have y6 := Y.e6; have y7 := Y.e7; have y8 := Y.e8
  clear X Y
  simp only [Nat.zero_add] at x1 x2 x3 x4 x5 x6 x7 x8 y1 y2 y3 y4 y5 y6 y7 y8
  generalize w.heap.size = q at *
  go_region_held3 (fun w' => w'.cell? ⟨q, 0, none⟩ = some (.int .i64 x.k) ∧ w'.cell? ⟨q, 1, none⟩ = some (.int .i64 x.p) ∧ w'.cell? ⟨q, 2, none⟩ = some (.bool x.f) ∧ w'.cell? ⟨q, 3, none⟩ = some (.int .i64 x.g) ∧ w'.cell? ⟨q, 4, none⟩ = some (.slice x.A x.m x.c) ∧ w'.cell? ⟨q, 5, none⟩ = some (.int .i64 x.a) ∧ w'.cell? ⟨q, 6, none⟩ = some (.int .i64 x.h) ∧ w'.cell? ⟨q, 7, none⟩ = some (.int .i64 x.d) ∧ w'.cell? ⟨q, 8, none⟩ = some (.int .i64 x.t)
      ∧ w'.cell? ⟨q + 1, 0, none⟩ = some (.int .i64 y.k) ∧ w'.cell? ⟨q + 1, 1, none⟩ = some (.int .i64 y.p) ∧ w'.cell? ⟨q + 1, 2, none⟩ = some (.bool y.f) ∧ w'.cell? ⟨q + 1, 3, none⟩ = some (.int .i64 y.g) ∧ w'.cell? ⟨q + 1, 4, none⟩ = some (.slice y.A y.m y.c) ∧ w'.cell? ⟨q + 1, 5, none⟩ = some (.int .i64 y.a) ∧ w'.cell? ⟨q + 1, 6, none⟩ = some (.int .i64 y.h) ∧ w'.cell? ⟨q + 1, 7, none⟩ = some (.int .i64 y.d) ∧ w'.cell? ⟨q + 1, 8, none⟩ = some (.int .i64 y.t))
      ((refine (fun (K : Gr w0 _) => ⟨K.cell x0, K.cell x1, K.cell x2, K.cell x3, K.cell x4, K.cell x5, K.cell x6, K.cell x7, K.cell x8, K.cell y0, K.cell y1, K.cell y2, K.cell y3, K.cell y4, K.cell y5, K.cell y6, K.cell y7, K.cell y8⟩) ?_; repeat (with_reducible first | exact Gr.refl w0 | apply Gr.alloc | apply Gr.drew | apply Gr.drewN | (refine Gr.trans ?_ h1.out) | (refine Gr.trans ?_ h2.out))))
      (first
        | (go_at_call 22; refine (ho.out _).mono ?_; rintro e w1 ⟨b1, b2, b3, rfl, K1, h1, _, _, _⟩; replace h1 := Lib.hid h1; replace K1 := Lib.hid K1)
        | (go_at_call 29; refine (hc.out _ _ _ _ K1.out).mono ?_; rintro e w2 ⟨rfl, h2⟩; replace h2 := Lib.hid h2))
  all_goals
    go_wp2
    go_ret
    refine ⟨rfl, g0.out.trans ?_⟩
    repeat (with_reducible first | exact Gr.refl w0 | apply Gr.alloc | apply Gr.drew | apply Gr.drewN | (refine Gr.trans ?_ h1.out) | (refine Gr.trans ?_ h2.out))

def befP (x y : PodV) : Bool := decide (cmpP x y < 0)
set_option maxHeartbeats 4000000 in
theorem before_fn (x y : PodV) (w : World) : Calls Try.prog 12 #[x.val, y.val] w fun e w' => e = .returned (.bool (befP x y)) ∧ Gr w w' := by
  have hc := fun W => kcompare_fn x y W
  unfold befP
  generalize cmpP x y = r at hc ⊢
  unfold PodV.val at hc
  unfold PodV.val
  replace hc := Lib.hid hc
  go_enter Try.func12, Try.ntmps12
  go_wp2_with fail
  refine (hc.out _).mono ?_
  rintro e w1 ⟨rfl, h1⟩
  replace h1 := Lib.hid h1
  go_wp2
  go_ret
  exact ⟨rfl, (((Gr.refl w).alloc _).alloc _).trans h1.out⟩

/-- The first of the least. -/
def leastI (P : Nat → PodV) : Nat → Nat
  | 0 => 0
  | n + 1 => if cmpP (P n) (P (leastI P n)) < 0 then n else leastI P n
theorem leastI_lt (P : Nat → PodV) : ∀ n, 0 < n → leastI P n < n
  | 0, h => absurd h (Nat.lt_irrefl _)
  | n + 1, _ => by
    unfold leastI
    split
    · omega
    · cases n with
      | zero => exact Nat.one_pos
      | succ n => have := leastI_lt P (n + 1) (by omega); omega
theorem leastI_le (P : Nat → PodV) (n : Nat) : leastI P n ≤ n := by
  rcases Nat.eq_zero_or_pos n with rfl | h
  · exact Nat.le_refl _
  · exact Nat.le_of_lt (leastI_lt P n h)

set_option maxRecDepth 100000 in
set_option maxHeartbeats 8000000 in
theorem least_fn (A : Option Addr) (n c : Nat) (P : Nat → PodV) (w : World) (hR : RdPods w A n P) :
    Calls Try.prog 14 #[.slice A n c] w fun e w' => e = .returned (.tuple #[.int .i64 (leastI P n), .bool (decide (0 < n))]) ∧ Keep w w' := by
  have mixed : Try.prog.follows .mixedOrders = true := by kernel_rfl
  have hn := hR.small
  replace hR := Lib.hid hR
  go_enter Try.func14, Try.ntmps14
  go_wp2_with fail
  refine (order_fn w).mono ?_
  rintro e w1 ⟨b1, b2, b3, rfl, K1, g1, _, _, _⟩
  unfold cmpV keysV
  have R1 := Lib.hid (hR.out.keep g1.keep)
  replace K1 := Lib.hid K1
  replace g1 := Lib.hid g1
  clear hR
  go_wp2
  go_loopg [5, 10] n (fun gx s5 s10 wr => ∃ j : Nat, j ≤ n ∧ gx = n - j ∧ s10 = .int .i64 j ∧ s5 = .int .i64 (leastI P j) ∧ Hid (Gr w1 wr))
  case atStart => exact ⟨0, Nat.zero_le _, rfl, rfl, rfl, Gr.refl _⟩
  case round =>
    obtain ⟨j, hj, rfl, rfl, rfl, G⟩ := hrel
    have R2 := Lib.hid (R1.out.keep G.out.keep)
    have K2 := Lib.hid (K1.out.keep G.out.keep)
    obtain ⟨l, hl⟩ : ∃ l, l = leastI P j := ⟨_, rfl⟩
    rw [← hl]
    have hl2 : l ≤ j := by rw [hl]; exact leastI_le P j
    replace hl := Lib.hid hl
    by_cases hlt : j < n
    · obtain ⟨b, off, hA, ca⟩ := R2.out.adr (by omega)
      subst hA
      have q1 := pods_at b off n c j hlt
      have q2 := pods_at b off n c l (by omega)
      have X := ca j hlt
      have Y := ca l (by omega)
      clear ca
      obtain ⟨x, hx⟩ : ∃ x, x = P j := ⟨_, rfl⟩
      obtain ⟨y, hy⟩ : ∃ y, y = P l := ⟨_, rfl⟩
      rw [← hx] at X
      rw [← hy] at Y
      have hc : ∀ (n : Nat) (os : Array Obj), Calls Try.prog 29 #[x.val, y.val, .pointer (some ⟨b1, 0, none⟩), .pointer (some ⟨b2, 0, none⟩), .pointer (some ⟨b3, 0, none⟩)] (grow (wr.drewN n) os) fun e w' => e = .returned (.int .i64 (cmpP x y)) ∧ ∃ q os', w' = grow ((grow (wr.drewN n) os).drewN q) os' :=
        fun n os => cmp_fn b1 b2 b3 x y _ (K2.out.keep (Gr.keep ⟨n, os, rfl⟩))
      have hs : Hid (leastI P (j + 1) = if cmpP x y < 0 then j else l) := by show _ = _; rw [hx, hy, hl.out]; rfl
      replace hx := Lib.hid hx
      replace hy := Lib.hid hy
      generalize cmpP x y = r at hc hs
      unfold PodV.val at hc
      have x0 := grows X.e0; have x1 := grows X.e1; have x2 := grows X.e2; have x3 := grows X.e3; have x4 := grows X.e4; have x5 := grows X.e5; have x6 := grows X.e6; have x7 := grows X.e7; have x8 := grows X.e8
      have y0 := grows Y.e0; have y1 := grows Y.e1; have y2 := grows Y.e2; have y3 := grows Y.e3; have y4 := grows Y.e4; have y5 := grows Y.e5; have y6 := grows Y.e6; have y7 := grows Y.e7; have y8 := grows Y.e8
      clear X Y
      by_cases hr : r < 0
      · have e2 : Hid (leastI P (j + 1) = j) := hs.out.trans (if_pos hr)
        go_wp2_with fail
        go_quiet_grown (first | (go_at_call 29; refine Calls.grown_of (hc _ _)))
        clear x0 x1 x2 x3 x4 x5 x6 x7 x8 y0 y1 y2 y3 y4 y5 y6 y7 y8 hc
        have G2 : Hid (Gr w1 (grow (wr.drewN nq) osq)) := G.out.trans ⟨nq, osq, rfl⟩
        generalize grow (wr.drewN nq) osq = w2 at G2 ⊢
        go_wp2
        go_roundg (n - (j + 1))
        case measure => omega
        case rel => exact ⟨j + 1, hlt, rfl, by go_num, by rw [e2.out], G2⟩
      · have e2 : Hid (leastI P (j + 1) = l) := hs.out.trans (if_neg hr)
        go_wp2_with fail
        go_quiet_grown (first | (go_at_call 29; refine Calls.grown_of (hc _ _)))
        clear x0 x1 x2 x3 x4 x5 x6 x7 x8 y0 y1 y2 y3 y4 y5 y6 y7 y8 hc
        have G2 : Hid (Gr w1 (grow (wr.drewN nq) osq)) := G.out.trans ⟨nq, osq, rfl⟩
        generalize grow (wr.drewN nq) osq = w2 at G2 ⊢
        go_wp2
        go_roundg (n - (j + 1))
        case measure => omega
        case rel => exact ⟨j + 1, hlt, rfl, by go_num, by rw [e2.out], G2⟩
    · obtain rfl : j = n := by omega
      by_cases h0 : 0 < j
      · have hd : Hid (decide (0 < j) = true) := decide_eq_true h0
        go_wp2
        go_ret2
        exact ⟨by rw [hd.out, ← hl.out]; rfl, (g1.out.trans G.out).keep⟩
      · have hd : Hid (decide (0 < j) = false) := decide_eq_false h0
        obtain rfl : j = 0 := by omega
        go_wp2
        go_ret2
        exact ⟨by rw [← hl.out]; rfl, (g1.out.trans G.out).keep⟩
end Go.Proofs.Ytflheiodaklceaa
