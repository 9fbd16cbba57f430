/-
  The comparison of timers: by their keys, one after another. No condition.
-/
import Derived.Test.YtdjakljkcjadhaaGr9
import Derived.Laws.EntriesVeiled
import Derived.WalkMore
namespace Go.Proofs.Ytdjakljkcjadhaa.T9
open Go.RowKit Go.Sort Go.Lib Go.Shelf

def cmpI (a b : Int) : Int := if a < b then -1 else if b < a then 1 else 0
set_option maxHeartbeats 1000000 in
theorem key1_fn (x : TmV) (w : World) : Calls Try.prog 33 #[x.val] w fun e w' => e = .returned (.int .i64 x.t) ∧ Gr w w' := by
  unfold TmV.val
  go_enter Try.func33, Try.ntmps33
  go_wp2
  go_ret
  exact ⟨rfl, Gr.one _ _⟩
set_option maxHeartbeats 1000000 in
theorem key2_fn (x : TmV) (w : World) : Calls Try.prog 34 #[x.val] w fun e w' => e = .returned (.int .i64 x.a) ∧ Gr w w' := by
  unfold TmV.val
  go_enter Try.func34, Try.ntmps34
  go_wp2
  go_ret
  exact ⟨rfl, Gr.one _ _⟩
set_option maxHeartbeats 1000000 in
theorem key3_fn (x : TmV) (w : World) : Calls Try.prog 35 #[x.val] w fun e w' => e = .returned (.int .i64 x.k) ∧ Gr w w' := by
  unfold TmV.val
  go_enter Try.func35, Try.ntmps35
  go_wp2
  go_ret
  exact ⟨rfl, Gr.one _ _⟩
set_option maxHeartbeats 1000000 in
theorem nan_fn (x : Int) (w : World) : Calls Try.prog 54 #[.int .i64 x] w fun e w' => e = .returned (.bool false) ∧ w = w' := by
  go_enter Try.func54, Try.ntmps54
  go_wp2
  go_ret
  exact ⟨rfl, rfl⟩
set_option maxHeartbeats 1000000 in
theorem compare_fn (x y : Int) (w : World) : Calls Try.prog 48 #[.int .i64 x, .int .i64 y] w fun e w' => e = .returned (.int .i64 (cmpI x y)) ∧ w = w' := by
  by_cases h1 : x < y
  · rw [show cmpI x y = -1 from if_pos h1]
    go_enter Try.func48, Try.ntmps48
    go_wp2_with fail
    refine (nan_fn x w).mono ?_
    rintro e w1 ⟨rfl, rfl⟩
    go_wp2_with fail
    refine (nan_fn y w).mono ?_
    rintro e w1 ⟨rfl, rfl⟩
    go_wp2
    go_ret
    exact ⟨rfl, rfl⟩
  · by_cases h2 : y < x
    · rw [show cmpI x y = 1 from (if_neg h1).trans (if_pos h2)]
      go_enter Try.func48, Try.ntmps48
      go_wp2_with fail
      refine (nan_fn x w).mono ?_
      rintro e w1 ⟨rfl, rfl⟩
      go_wp2_with fail
      refine (nan_fn y w).mono ?_
      rintro e w1 ⟨rfl, rfl⟩
      go_wp2
      go_ret
      exact ⟨rfl, rfl⟩
    · rw [show cmpI x y = 0 from (if_neg h1).trans (if_neg h2)]
      go_enter Try.func48, Try.ntmps48
      go_wp2_with fail
      refine (nan_fn x w).mono ?_
      rintro e w1 ⟨rfl, rfl⟩
      go_wp2_with fail
      refine (nan_fn y w).mono ?_
      rintro e w1 ⟨rfl, rfl⟩
      go_wp2
      go_ret
      exact ⟨rfl, rfl⟩
/-- By all keys: below 0: x comes before y. -/
def or3 (x y z : Int) : Int := if x ≠ 0 then x else if y ≠ 0 then y else z
def cmpT (x y : TmV) : Int := or3 (cmpI x.t y.t) (cmpI x.a y.a) (cmpI x.k y.k)
theorem cmp_bef (x y : TmV) : decide (cmpT x y < 0) = befT x y := by
  unfold befT cmpT or3 cmpI
  refine decide_eq_decide.2 ?_
  repeat' split
  all_goals omega
theorem cel_new (w : World) (x : TmV) (o : Obj) (ho : o = .cells #[.int .i64 x.k, .int .i64 x.t, .int .i64 x.a] 33) : Cel3 (w.alloc o) w.heap.size 0 x := by
  subst ho
  refine ⟨?_, ?_, ?_⟩ <;> (rw [World.cell?_alloc_new]; rfl)

set_option maxRecDepth 100000 in
set_option maxHeartbeats 8000000 in
theorem by_fn (x y : TmV) (b c : Nat) (w : World) (h0 : w.cell? ⟨b, 0, none⟩ = some (.func (.func 33) #[] #[])) (h1 : w.cell? ⟨b, 1, none⟩ = some (.func (.func 34) #[] #[])) (h2 : w.cell? ⟨b, 2, none⟩ = some (.func (.func 35) #[] #[])) :
    Calls Try.prog 32 #[x.val, y.val, .slice (some ⟨b, 0, none⟩) 3 c] w fun e w' => e = .returned (.int .i64 (cmpT x y)) ∧ Gr w w' := by
  have mixed : Try.prog.follows .mixedOrders = true := by kernel_rfl
  have e1 : ∀ args w, (callFunc 33 args).run Try.prog w = .ok (.enter 33 args) w := enters_of Try.func33 (by kernel_rfl) rfl
  have e2 : ∀ args w, (callFunc 34 args).run Try.prog w = .ok (.enter 34 args) w := enters_of Try.func34 (by kernel_rfl) rfl
  have e3 : ∀ args w, (callFunc 35 args).run Try.prog w = .ok (.enter 35 args) w := enters_of Try.func35 (by kernel_rfl) rfl
  have k1 := key1_fn
  have k2 := key2_fn
  have k3 := key3_fn
  unfold TmV.val Gr at k1 k2 k3
  have hc : ∀ (u v : Int) W, Calls Try.prog 48 #[.int .i64 u, .int .i64 v] W fun e w' => e = .returned (.int .i64 (cmpI u v)) ∧ ∃ q os, w' = grow (W.drewN q) os := fun u v W => (compare_fn u v W).mono fun e w' h => ⟨h.1, 0, #[], by rw [← h.2, grow_empty]; rfl⟩
  have c1 := hc x.t y.t
  have c2 := hc x.a y.a
  have c3 := hc x.k y.k
  clear hc
  unfold cmpT
  generalize cmpI x.t y.t = u at c1 ⊢
  generalize cmpI x.a y.a = v at c2 ⊢
  generalize cmpI x.k y.k = z at c3 ⊢
  unfold TmV.val
  go_enter Try.func32, Try.ntmps32
  go_wp2_with fail
  have g0 := ((Gr.refl w).alloc (.cells #[.int .i64 x.k, .int .i64 x.t, .int .i64 x.a] 33)).alloc (.cells #[.int .i64 y.k, .int .i64 y.t, .int .i64 y.a] 33)
  have X := (cel_new w x _ rfl).keep (Keep.one _ (.cells #[.int .i64 y.k, .int .i64 y.t, .int .i64 y.a] 33))
  have Y := cel_new (w.alloc (.cells #[.int .i64 x.k, .int .i64 x.t, .int .i64 x.a] 33)) y _ rfl
  rw [show (w.alloc (.cells #[.int .i64 x.k, .int .i64 x.t, .int .i64 x.a] 33)).heap.size = w.heap.size + 1 by simp] at Y
  have h0' := g0.cell h0
  have h1' := g0.cell h1
  have h2' := g0.cell h2
  clear h0 h1 h2
  generalize (w.alloc (.cells #[.int .i64 x.k, .int .i64 x.t, .int .i64 x.a] 33)).alloc (.cells #[.int .i64 y.k, .int .i64 y.t, .int .i64 y.a] 33) = w0 at *
  replace g0 := Lib.hid g0
  replace X := Lib.hid X
  replace Y := Lib.hid Y
  replace h0' := Lib.hid h0'
  replace h1' := Lib.hid h1'
  replace h2' := Lib.hid h2'
  generalize w.heap.size = q at *
  go_loopg [8, 9, 12] 3 (fun gx _ _ s12 wr => ∃ j : Nat, j ≤ 3 ∧ gx = 3 - j ∧ s12 = .int .i64 j ∧ Hid (Gr w0 wr) ∧ Hid ((0 < j → u = 0) ∧ (1 < j → v = 0) ∧ (2 < j → z = 0)))
  case atStart => exact ⟨0, by omega, rfl, rfl, Gr.refl _, ⟨fun h => by omega, fun h => by omega, fun h => by omega⟩⟩
  case round =>
    obtain ⟨j, hj, rfl, rfl, G, HI⟩ := hrel
    obtain rfl | rfl | rfl | rfl : j = 0 ∨ j = 1 ∨ j = 2 ∨ j = 3 := by omega
    · have hf := grows (G.out.cell h0'.out) 0 #[]
      rw [show grow (wr.drewN 0) #[] = wr by rw [grow_empty]; rfl] at hf
      have x0 := grows (G.out.cell X.out.e0); have x1 := grows (G.out.cell X.out.e1); have x2 := grows (G.out.cell X.out.e2)
      have y0 := grows (G.out.cell Y.out.e0); have y1 := grows (G.out.cell Y.out.e1); have y2 := grows (G.out.cell Y.out.e2)
      simp only [Nat.zero_add] at x1 x2 y1 y2
      by_cases hx : u = 0
      · have H1 := Lib.hid hx
        have hb : (u != 0) = false := by simp [hx]
        clear hx
        go_wp2_with fail
        go_quiet_grown (first
          | (go_at_fn 33; refine Calls.grown_of (k1 x _))
          | (go_at_fn 33; refine Calls.grown_of (k1 y _))
          | (go_at_call 48; refine Calls.grown_of (c1 _)))
        clear x0 x1 x2 y0 y1 y2 hf
        have G2 : Hid (Gr w0 (grow (wr.drewN nq) osq)) := G.out.trans ⟨nq, osq, rfl⟩
        generalize grow (wr.drewN nq) osq = w2 at *
        go_wp2
        go_roundg 2
        case measure => omega
        case rel => exact ⟨1, by omega, rfl, rfl, G2, ⟨fun _ => H1.out, fun h => by omega, fun h => by omega⟩⟩
      · have hb : (u != 0) = true := by simpa using hx
        have e : Hid (or3 u v z = u) := if_pos hx
        go_wp2_with fail
        go_quiet_grown (first
          | (go_at_fn 33; refine Calls.grown_of (k1 x _))
          | (go_at_fn 33; refine Calls.grown_of (k1 y _))
          | (go_at_call 48; refine Calls.grown_of (c1 _)))
        clear x0 x1 x2 y0 y1 y2 hf
        have G2 : Hid (Gr w0 (grow (wr.drewN nq) osq)) := G.out.trans ⟨nq, osq, rfl⟩
        generalize grow (wr.drewN nq) osq = w2 at *
        go_wp2
        go_ret
        exact ⟨by rw [e.out]; rfl, g0.out.trans G2.out⟩
    · have hf := grows (G.out.cell h1'.out) 0 #[]
      rw [show grow (wr.drewN 0) #[] = wr by rw [grow_empty]; rfl] at hf
      have x0 := grows (G.out.cell X.out.e0); have x1 := grows (G.out.cell X.out.e1); have x2 := grows (G.out.cell X.out.e2)
      have y0 := grows (G.out.cell Y.out.e0); have y1 := grows (G.out.cell Y.out.e1); have y2 := grows (G.out.cell Y.out.e2)
      simp only [Nat.zero_add] at x1 x2 y1 y2
      by_cases hx : v = 0
      · have H1 := Lib.hid hx
        have hb : (v != 0) = false := by simp [hx]
        clear hx
        go_wp2_with fail
        go_quiet_grown (first
          | (go_at_fn 34; refine Calls.grown_of (k2 x _))
          | (go_at_fn 34; refine Calls.grown_of (k2 y _))
          | (go_at_call 48; refine Calls.grown_of (c2 _)))
        clear x0 x1 x2 y0 y1 y2 hf
        have G2 : Hid (Gr w0 (grow (wr.drewN nq) osq)) := G.out.trans ⟨nq, osq, rfl⟩
        generalize grow (wr.drewN nq) osq = w2 at *
        go_wp2
        go_roundg 1
        case measure => omega
        case rel => exact ⟨2, by omega, rfl, rfl, G2, ⟨fun _ => HI.out.1 (by omega), fun _ => H1.out, fun h => by omega⟩⟩
      · have hb : (v != 0) = true := by simpa using hx
        have e : Hid (or3 u v z = v) := by show _ = _; unfold or3; rw [if_neg (by simp [HI.out.1 (by omega)]), if_pos hx]
        go_wp2_with fail
        go_quiet_grown (first
          | (go_at_fn 34; refine Calls.grown_of (k2 x _))
          | (go_at_fn 34; refine Calls.grown_of (k2 y _))
          | (go_at_call 48; refine Calls.grown_of (c2 _)))
        clear x0 x1 x2 y0 y1 y2 hf
        have G2 : Hid (Gr w0 (grow (wr.drewN nq) osq)) := G.out.trans ⟨nq, osq, rfl⟩
        generalize grow (wr.drewN nq) osq = w2 at *
        go_wp2
        go_ret
        exact ⟨by rw [e.out]; rfl, g0.out.trans G2.out⟩
    · have hf := grows (G.out.cell h2'.out) 0 #[]
      rw [show grow (wr.drewN 0) #[] = wr by rw [grow_empty]; rfl] at hf
      have x0 := grows (G.out.cell X.out.e0); have x1 := grows (G.out.cell X.out.e1); have x2 := grows (G.out.cell X.out.e2)
      have y0 := grows (G.out.cell Y.out.e0); have y1 := grows (G.out.cell Y.out.e1); have y2 := grows (G.out.cell Y.out.e2)
      simp only [Nat.zero_add] at x1 x2 y1 y2
      by_cases hx : z = 0
      · have H1 := Lib.hid hx
        have hb : (z != 0) = false := by simp [hx]
        clear hx
        go_wp2_with fail
        go_quiet_grown (first
          | (go_at_fn 35; refine Calls.grown_of (k3 x _))
          | (go_at_fn 35; refine Calls.grown_of (k3 y _))
          | (go_at_call 48; refine Calls.grown_of (c3 _)))
        clear x0 x1 x2 y0 y1 y2 hf
        have G2 : Hid (Gr w0 (grow (wr.drewN nq) osq)) := G.out.trans ⟨nq, osq, rfl⟩
        generalize grow (wr.drewN nq) osq = w2 at *
        go_wp2
        go_roundg 0
        case measure => omega
        case rel => exact ⟨3, by omega, rfl, rfl, G2, ⟨fun _ => HI.out.1 (by omega), fun _ => HI.out.2.1 (by omega), fun _ => H1.out⟩⟩
      · have hb : (z != 0) = true := by simpa using hx
        have e : Hid (or3 u v z = z) := by show _ = _; unfold or3; rw [if_neg (by simp [HI.out.1 (by omega)]), if_neg (by simp [HI.out.2.1 (by omega)])]
        go_wp2_with fail
        go_quiet_grown (first
          | (go_at_fn 35; refine Calls.grown_of (k3 x _))
          | (go_at_fn 35; refine Calls.grown_of (k3 y _))
          | (go_at_call 48; refine Calls.grown_of (c3 _)))
        clear x0 x1 x2 y0 y1 y2 hf
        have G2 : Hid (Gr w0 (grow (wr.drewN nq) osq)) := G.out.trans ⟨nq, osq, rfl⟩
        generalize grow (wr.drewN nq) osq = w2 at *
        go_wp2
        go_ret
        exact ⟨by rw [e.out]; rfl, g0.out.trans G2.out⟩
    · have e : Hid (or3 u v z = 0) := by show _ = _; unfold or3; rw [if_neg (by simp [HI.out.1 (by omega)]), if_neg (by simp [HI.out.2.1 (by omega)]), HI.out.2.2 (by omega)]
      go_wp2
      go_ret
      exact ⟨by rw [e.out]; rfl, g0.out.trans G.out⟩

set_option maxRecDepth 100000 in
set_option maxHeartbeats 8000000 in
theorem tcompare_fn (x y : TmV) (w : World) : Calls Try.prog 25 #[x.val, y.val] w fun e w' => e = .returned (.int .i64 (cmpT x y)) ∧ Gr w w' := by
  have hb := fun b c W => by_fn x y b c W
  generalize cmpT x y = r at hb ⊢
  unfold TmV.val at hb ⊢
  replace hb := Lib.hid hb
  go_enter Try.func25, Try.ntmps25
  go_wp2_with fail
  refine (hb.out _ _ _ ?_ ?_ ?_).mono ?_
  · simp (maxDischargeDepth := 12) [go_sem]
  · simp (maxDischargeDepth := 12) [go_sem]
  · simp (maxDischargeDepth := 12) [go_sem]
  rintro e w1 ⟨rfl, h1⟩
  replace h1 := Lib.hid h1
  go_wp2
  go_ret
  exact ⟨rfl, (((Gr.refl w).alloc _).alloc _).alloc _ |>.trans h1.out⟩
end Go.Proofs.Ytdjakljkcjadhaa.T9
