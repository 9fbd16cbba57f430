/-
  The reference's Few, Same, Highest, Pod. No condition.
-/
import Derived.Test.YtmbeghngnnpmlaaDoorRef11
import Derived.Test.YtmbeghngnnpmlaaDoorOrd11
import Derived.Test.YtmbeghngnnpmlaaDoorPodV11
namespace Go.Proofs.YtmbeghngnnpmlaaDoor.T11
open Go.RowKit Go.Sort Go.Lib Go.Shelf

def FewC (P : Nat → ClV) (n : Nat) : Prop := n ≤ 100 ∧ ∀ j, j < n → 0 ≤ (P j).k ∧ (P j).k ≤ 1073741824 ∧ -1073741824 ≤ (P j).p ∧ (P j).p ≤ 1073741824
set_option maxRecDepth 100000 in
set_option maxHeartbeats 4000000 in
theorem rfew_fn (A : Option Addr) (n c : Nat) (P : Nat → ClV) (w : World) (hR : RdC w A n P) (b : Bool) (hb : b = true ↔ FewC P n) :
    Calls Tryd.prog 9 #[.slice A n c] w fun e w' => e = .returned (.bool b) ∧ w = w' := by
  have hn := hR.small
  replace hR := Lib.hid hR
  replace hb := Lib.hid hb
  go_enter Tryd.func9, Tryd.ntmps9
  go_wp2
  go_loopg [3] n (fun gx s3 wr => ∃ j : Nat, j ≤ n ∧ gx = n - j ∧ s3 = .int .i64 j ∧ Hid (w = wr) ∧ Hid (∀ t, t < j → 0 ≤ (P t).k ∧ (P t).k ≤ 1073741824 ∧ -1073741824 ≤ (P t).p ∧ (P t).p ≤ 1073741824))
  case atStart => exact ⟨0, Nat.zero_le _, rfl, rfl, rfl, fun t ht => absurd ht (Nat.not_lt_zero _)⟩
  case round =>
    obtain ⟨j, hj, rfl, rfl, G, I⟩ := hrel
    have G := G.out
    subst G
    by_cases hlt : j < n
    · obtain ⟨bb, off, hA, ca⟩ := hR.out.adr (by omega)
      subst hA
      have q1 := atC bb off n c j hlt
      have X := ca j hlt
      clear ca
      obtain ⟨x, hx⟩ : ∃ x, x = P j := ⟨_, rfl⟩
      rw [← hx] at X
      have no : Hid (¬ (0 ≤ x.k ∧ x.k ≤ 1073741824 ∧ -1073741824 ≤ x.p ∧ x.p ≤ 1073741824) → b = false) := fun h => by
        cases hc : b with
        | false => rfl
        | true => exact absurd ((hb.out.1 hc).2 j hlt) (by rw [← hx]; exact h)
      have x0 := X.e0
      have x1 := X.e1
      clear X
      have yes : Hid ((0 ≤ x.k ∧ x.k ≤ 1073741824 ∧ -1073741824 ≤ x.p ∧ x.p ≤ 1073741824) → ∀ t, t < j + 1 → 0 ≤ (P t).k ∧ (P t).k ≤ 1073741824 ∧ -1073741824 ≤ (P t).p ∧ (P t).p ≤ 1073741824) := fun h t ht => by
        by_cases e : t = j
        · rw [e, ← hx]; exact h
        · exact I.out t (by omega)
      replace hx := Lib.hid hx
      by_cases h0 : x.k < 0
      · have e := Lib.hid (no.out (by omega))
        go_wp2
        go_ret
        exact ⟨by rw [e.out]; rfl, rfl⟩
      · by_cases h1 : 1073741824 < x.k
        · have e := Lib.hid (no.out (by omega))
          go_wp2
          go_ret
          exact ⟨by rw [e.out]; rfl, rfl⟩
        · by_cases h2 : x.p < -1073741824
          · have e := Lib.hid (no.out (by omega))
            go_wp2
            go_ret
            exact ⟨by rw [e.out]; rfl, rfl⟩
          · by_cases h3 : 1073741824 < x.p
            · have e := Lib.hid (no.out (by omega))
              go_wp2
              go_ret
              exact ⟨by rw [e.out]; rfl, rfl⟩
            · have e := Lib.hid (yes.out ⟨by omega, by omega, by omega, by omega⟩)
              go_wp2
              go_roundg (n - (j + 1))
              case measure => omega
              case rel => exact ⟨j + 1, hlt, rfl, by go_num, rfl, e⟩
    · obtain rfl : j = n := by omega
      by_cases h1 : j ≤ 100
      · have e : Hid (b = true) := hb.out.2 ⟨h1, I.out⟩
        have hz : (j : Int) ≤ 100 := by omega
        go_wp2
        go_ret
        exact ⟨by rw [e.out]; rfl, rfl⟩
      · have e : Hid (b = false) := by
          cases hc : b with
          | false => exact rfl
          | true => exact absurd (hb.out.1 hc).1 h1
        have hz : ¬ (j : Int) ≤ 100 := by omega
        go_wp2
        go_ret
        exact ⟨by rw [e.out]; rfl, rfl⟩
theorem Tryd.neqC (x : ClV) (w : World) : (binOp .neq 30 x.val x.val).run Tryd.prog w = .ok (.bool false) w := by
  obtain ⟨k, p, f⟩ := x
  unfold ClV.val
  simp [go_sem]
set_option maxRecDepth 100000 in
set_option maxHeartbeats 4000000 in
/-- Two rows of the same classes. -/
theorem rsame_fn (A B : Option Addr) (n c d : Nat) (P : Nat → ClV) (w : World) (h1 : RdC w A n P) (h2 : RdC w B n P) :
    Calls Tryd.prog 13 #[.slice A n c, .slice B n d] w fun e w' => e = .returned (.bool true) ∧ Drawn w w' := by
  have mixed : Tryd.prog.follows .mixedOrders = true := by kernel_rfl
  have hn := h1.small
  replace h1 := Lib.hid h1
  replace h2 := Lib.hid h2
  go_enter Tryd.func13, Tryd.ntmps13
  go_wp2
  go_loopg [5] n (fun gx s5 wr => ∃ j : Nat, j ≤ n ∧ gx = n - j ∧ s5 = .int .i64 j ∧ Hid (Drawn w wr))
  case atStart => exact ⟨0, Nat.zero_le _, rfl, rfl, Drawn.refl _⟩
  case round =>
    obtain ⟨j, hj, rfl, rfl, G⟩ := hrel
    by_cases hlt : j < n
    · obtain ⟨b, off, hA, ca⟩ := (h1.out.keep G.out.keep).adr (by omega)
      subst hA
      obtain ⟨b', off', hB, cb⟩ := (h2.out.keep G.out.keep).adr (by omega)
      subst hB
      have q1 := atC b off n c j hlt
      have q2 := atC b' off' n d j hlt
      have X := ca j hlt
      have Y := cb j hlt
      obtain ⟨x, hx⟩ : ∃ x, x = P j := ⟨_, rfl⟩
      rw [← hx] at X Y
      replace hx := Lib.hid hx
      clear ca cb
      have hq := Tryd.neqC x
      unfold ClV.val at hq
      have x0 := X.e0; have x1 := X.e1; have x2 := X.e2
      have y0 := Y.e0; have y1 := Y.e1; have y2 := Y.e2
      clear X Y
      go_wp2_with fail
      go_quiet (fail)
      have G2 : Hid (Drawn w (wr.drewN nq)) := G.out.drewN nq
      generalize wr.drewN nq = w2 at G2 ⊢
      clear x0 x1 x2 y0 y1 y2
      go_wp2
      go_roundg (n - (j + 1))
      case measure => omega
      case rel => exact ⟨j + 1, hlt, rfl, by go_num, G2⟩
    · obtain rfl : j = n := by omega
      go_wp2
      go_ret
      exact ⟨rfl, G.out⟩
set_option maxRecDepth 100000 in
set_option maxHeartbeats 4000000 in
theorem rhigh_fn (A : Option Addr) (n c : Nat) (P : Nat → ClV) (w : World) (hR : RdC w A n P) :
    Calls Tryd.prog 18 #[.slice A n c] w fun e w' => e = .returned (.int .i64 (if n = 0 then -1 else (bst P n : Int))) ∧ Drawn w w' := by
  obtain ⟨r, hr⟩ : ∃ r : Int, r = if n = 0 then -1 else (bst P n : Int) := ⟨_, rfl⟩
  rw [← hr]
  replace hr := Lib.hid hr
  have mixed : Tryd.prog.follows .mixedOrders = true := by kernel_rfl
  have hn := hR.small
  replace hR := Lib.hid hR
  go_enter Tryd.func18, Tryd.ntmps18
  go_wp2
  go_loopg [3, 4] n (fun gx s3 s4 wr => ∃ (j : Nat) (z : Int), j ≤ n ∧ gx = n - j ∧ s4 = .int .i64 j ∧ s3 = .int .i64 z ∧ Hid (z = if j = 0 then -1 else (bst P j : Int)) ∧ Hid (Drawn w wr))
  case atStart => exact ⟨0, -1, Nat.zero_le _, rfl, rfl, rfl, rfl, Drawn.refl _⟩
  case round =>
    obtain ⟨j, z, hj, rfl, rfl, rfl, hz, G⟩ := hrel
    by_cases hlt : j < n
    · obtain ⟨b, off, hA, ca⟩ := (hR.out.keep G.out.keep).adr (by omega)
      subst hA
      have q1 := atC b off n c j hlt
      by_cases h0 : j = 0
      · have z0 : z = -1 := by rw [hz.out, if_pos h0]
        have z1 : Hid ((j : Int) = if j + 1 = 0 then -1 else (bst P (j + 1) : Int)) := by
          show _ = _
          rw [if_neg (by omega), h0]
          rfl
        subst z0
        have hd : decide ((-1 : Int) < 0) = true := rfl
        replace h0 := Lib.hid h0
        clear ca
        go_wp2_with fail
        go_quiet (fail)
        have G2 : Hid (Drawn w (wr.drewN nq)) := G.out.drewN nq
        generalize wr.drewN nq = w2 at G2 ⊢
        go_wp2
        go_roundg (n - (j + 1))
        case measure => omega
        case rel => exact ⟨j + 1, j, hlt, rfl, by go_num, rfl, z1, G2⟩
      · obtain ⟨m, hm⟩ : ∃ m, m = bst P j := ⟨_, rfl⟩
        have z0 : z = (m : Int) := by rw [hz.out, if_neg h0, hm]
        have hmj : m < n := by have := bst_lt P (n := j) (by omega); omega
        have q2 := atC b off n c m hmj
        have X := ca j hlt
        have Y := ca m hmj
        have hb := bst_step (P := P) (n := j) (by omega)
        rw [← hm] at hb
        clear ca
        subst z0
        obtain ⟨x, hx⟩ : ∃ x, x = P j := ⟨_, rfl⟩
        obtain ⟨y, hy⟩ : ∃ y, y = P m := ⟨_, rfl⟩
        rw [← hx] at X hb
        rw [← hy] at Y hb
        have x1 := X.e1
        have y1 := Y.e1
        clear X Y
        have hd : decide ((m : Int) < 0) = false := decide_eq_false (by omega)
        replace hx := Lib.hid hx
        replace hy := Lib.hid hy
        replace hm := Lib.hid hm
        replace hz := Lib.hid hz
        by_cases hp : y.p < x.p
        · have z1 : Hid ((j : Int) = if j + 1 = 0 then -1 else (bst P (j + 1) : Int)) := by
            show _ = _
            rw [if_neg (by omega), hb, if_pos hp]
          have hd2 : decide (y.p < x.p) = true := decide_eq_true hp
          replace hb := Lib.hid hb
          replace hp := Lib.hid hp
          go_wp2_with fail
          go_quiet (fail)
          have G2 : Hid (Drawn w (wr.drewN nq)) := G.out.drewN nq
          generalize wr.drewN nq = w2 at G2 ⊢
          clear x1 y1
          go_wp2
          go_roundg (n - (j + 1))
          case measure => omega
          case rel => exact ⟨j + 1, j, hlt, rfl, by go_num, rfl, z1, G2⟩
        · have z1 : Hid ((m : Int) = if j + 1 = 0 then -1 else (bst P (j + 1) : Int)) := by
            show _ = _
            rw [if_neg (by omega), hb, if_neg hp]
          have hd2 : decide (y.p < x.p) = false := decide_eq_false hp
          replace hb := Lib.hid hb
          replace hp := Lib.hid hp
          go_wp2_with fail
          go_quiet (fail)
          have G2 : Hid (Drawn w (wr.drewN nq)) := G.out.drewN nq
          generalize wr.drewN nq = w2 at G2 ⊢
          clear x1 y1
          go_wp2
          go_roundg (n - (j + 1))
          case measure => omega
          case rel => exact ⟨j + 1, m, hlt, rfl, by go_num, rfl, z1, G2⟩
    · obtain rfl : j = n := by omega
      obtain rfl : z = r := by rw [hz.out, hr.out]
      go_wp2
      go_ret
      exact ⟨rfl, G.out⟩

/-- An operation: kind, id, class, number, flag, amounts. -/
structure OpW where
  k : Int
  i : Int
  x : Int
  n : Int
  f : Bool
  A : Option Addr
  m : Nat
  c : Nat
  Z : Nat → Int
def OpW.val (o : OpW) : Value := .agg #[.int .i64 o.k, .int .i64 o.i, .int .i64 o.x, .int .i64 o.n, .bool o.f, .slice o.A o.m o.c]
/-- It reads so. -/
structure OpIs (w : World) (o : OpW) : Prop where
  rd : Rd w o.A o.m o.Z
  nil : o.A = none → o.m = 0 ∧ o.c = 0
  rng : I64 o.k ∧ I64 o.i ∧ I64 o.x ∧ I64 o.n
theorem OpIs.keep {w w' : World} {o : OpW} (h : OpIs w o) (k : Keep w w') : OpIs w' o := ⟨h.rd.keep k, h.nil, h.rng⟩
/-- The pod of an operation, with the amounts at A. -/
def podV (c : ClV) (o : OpW) (a : Int) (A : Option Addr) (d : Nat) : PodV := ⟨o.i, c.p, c.f, o.n, A, o.m, d, o.Z, a, 1, -1, -1⟩
set_option maxRecDepth 100000 in
set_option maxHeartbeats 4000000 in
theorem rpod_fn (c : ClV) (o : OpW) (a : Int) (w : World) : Calls Tryd.prog 21 #[c.val, o.val, .int .i64 a] w fun e w' => e = .returned (podV c o a o.A o.c).val ∧ Gr w w' := by
  unfold podV PodV.val ClV.val OpW.val
  go_enter Tryd.func21, Tryd.ntmps21
  go_wp2
  refine bodyPost_ret (v := .agg #[.int .i64 o.i, .int .i64 c.p, .bool c.f, .int .i64 o.n, .slice o.A o.m o.c, .int .i64 a, .int .i64 1, .int .i64 (-1), .int .i64 (-1)]) (by simp [results, Tryd.results21, go_sem]) rfl ⟨rfl, ?_⟩
  repeat (with_reducible first | exact Gr.refl w | apply Gr.alloc | apply Gr.drew)
end Go.Proofs.YtmbeghngnnpmlaaDoor.T11
