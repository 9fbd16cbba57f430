/-
  slices.symMergeCmpFunc at pods, whole. Condition: both sides are in order, the left's numbers are the lesser.
-/
import Derived.Test.YtpkpmoiekjhdnaaDoorMerge6
import Derived.Deep.Cut
namespace Go.Proofs.YtpkpmoiekjhdnaaDoor
open Go.Shelf Go.RowKit Go.Lib Go.Sort
variable {P : Program} {k : Nat}
/-- The merge does what it says, at fewer than N elements. -/
def MergesTo (P : Program) (k : Nat) (enc : Nat → List Value) (cf : Nat → Nat → Int) (g : Nat) (cb : Array Value) (blk off cap : Nat) (d0 : Array Nat) (w0 : World) (N : Nat) : Prop :=
  ∀ (a m b : Nat) (d : Array Nat) (w : World), b - a < N → d0.size = d.size → SWK enc k w0 blk off d w → a < m → m < b → b ≤ d.size → d.size < 4611686018427387904 → SortedIn (lo (ltOf cf)) a m d → SortedIn (lo (ltOf cf)) m b d → Cross a m b d →
    Calls P 46 #[.slice (some ⟨blk, off, none⟩) d.size cap, .int .i64 a, .int .i64 m, .int .i64 b, .func (.func g) #[] cb] w fun e w' => e = .returned (.tuple #[]) ∧ ∃ dk : Array Nat, Aside (SWK enc k w0 blk off dk w') ∧ PermIn a b d dk ∧ SortedIn (lo (ltOf cf)) a b dk

set_option maxHeartbeats 16000000 in
set_option maxRecDepth 1000000 in
theorem smerge_big (L : SLy P k) (enc : Nat → List Value) (cf : Nat → Nat → Int) (g : Nat) (cb : Array Value) (hO : SWO (ltOf cf)) (blk off cap a m b : Nat) (d0 d : Array Nat) (w0 w : World)
    (eg : ∀ args w, (callFunc g args).run P w = .ok (.enter g args) w) (hcmp : CmpLays P g cb enc k cf blk off d0.size w0) (R : RowK enc k w0 blk off d0) (hs : d0.size = d.size) (S : SWK enc k w0 blk off d w) (ham : a + 1 < m) (hmb : m + 1 < b) (hb : b ≤ d.size) (hsz : d.size < 4611686018427387904)
    (hL : SortedIn (lo (ltOf cf)) a m d) (hR : SortedIn (lo (ltOf cf)) m b d) (hX : Cross a m b d) (hI : MergesTo P k enc cf g cb blk off cap d0 w0 (b - a)) :
    Calls P 46 #[.slice (some ⟨blk, off, none⟩) d.size cap, .int .i64 a, .int .i64 m, .int .i64 b, .func (.func g) #[] cb] w fun e w' => e = .returned (.tuple #[]) ∧ ∃ dk : Array Nat, Aside (SWK enc k w0 blk off dk w') ∧ PermIn a b d dk ∧ SortedIn (lo (ltOf cf)) a b dk := by
  have mixed := L.mixed; have t0 := L.t0; have a0 := L.a0; have z0 := L.z0; have v0 := L.v0; have t3 := L.t3; have a3 := L.a3; have z3 := L.z3; have v3 := L.v3; have t4 := L.t4; have a4 := L.a4; have z4 := L.z4; have v4 := L.v4; have t22 := L.t22; have a22 := L.a22; have z22 := L.z22; have v22 := L.v22; have t25 := L.t25; have a25 := L.a25; have z25 := L.z25; have v25 := L.v25; have aE := L.aE; have zE := L.zE; have t54 := L.t54; have a54 := L.a54; have z54 := L.z54; have v54 := L.v54
  have u0 := run_underlying L.t0; have u3 := run_underlying L.t3; have u4 := run_underlying L.t4; have u22 := run_underlying L.t22; have u25 := run_underlying L.t25; have u54 := run_underlying L.t54
  have FG := L.fMerge
  have HC : Aside _ := hcmp
  have S0 : Aside (SWK enc k w0 blk off d w) := S
  have SR0 := Lib.hid hR
  have SL0 := Lib.hid hL
  have CR := Lib.hid hX
  have EG := eg
  clear hcmp S hR hL hX
  have IH := Lib.hid hI
  have HO := Lib.hid hO
  clear hI hO
  have hne1 : ((m : Int) - (a : Int) == 1) = false := beq_eq_false_iff_ne.2 (by omega)
  have hne2 : ((b : Int) - (m : Int) == 1) = false := beq_eq_false_iff_ne.2 (by omega)
  have eM : ∀ args w, (callFunc 46 args).run P w = .ok (.enter 46 args) w := enters_of L.fMerge (by kernel_rfl) rfl
  have eR : ∀ args w, (callFunc 48 args).run P w = .ok (.enter 48 args) w := enters_of L.fRotate (by kernel_rfl) rfl
  obtain ⟨mid, hm1, hm2⟩ : ∃ mid : Nat, 2 * mid ≤ a + b ∧ a + b ≤ 2 * mid + 1 := ⟨(a + b) / 2, by omega, by omega⟩
  have zmid : ((a : Int) + (b : Int)) / 2 = (mid : Int) := by omega
  go_enter FG, Tryd.ntmps46
  go_upto_if 140 with fail
  go_cut [20, 21] from 138 (fun s20 s21 wc => wc = w ∧ ∃ s0 r0 : Nat, s20 = .int .i64 s0 ∧ s21 = .int .i64 r0 ∧ a ≤ s0 ∧ s0 ≤ r0 ∧ r0 ≤ m ∧ r0 ≤ mid ∧ mid + m ≤ b + s0 ∧ Hid (s0 = a ∨ s0 + b = mid + m) ∧ Hid (r0 = m ∨ r0 + m = mid + m))
  case first =>
    by_cases hmm : mid < m
    · have hmz : (mid : Int) < (m : Int) := by omega
      go_wp2_with fail
      go_meet
      case rel => exact ⟨rfl, mid + m - b, mid, by go_num, rfl, by omega, by omega, by omega, by omega, by omega, Or.inr (by omega), Or.inr rfl⟩
    · have hmz : ¬ (mid : Int) < (m : Int) := by omega
      go_wp2_with fail
      go_meet
      case rel => exact ⟨rfl, a, m, rfl, rfl, by omega, by omega, by omega, by omega, by omega, Or.inl rfl, Or.inl rfl⟩
  case rest =>
    obtain ⟨rfl, s0, r0, rfl, rfl, b1, b2, b3, b4, b5, o1, o2⟩ := hcut
    go_wp2
    go_loopg [20, 21] (b - a) (fun gx s20 s21 wr => ∃ i j : Nat, s20 = .int .i64 i ∧ s21 = .int .i64 j ∧ s0 ≤ i ∧ i ≤ j ∧ j ≤ r0 ∧ j - i ≤ gx ∧ Aside (SWK enc k w0 blk off d wr) ∧ Hid ((i = s0 ∨ lo (ltOf cf) d[mid + m - i]! d[i - 1]! = false) ∧ (j = r0 ∨ lo (ltOf cf) d[mid + m - 1 - j]! d[j]! = true)))
    case atStart => exact ⟨s0, r0, rfl, rfl, Nat.le_refl _, b2, Nat.le_refl _, by omega, S0, ⟨Or.inl rfl, Or.inl rfl⟩⟩
    case round =>
      clear S0
      obtain ⟨i, j, rfl, rfl, hi, hij, hj, hgx, S1, HI⟩ := hrel
      by_cases hlt : i < j
      · have hltz : (i : Int) < (j : Int) := by omega
        obtain ⟨q, hq1, hq2⟩ : ∃ q : Nat, q + (i + j) / 2 + 1 ≤ mid + m ∧ mid + m ≤ q + (i + j) / 2 + 1 := ⟨mid + m - 1 - (i + j) / 2, by omega, by omega⟩
        have zq : (mid : Int) + (m : Int) - 1 - ((i : Int) + (j : Int)) / 2 = (q : Int) := by omega
        have lx := Lib.hid (lo_cross (lt := ltOf cf) (CR.out ((i + j) / 2) (q) (by omega) (by omega) (by omega) (by omega)))
        cases hL : ltOf cf d[q]! d[(i + j) / 2]! with
        | false =>
          have ea70 : ((q : Int)).toNat = q := by omega
          have pa70 : (0 : Int) ≤ (q : Int) := by omega
          have ba70 : (q : Int) < (d.size : Int) := by omega
          have ra70 : IntKind.i64.wrap ((q : Int)) = (q : Int) := by rw [IntKind.wrap_i64]; omega
          have ec70 : (((i : Int) + (j : Int)) / 2).toNat = (i + j) / 2 := by omega
          have pc70 : (0 : Int) ≤ ((i : Int) + (j : Int)) / 2 := by omega
          have bc70 : ((i : Int) + (j : Int)) / 2 < (d.size : Int) := by omega
          have rc70 : IntKind.i64.wrap (((i : Int) + (j : Int)) / 2) = ((i : Int) + (j : Int)) / 2 := by rw [IntKind.wrap_i64]; omega
          obtain ⟨x70, hx70⟩ : ∃ x, x = d[q]! := ⟨_, rfl⟩
          obtain ⟨y70, hy70⟩ : ∃ x, x = d[(i + j) / 2]! := ⟨_, rfl⟩
          have l70a := S1.out.ld R (by omega) P (q) (by omega)
          have l70b := S1.out.ld R (by omega) P ((i + j) / 2) (by omega)
          rw [← hx70] at l70a
          rw [← hy70] at l70b
          have hc70 := S1.out.cmp HC.out (by omega) x70 y70
          have hv70 : ¬ cf x70 y70 < 0 := by rw [hx70, hy70]; exact of_decide_eq_false hL
          have hd70 : decide (cf x70 y70 < 0) = false := decide_eq_false hv70
          clear hx70 hy70
          go_wp2_with fail
          go_quiet_grown (first | (go_at_fn g; refine Calls.grown_of (hc70 _ _)))
          have S2 : Aside (SWK enc k w0 blk off d (grow (wr.drewN nq) osq)) := S1.out.grown nq osq
          clear l70a l70b hc70 S1
          generalize grow (wr.drewN nq) osq = w2 at S2 ⊢
          clear nq osq
          go_wp2
          go_roundg (j - ((i + j) / 2 + 1))
          case measure => omega
          case rel =>
            have hh : lo (ltOf cf) d[mid + m - ((i + j) / 2 + 1)]! d[(i + j) / 2 + 1 - 1]! = false := by rw [show mid + m - ((i + j) / 2 + 1) = q by omega, Nat.add_sub_cancel]; exact lx.out.trans hL
            exact ⟨(i + j) / 2 + 1, j, by go_num, rfl, by omega, by omega, hj, Nat.le_refl _, S2, ⟨Or.inr hh, HI.out.2⟩⟩
        | true =>
          have ea71 : ((q : Int)).toNat = q := by omega
          have pa71 : (0 : Int) ≤ (q : Int) := by omega
          have ba71 : (q : Int) < (d.size : Int) := by omega
          have ra71 : IntKind.i64.wrap ((q : Int)) = (q : Int) := by rw [IntKind.wrap_i64]; omega
          have ec71 : (((i : Int) + (j : Int)) / 2).toNat = (i + j) / 2 := by omega
          have pc71 : (0 : Int) ≤ ((i : Int) + (j : Int)) / 2 := by omega
          have bc71 : ((i : Int) + (j : Int)) / 2 < (d.size : Int) := by omega
          have rc71 : IntKind.i64.wrap (((i : Int) + (j : Int)) / 2) = ((i : Int) + (j : Int)) / 2 := by rw [IntKind.wrap_i64]; omega
          obtain ⟨x71, hx71⟩ : ∃ x, x = d[q]! := ⟨_, rfl⟩
          obtain ⟨y71, hy71⟩ : ∃ x, x = d[(i + j) / 2]! := ⟨_, rfl⟩
          have l71a := S1.out.ld R (by omega) P (q) (by omega)
          have l71b := S1.out.ld R (by omega) P ((i + j) / 2) (by omega)
          rw [← hx71] at l71a
          rw [← hy71] at l71b
          have hc71 := S1.out.cmp HC.out (by omega) x71 y71
          have hv71 : cf x71 y71 < 0 := by rw [hx71, hy71]; exact of_decide_eq_true hL
          have hd71 : decide (cf x71 y71 < 0) = true := decide_eq_true hv71
          clear hx71 hy71
          go_wp2_with fail
          go_quiet_grown (first | (go_at_fn g; refine Calls.grown_of (hc71 _ _)))
          have S2 : Aside (SWK enc k w0 blk off d (grow (wr.drewN nq) osq)) := S1.out.grown nq osq
          clear l71a l71b hc71 S1
          generalize grow (wr.drewN nq) osq = w2 at S2 ⊢
          clear nq osq
          go_wp2
          go_roundg ((i + j) / 2 - i)
          case measure => omega
          case rel => exact ⟨i, (i + j) / 2, rfl, by go_num, by omega, by omega, by omega, Nat.le_refl _, S2, ⟨HI.out.1, Or.inr (by rw [show mid + m - 1 - (i + j) / 2 = q by omega]; exact lx.out.trans hL)⟩⟩
      · obtain rfl : i = j := by omega
        have PT := Lib.hid (split_of (n := mid + m) HO.out SL0.out SR0.out (by omega) (by omega) (by omega : a ≤ i) (by omega) (by omega) (by omega) (o1.out.imp id (by omega)) (o2.out.imp id (by omega)) HI.out.1 HI.out.2)
        obtain ⟨e, he1, he2⟩ : ∃ e : Nat, e + i ≤ mid + m ∧ mid + m ≤ e + i := ⟨mid + m - i, by omega, by omega⟩
        have ze : (mid : Int) + (m : Int) - (i : Int) = (e : Int) := by omega
        have PT2 : Hid (Split (ltOf cf) a i m e b d) := by rw [show e = mid + m - i by omega]; exact PT.out
        clear PT HI o1 o2
        go_upto_region 39 with fail
        go_cut [185] from 149 (fun s wc => ∃ v : Bool, s = .bool v ∧ wc = wr ∧ Hid (v = true → i < m ∧ m < e) ∧ Hid (v = false → (i = m ∨ e = m)))
        case first =>
          by_cases g1 : i < m
          · have g1z : (i : Int) < (m : Int) := by omega
            by_cases g2 : m < e
            · have g2z : (m : Int) < (e : Int) := by omega
              go_wp2_with fail
              go_meet
              case rel => exact ⟨true, rfl, rfl, fun _ => ⟨g1, g2⟩, fun h => by cases h⟩
            · have g2z : ¬ (m : Int) < (e : Int) := by omega
              go_wp2_with fail
              go_meet
              case rel => exact ⟨false, rfl, rfl, (fun h => by cases h), fun _ => by omega⟩
          · have g1z : ¬ (i : Int) < (m : Int) := by omega
            go_wp2_with fail
            go_meet
            case rel => exact ⟨false, rfl, rfl, (fun h => by cases h), fun _ => by omega⟩
        case rest =>
          obtain ⟨v, rfl, rfl, vy, vn⟩ := hcut
          go_upto_if 185 with fail
          go_cut [] from 149 (fun wc => ∃ d1 : Array Nat, Aside (SWK enc k w0 blk off d1 wc) ∧ Hid (PermIn a b d d1) ∧ Hid (∀ p : Nat, d1[p]! = d[rotIx i m e p]!))
          case first =>
            cases v with
            | true =>
              obtain ⟨g1, g2⟩ := vy.out rfl
              have hc := srot_fn L enc g cb blk off cap i m e d0 d w0 wc R (by omega) S1.out g1 g2 (by omega) hsz
              clear S1
              go_wp2_with (go_at_fn 48; refine hc.mono ?_; rintro r w1 ⟨rfl, d1, S2, p1, r1⟩)
              go_meet
              case rel => exact ⟨d1, S2, permIn_mono _ _ _ _ _ _ (by omega) (by omega) hb p1, r1⟩
            | false =>
              replace vn := Lib.hid (vn.out rfl)
              go_wp2_with fail
              go_meet
              case rel =>
                refine ⟨d, S1, permIn_refl _ _ _, fun p => ?_⟩
                rcases vn.out with h | h
                · rw [h, rot_left _ _ _ (by omega)]
                · rw [h, rot_right]
          case rest =>
            clear S1
            obtain ⟨d1, S1, P1, R1⟩ := hcut
            clear vy vn
            have hd1 : d1.size = d.size := P1.out.1
            have Q := Lib.hid (parts_of HO.out PT2.out SL0.out SR0.out R1.out)
            have emid : i + (e - m) = mid := by omega
            have f1 : Hid (∀ p : Nat, p < i → d1[p]! = d[p]!) := fun p hp => by rw [R1.out, rot_out (Or.inl hp) (by omega) (by omega)]
            have f2 : Hid (∀ p : Nat, i ≤ p → p < mid → d1[p]! = d[m + (p - i)]!) := fun p h1 h2 => by rw [R1.out, rot_first h1 (by omega)]
            have f3 : Hid (∀ p : Nat, mid ≤ p → p < e → d1[p]! = d[p - (e - m)]!) := fun p h1 h2 => by rw [R1.out, rot_second (by omega) h2]
            have f4 : Hid (∀ p : Nat, e ≤ p → d1[p]! = d[p]!) := fun p hp => by rw [R1.out, rot_out (Or.inr hp) (by omega) (by omega)]
            rw [emid] at Q
            replace emid := Lib.hid emid
            go_upto_region 41 with fail
            go_cut [199] from 149 (fun s wx => ∃ v : Bool, s = .bool v ∧ wx = wc ∧ Hid (v = true → a < i ∧ i < mid) ∧ Hid (v = false → (i = a ∨ i = mid)))
            case first =>
              by_cases g1 : a < i
              · have g1z : (a : Int) < (i : Int) := by omega
                by_cases g2 : i < mid
                · have g2z : (i : Int) < (mid : Int) := by omega
                  go_wp2_with fail
                  go_meet
                  case rel => exact ⟨true, rfl, rfl, fun _ => ⟨g1, g2⟩, fun h => by cases h⟩
                · have g2z : ¬ (i : Int) < (mid : Int) := by omega
                  go_wp2_with fail
                  go_meet
                  case rel => exact ⟨false, rfl, rfl, (fun h => by cases h), fun _ => by omega⟩
              · have g1z : ¬ (a : Int) < (i : Int) := by omega
                go_wp2_with fail
                go_meet
                case rel => exact ⟨false, rfl, rfl, (fun h => by cases h), fun _ => by omega⟩
            case rest =>
              obtain ⟨v, rfl, rfl, vy, vn⟩ := hcut
              go_upto_if 199 with fail
              go_cut [] from 149 (fun wx => ∃ d2 : Array Nat, Aside (SWK enc k w0 blk off d2 wx) ∧ Hid (PermIn a mid d1 d2) ∧ Hid (SortedIn (lo (ltOf cf)) a mid d2))
              case first =>
                cases v with
                | true =>
                  obtain ⟨g1, g2⟩ := vy.out rfl
                  have hc := IH.out a i mid d1 _ (by omega) (by omega) S1.out g1 g2 (by omega) (by omega) Q.out.one Q.out.two (fun x y h1 h2 h3 h4 => by rw [f1.out x h2, f2.out y h3 h4]; exact CR.out _ _ h1 (by omega) (by omega) (by omega))
                  rw [hd1] at hc
                  clear S1
                  go_wp2_with (go_at_fn 46; refine hc.mono ?_; rintro r w1 ⟨rfl, d2, S2, p2, s2⟩)
                  go_meet
                  case rel => exact ⟨d2, S2, p2, s2⟩
                | false =>
                  replace vn := Lib.hid (vn.out rfl)
                  go_wp2_with fail
                  go_meet
                  case rel =>
                    refine ⟨d1, S1, permIn_refl _ _ _, ?_⟩
                    rcases vn.out with h | h
                    · have := Q.out.two; rwa [h] at this
                    · have := Q.out.one; rwa [h] at this
              case rest =>
                clear S1
                obtain ⟨d2, S1, P2, T2⟩ := hcut
                clear vy vn
                have hd2 : d2.size = d1.size := P2.out.1
                have f5 : Hid (∀ p : Nat, mid ≤ p → d2[p]! = d1[p]!) := fun p hp => P2.out.2.1 p (Or.inr hp)
                have fin : Hid (∀ d3 : Array Nat, PermIn mid b d2 d3 → SortedIn (lo (ltOf cf)) mid b d3 → PermIn a b d d3 ∧ SortedIn (lo (ltOf cf)) a b d3) := fun d3 p3 t3 => by
                  have J := join_of (by omega) (by omega) (by omega) Q.out.apart P2.out T2.out p3 t3
                  exact ⟨permIn_trans _ _ _ _ _ P1.out J.1, J.2⟩
                by_cases g1 : mid < e
                · have g1z : (mid : Int) < (e : Int) := by omega
                  by_cases g2 : e < b
                  · have g2z : (e : Int) < (b : Int) := by omega
                    have hc := IH.out mid e b d2 _ (by omega) (by omega) S1.out g1 g2 (by omega) (by omega) (fun x y h1 h2 h3 => by rw [f5.out x h1, f5.out y (by omega)]; exact Q.out.three x y h1 h2 h3) (fun x y h1 h2 h3 => by rw [f5.out x (by omega), f5.out y (by omega)]; exact Q.out.four x y h1 h2 h3)
                      (fun x y h1 h2 h3 h4 => by rw [f5.out x h1, f5.out y (by omega), f3.out x h1 h2, f4.out y h3]; exact CR.out _ _ (by omega) (by omega) (by omega) h4)
                    rw [hd2, hd1] at hc
                    clear S1
                    go_wp2_with (go_at_fn 46; refine hc.mono ?_; rintro r w1 ⟨rfl, d3, S2, p3, t3⟩)
                    go_end0
                    exact ⟨rfl, d3, S2, fin.out d3 p3 t3⟩
                  · have g2z : ¬ (e : Int) < (b : Int) := by omega
                    go_wp2
                    go_end0
                    exact ⟨rfl, d2, S1, fin.out d2 (permIn_refl _ _ _) (fun x y h1 h2 h3 => by rw [f5.out x h1, f5.out y (by omega)]; exact Q.out.three x y h1 h2 (by omega))⟩
                · have g1z : ¬ (mid : Int) < (e : Int) := by omega
                  go_wp2
                  go_end0
                  exact ⟨rfl, d2, S1, fin.out d2 (permIn_refl _ _ _) (fun x y h1 h2 h3 => by rw [f5.out x h1, f5.out y (by omega)]; exact Q.out.four x y (by omega) h2 h3)⟩
theorem smerge_fn (L : SLy P k) (enc : Nat → List Value) (cf : Nat → Nat → Int) (g : Nat) (cb : Array Value) (hO : SWO (ltOf cf)) (blk off cap : Nat) (d0 : Array Nat) (w0 : World) (eg : ∀ args w, (callFunc g args).run P w = .ok (.enter g args) w) (hcmp : CmpLays P g cb enc k cf blk off d0.size w0) (R : RowK enc k w0 blk off d0) : ∀ N, MergesTo P k enc cf g cb blk off cap d0 w0 N
  | 0 => fun _ _ _ _ _ h => absurd h (Nat.not_lt_zero _)
  | N + 1 => fun a m b d w hN hs S ham hmb hb hsz hL hR hX => by
    have ih := smerge_fn L enc cf g cb hO blk off cap d0 w0 eg hcmp R N
    by_cases h1 : m ≤ a + 1
    · exact smerge_left L enc cf g cb hO blk off cap a m b d0 d w0 w eg hcmp R hs S (by omega) h1 hmb hb hsz hL hR hX
    · by_cases h2 : b ≤ m + 1
      · exact smerge_right L enc cf g cb hO blk off cap a m b d0 d w0 w eg hcmp R hs S (by omega) (by omega) h2 hb hsz hL hR hX
      · exact smerge_big L enc cf g cb hO blk off cap a m b d0 d w0 w eg hcmp R hs S (by omega) (by omega) hb hsz hL hR hX (fun a' m' b' d' w' h' => ih a' m' b' d' w' (by omega))
end Go.Proofs.YtpkpmoiekjhdnaaDoor
