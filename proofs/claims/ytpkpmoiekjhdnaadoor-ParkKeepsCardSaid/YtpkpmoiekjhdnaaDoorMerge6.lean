/-
  slices.symMergeCmpFunc at pods: one element to the left, or to the right. Condition: both sides are in order, the left's numbers are the lesser.
-/
import Derived.Test.YtpkpmoiekjhdnaaDoorRot6
namespace Go.Proofs.YtpkpmoiekjhdnaaDoor
open Go.Shelf Go.RowKit Go.Lib Go.Sort
variable {P : Program} {k : Nat}
set_option maxHeartbeats 8000000 in
set_option maxRecDepth 1000000 in
theorem smerge_left (L : SLy P k) (enc : Nat → List Value) (cf : Nat → Nat → Int) (g : Nat) (cb : Array Value) (hO : SWO (ltOf cf)) (blk off cap a m b : Nat) (d0 d : Array Nat) (w0 w : World)
    (eg : ∀ args w, (callFunc g args).run P w = .ok (.enter g args) w) (hcmp : CmpLays P g cb enc k cf blk off d0.size w0) (R : RowK enc k w0 blk off d0) (hs : d0.size = d.size) (S : SWK enc k w0 blk off d w) (hm1 : a + 1 ≤ m) (hm2 : m ≤ a + 1) (hmb : m < b) (hb : b ≤ d.size) (hsz : d.size < 4611686018427387904)
    (hL : SortedIn (lo (ltOf cf)) a m d) (hR : SortedIn (lo (ltOf cf)) m b d) (hX : Cross a m b d) :
    Calls P 46 #[.slice (some ⟨blk, off, none⟩) d.size cap, .int .i64 a, .int .i64 m, .int .i64 b, .func (.func g) #[] cb] w fun e w' => e = .returned (.tuple #[]) ∧ ∃ dk : Array Nat, Aside (SWK enc k w0 blk off dk w') ∧ PermIn a b d dk ∧ SortedIn (lo (ltOf cf)) a b dk := by
  have mixed := L.mixed; have t0 := L.t0; have a0 := L.a0; have z0 := L.z0; have v0 := L.v0; have t3 := L.t3; have a3 := L.a3; have z3 := L.z3; have v3 := L.v3; have t4 := L.t4; have a4 := L.a4; have z4 := L.z4; have v4 := L.v4; have t22 := L.t22; have a22 := L.a22; have z22 := L.z22; have v22 := L.v22; have t25 := L.t25; have a25 := L.a25; have z25 := L.z25; have v25 := L.v25; have aE := L.aE; have zE := L.zE; have t54 := L.t54; have a54 := L.a54; have z54 := L.z54; have v54 := L.v54
  have u0 := run_underlying L.t0; have u3 := run_underlying L.t3; have u4 := run_underlying L.t4; have u22 := run_underlying L.t22; have u25 := run_underlying L.t25; have u54 := run_underlying L.t54
  have FG := L.fMerge
  have HC : Aside _ := hcmp
  have S0 : Aside (SWK enc k w0 blk off d w) := S
  have SR0 := Lib.hid hR
  have SL0 := Lib.hid hL
  have CR := Lib.hid hX
  have EG := eg
  clear hcmp S hR hL hX
  have hd1 : ((m : Int) - (a : Int) == 1) = true := beq_iff_eq.2 (by omega)
  go_enter FG, Tryd.ntmps46
  go_wp2
  go_loopg [10, 11] (b - a) (fun gx s10 s11 wr => ∃ i j : Nat, s10 = .int .i64 i ∧ s11 = .int .i64 j ∧ m ≤ i ∧ i ≤ j ∧ j ≤ b ∧ j - i ≤ gx ∧ Aside (SWK enc k w0 blk off d wr) ∧ Hid ((∀ p, m ≤ p → p < i → lo (ltOf cf) d[p]! d[a]! = true) ∧ (∀ p, j ≤ p → p < b → lo (ltOf cf) d[p]! d[a]! = false)))
  case atStart => exact ⟨m, b, rfl, rfl, by omega, by omega, by omega, by omega, S0, ⟨fun p h1 h2 => by omega, fun p h1 h2 => by omega⟩⟩
  case round =>
    clear S0
    obtain ⟨i, j, rfl, rfl, hai, hij, hjb, hgx, S1, HI⟩ := hrel
    by_cases hlt : i < j
    · have hltz : (i : Int) < (j : Int) := by omega
      have lx := Lib.hid (lo_cross (lt := ltOf cf) (CR.out a ((i + j) / 2) (Nat.le_refl _) (by omega) (by omega) (by omega)))
      cases hL : ltOf cf d[(i + j) / 2]! d[a]! with
      | true =>
        have ea50 : (((i : Int) + (j : Int)) / 2).toNat = (i + j) / 2 := by omega
        have pa50 : (0 : Int) ≤ ((i : Int) + (j : Int)) / 2 := by omega
        have ba50 : ((i : Int) + (j : Int)) / 2 < (d.size : Int) := by omega
        have ra50 : IntKind.i64.wrap (((i : Int) + (j : Int)) / 2) = ((i : Int) + (j : Int)) / 2 := by rw [IntKind.wrap_i64]; omega
        have ec50 : ((a : Int)).toNat = a := by omega
        have pc50 : (0 : Int) ≤ (a : Int) := by omega
        have bc50 : (a : Int) < (d.size : Int) := by omega
        have rc50 : IntKind.i64.wrap ((a : Int)) = (a : Int) := by rw [IntKind.wrap_i64]; omega
        obtain ⟨x50, hx50⟩ : ∃ x, x = d[(i + j) / 2]! := ⟨_, rfl⟩
        obtain ⟨y50, hy50⟩ : ∃ x, x = d[a]! := ⟨_, rfl⟩
        have l50a := S1.out.ld R (by omega) P ((i + j) / 2) (by omega)
        have l50b := S1.out.ld R (by omega) P (a) (by omega)
        rw [← hx50] at l50a
        rw [← hy50] at l50b
        have hc50 := S1.out.cmp HC.out (by omega) x50 y50
        have hv50 : cf x50 y50 < 0 := by rw [hx50, hy50]; exact of_decide_eq_true hL
        have hd50 : decide (cf x50 y50 < 0) = true := decide_eq_true hv50
        clear hx50 hy50
        go_wp2_with fail
        go_quiet_grown (first | (go_at_fn g; refine Calls.grown_of (hc50 _ _)))
        have S2 : Aside (SWK enc k w0 blk off d (grow (wr.drewN nq) osq)) := S1.out.grown nq osq
        clear l50a l50b hc50 S1
        generalize grow (wr.drewN nq) osq = w2 at S2 ⊢
        clear nq osq
        go_wp2
        go_roundg (j - ((i + j) / 2 + 1))
        case measure => omega
        case rel =>
          have hh : lo (ltOf cf) d[(i + j) / 2]! d[a]! = true := lx.out.trans hL
          exact ⟨(i + j) / 2 + 1, j, by go_num, rfl, by omega, by omega, hjb, Nat.le_refl _, S2, ⟨fun p h1 h2 => find_up hO SR0.out h1 (by omega) (by omega) hh, HI.out.2⟩⟩
      | false =>
        have ea51 : (((i : Int) + (j : Int)) / 2).toNat = (i + j) / 2 := by omega
        have pa51 : (0 : Int) ≤ ((i : Int) + (j : Int)) / 2 := by omega
        have ba51 : ((i : Int) + (j : Int)) / 2 < (d.size : Int) := by omega
        have ra51 : IntKind.i64.wrap (((i : Int) + (j : Int)) / 2) = ((i : Int) + (j : Int)) / 2 := by rw [IntKind.wrap_i64]; omega
        have ec51 : ((a : Int)).toNat = a := by omega
        have pc51 : (0 : Int) ≤ (a : Int) := by omega
        have bc51 : (a : Int) < (d.size : Int) := by omega
        have rc51 : IntKind.i64.wrap ((a : Int)) = (a : Int) := by rw [IntKind.wrap_i64]; omega
        obtain ⟨x51, hx51⟩ : ∃ x, x = d[(i + j) / 2]! := ⟨_, rfl⟩
        obtain ⟨y51, hy51⟩ : ∃ x, x = d[a]! := ⟨_, rfl⟩
        have l51a := S1.out.ld R (by omega) P ((i + j) / 2) (by omega)
        have l51b := S1.out.ld R (by omega) P (a) (by omega)
        rw [← hx51] at l51a
        rw [← hy51] at l51b
        have hc51 := S1.out.cmp HC.out (by omega) x51 y51
        have hv51 : ¬ cf x51 y51 < 0 := by rw [hx51, hy51]; exact of_decide_eq_false hL
        have hd51 : decide (cf x51 y51 < 0) = false := decide_eq_false hv51
        clear hx51 hy51
        go_wp2_with fail
        go_quiet_grown (first | (go_at_fn g; refine Calls.grown_of (hc51 _ _)))
        have S2 : Aside (SWK enc k w0 blk off d (grow (wr.drewN nq) osq)) := S1.out.grown nq osq
        clear l51a l51b hc51 S1
        generalize grow (wr.drewN nq) osq = w2 at S2 ⊢
        clear nq osq
        go_wp2
        go_roundg ((i + j) / 2 - i)
        case measure => omega
        case rel =>
          have hh : lo (ltOf cf) d[(i + j) / 2]! d[a]! = false := lx.out.trans hL
          exact ⟨i, (i + j) / 2, rfl, by go_num, by omega, by omega, by omega, Nat.le_refl _, S2, ⟨HI.out.1, fun p h1 h2 => find_down hO SR0.out (by omega) h1 h2 hh⟩⟩
    · obtain rfl : i = j := by omega
      obtain ⟨q, rfl⟩ : ∃ q, i = q + 1 := ⟨i - 1, by omega⟩
      go_wp2
      go_loopg [13] (q - a) (fun gx s13 wr => ∃ (x : Nat) (dk : Array Nat), s13 = .int .i64 x ∧ a ≤ x ∧ x ≤ q ∧ q - x ≤ gx ∧ dk.size = d.size ∧ Aside (SWK enc k w0 blk off dk wr) ∧ Hid (PermIn a b d dk) ∧ Hid (∀ p, dk[p]! = d[rotIx a (a + 1) (x + 1) p]!))
      case atStart => exact ⟨a, d, rfl, Nat.le_refl _, by omega, Nat.le_refl _, rfl, S1, permIn_refl _ _ _, fun p => by rw [rot_right]⟩
      case round =>
        clear S1
        obtain ⟨x, dk, rfl, hax, hxq, hgx, hds, S1, HP, HR⟩ := hrel
        by_cases hlt : x < q
        · have hltz : (x : Int) < (q : Int) := by omega
          go_wp2_with fail
          have ea52 : ((x : Int)).toNat = x := by omega
          have pa52 : (0 : Int) ≤ (x : Int) := by omega
          have ba52 : (x : Int) < (d.size : Int) := by omega
          have ra52 : IntKind.i64.wrap ((x : Int)) = (x : Int) := by rw [IntKind.wrap_i64]; omega
          have ec52 : ((x : Int) + 1).toNat = x + 1 := by omega
          have pc52 : (0 : Int) ≤ (x : Int) + 1 := by omega
          have bc52 : (x : Int) + 1 < (d.size : Int) := by omega
          have rc52 : IntKind.i64.wrap ((x : Int) + 1) = (x : Int) + 1 := by rw [IntKind.wrap_i64]; omega
          have S2 : Aside (SWK enc k w0 blk off (swp dk (x) (x + 1)) ((wr.drew.setCells blk (off + (x) * k) (enc dk[x + 1]!)).setCells blk (off + (x + 1) * k) (enc dk[x]!))) := S1.out.swapped R (x) (x + 1) (by omega) (by omega)
          have l52a := S1.out.ld1 R (by omega) P (x) (by omega)
          have l52b := S1.out.ld1 R (by omega) P (x + 1) (by omega)
          have s52a := S1.out.st1 R (by omega) P (x) (by omega) dk[x + 1]!
          have s52b := S1.out.st2 R (by omega) P (x) (x + 1) (by omega) (by omega) dk[x + 1]! dk[x]!
          have n52a : (enc dk[x]!).length = k := R.hk _
          have n52b : (enc dk[x + 1]!).length = k := R.hk _
          generalize enc dk[x]! = cI52 at S2 l52a s52b n52a
          generalize enc dk[x + 1]! = cJ52 at S2 l52b s52a s52b n52b
          clear S1
          go_wp2_with fail
          go_big_region_o
          clear l52a l52b s52a s52b
          generalize (wr.drew.setCells blk (off + (x) * k) cJ52).setCells blk (off + (x + 1) * k) cI52 = w2 at S2 ⊢
          go_wp2
          go_roundg (q - (x + 1))
          case measure => omega
          case rel => exact ⟨x + 1, swp dk x (x + 1), by go_num, by omega, by omega, Nat.le_refl _, by rw [size_swp]; exact hds, S2, permIn_trans _ _ _ _ _ HP.out (swp_permIn _ _ _ _ _ (by omega) (by omega) (by omega) (by omega) (by omega)), rot_up hax (by omega) HR.out⟩
        · obtain rfl : x = q := by omega
          go_wp2
          (try simp only [Exit.inBlock, Exit.then]); refine bodyPost_ret (results_none rfl _ _ _) rfl ?_
          exact ⟨rfl, dk, S1, HP.out, merge_one hO (by omega) hjb (fun p q h1 h2 h3 => SR0.out p q (by omega) h2 h3) HR.out (fun p h1 h2 => HI.out.1 p (by omega) h2) HI.out.2⟩
set_option maxHeartbeats 8000000 in
set_option maxRecDepth 1000000 in
theorem smerge_right (L : SLy P k) (enc : Nat → List Value) (cf : Nat → Nat → Int) (g : Nat) (cb : Array Value) (hO : SWO (ltOf cf)) (blk off cap a m b : Nat) (d0 d : Array Nat) (w0 w : World)
    (eg : ∀ args w, (callFunc g args).run P w = .ok (.enter g args) w) (hcmp : CmpLays P g cb enc k cf blk off d0.size w0) (R : RowK enc k w0 blk off d0) (hs : d0.size = d.size) (S : SWK enc k w0 blk off d w) (ham : a + 1 < m) (hb1 : m + 1 ≤ b) (hb2 : b ≤ m + 1) (hb : b ≤ d.size) (hsz : d.size < 4611686018427387904)
    (hL : SortedIn (lo (ltOf cf)) a m d) (hR : SortedIn (lo (ltOf cf)) m b d) (hX : Cross a m b d) :
    Calls P 46 #[.slice (some ⟨blk, off, none⟩) d.size cap, .int .i64 a, .int .i64 m, .int .i64 b, .func (.func g) #[] cb] w fun e w' => e = .returned (.tuple #[]) ∧ ∃ dk : Array Nat, Aside (SWK enc k w0 blk off dk w') ∧ PermIn a b d dk ∧ SortedIn (lo (ltOf cf)) a b dk := by
  have mixed := L.mixed; have t0 := L.t0; have a0 := L.a0; have z0 := L.z0; have v0 := L.v0; have t3 := L.t3; have a3 := L.a3; have z3 := L.z3; have v3 := L.v3; have t4 := L.t4; have a4 := L.a4; have z4 := L.z4; have v4 := L.v4; have t22 := L.t22; have a22 := L.a22; have z22 := L.z22; have v22 := L.v22; have t25 := L.t25; have a25 := L.a25; have z25 := L.z25; have v25 := L.v25; have aE := L.aE; have zE := L.zE; have t54 := L.t54; have a54 := L.a54; have z54 := L.z54; have v54 := L.v54
  have u0 := run_underlying L.t0; have u3 := run_underlying L.t3; have u4 := run_underlying L.t4; have u22 := run_underlying L.t22; have u25 := run_underlying L.t25; have u54 := run_underlying L.t54
  have FG := L.fMerge
  have HC : Aside _ := hcmp
  have S0 : Aside (SWK enc k w0 blk off d w) := S
  have SR0 := Lib.hid hR
  have SL0 := Lib.hid hL
  have CR := Lib.hid hX
  have EG := eg
  clear hcmp S hR hL hX
  have hd1 : ((b : Int) - (m : Int) == 1) = true := beq_iff_eq.2 (by omega)
  have hne : ((m : Int) - (a : Int) == 1) = false := beq_eq_false_iff_ne.2 (by omega)
  go_enter FG, Tryd.ntmps46
  go_wp2
  go_loopg [14, 15] (m - a) (fun gx s14 s15 wr => ∃ i j : Nat, s14 = .int .i64 i ∧ s15 = .int .i64 j ∧ a ≤ i ∧ i ≤ j ∧ j ≤ m ∧ j - i ≤ gx ∧ Aside (SWK enc k w0 blk off d wr) ∧ Hid ((∀ p, a ≤ p → p < i → lo (ltOf cf) d[m]! d[p]! = false) ∧ (∀ p, j ≤ p → p < m → lo (ltOf cf) d[m]! d[p]! = true)))
  case atStart => exact ⟨a, m, rfl, rfl, by omega, by omega, by omega, by omega, S0, ⟨fun p h1 h2 => by omega, fun p h1 h2 => by omega⟩⟩
  case round =>
    clear S0
    obtain ⟨i, j, rfl, rfl, hai, hij, hjb, hgx, S1, HI⟩ := hrel
    by_cases hlt : i < j
    · have hltz : (i : Int) < (j : Int) := by omega
      have lx := Lib.hid (lo_cross (lt := ltOf cf) (CR.out ((i + j) / 2) m (by omega) (by omega) (Nat.le_refl _) (by omega)))
      cases hL : ltOf cf d[m]! d[(i + j) / 2]! with
      | false =>
        have ea60 : ((m : Int)).toNat = m := by omega
        have pa60 : (0 : Int) ≤ (m : Int) := by omega
        have ba60 : (m : Int) < (d.size : Int) := by omega
        have ra60 : IntKind.i64.wrap ((m : Int)) = (m : Int) := by rw [IntKind.wrap_i64]; omega
        have ec60 : (((i : Int) + (j : Int)) / 2).toNat = (i + j) / 2 := by omega
        have pc60 : (0 : Int) ≤ ((i : Int) + (j : Int)) / 2 := by omega
        have bc60 : ((i : Int) + (j : Int)) / 2 < (d.size : Int) := by omega
        have rc60 : IntKind.i64.wrap (((i : Int) + (j : Int)) / 2) = ((i : Int) + (j : Int)) / 2 := by rw [IntKind.wrap_i64]; omega
        obtain ⟨x60, hx60⟩ : ∃ x, x = d[m]! := ⟨_, rfl⟩
        obtain ⟨y60, hy60⟩ : ∃ x, x = d[(i + j) / 2]! := ⟨_, rfl⟩
        have l60a := S1.out.ld R (by omega) P (m) (by omega)
        have l60b := S1.out.ld R (by omega) P ((i + j) / 2) (by omega)
        rw [← hx60] at l60a
        rw [← hy60] at l60b
        have hc60 := S1.out.cmp HC.out (by omega) x60 y60
        have hv60 : ¬ cf x60 y60 < 0 := by rw [hx60, hy60]; exact of_decide_eq_false hL
        have hd60 : decide (cf x60 y60 < 0) = false := decide_eq_false hv60
        clear hx60 hy60
        go_wp2_with fail
        go_quiet_grown (first | (go_at_fn g; refine Calls.grown_of (hc60 _ _)))
        have S2 : Aside (SWK enc k w0 blk off d (grow (wr.drewN nq) osq)) := S1.out.grown nq osq
        clear l60a l60b hc60 S1
        generalize grow (wr.drewN nq) osq = w2 at S2 ⊢
        clear nq osq
        go_wp2
        go_roundg (j - ((i + j) / 2 + 1))
        case measure => omega
        case rel =>
          have hh : lo (ltOf cf) d[m]! d[(i + j) / 2]! = false := lx.out.trans hL
          exact ⟨(i + j) / 2 + 1, j, by go_num, rfl, by omega, by omega, hjb, Nat.le_refl _, S2, ⟨fun p h1 h2 => find_low hO SL0.out h1 (by omega) (by omega) hh, HI.out.2⟩⟩
      | true =>
        have ea61 : ((m : Int)).toNat = m := by omega
        have pa61 : (0 : Int) ≤ (m : Int) := by omega
        have ba61 : (m : Int) < (d.size : Int) := by omega
        have ra61 : IntKind.i64.wrap ((m : Int)) = (m : Int) := by rw [IntKind.wrap_i64]; omega
        have ec61 : (((i : Int) + (j : Int)) / 2).toNat = (i + j) / 2 := by omega
        have pc61 : (0 : Int) ≤ ((i : Int) + (j : Int)) / 2 := by omega
        have bc61 : ((i : Int) + (j : Int)) / 2 < (d.size : Int) := by omega
        have rc61 : IntKind.i64.wrap (((i : Int) + (j : Int)) / 2) = ((i : Int) + (j : Int)) / 2 := by rw [IntKind.wrap_i64]; omega
        obtain ⟨x61, hx61⟩ : ∃ x, x = d[m]! := ⟨_, rfl⟩
        obtain ⟨y61, hy61⟩ : ∃ x, x = d[(i + j) / 2]! := ⟨_, rfl⟩
        have l61a := S1.out.ld R (by omega) P (m) (by omega)
        have l61b := S1.out.ld R (by omega) P ((i + j) / 2) (by omega)
        rw [← hx61] at l61a
        rw [← hy61] at l61b
        have hc61 := S1.out.cmp HC.out (by omega) x61 y61
        have hv61 : cf x61 y61 < 0 := by rw [hx61, hy61]; exact of_decide_eq_true hL
        have hd61 : decide (cf x61 y61 < 0) = true := decide_eq_true hv61
        clear hx61 hy61
        go_wp2_with fail
        go_quiet_grown (first | (go_at_fn g; refine Calls.grown_of (hc61 _ _)))
        have S2 : Aside (SWK enc k w0 blk off d (grow (wr.drewN nq) osq)) := S1.out.grown nq osq
        clear l61a l61b hc61 S1
        generalize grow (wr.drewN nq) osq = w2 at S2 ⊢
        clear nq osq
        go_wp2
        go_roundg ((i + j) / 2 - i)
        case measure => omega
        case rel =>
          have hh : lo (ltOf cf) d[m]! d[(i + j) / 2]! = true := lx.out.trans hL
          exact ⟨i, (i + j) / 2, rfl, by go_num, by omega, by omega, by omega, Nat.le_refl _, S2, ⟨HI.out.1, fun p h1 h2 => find_high hO SL0.out (by omega) h1 h2 hh⟩⟩
    · obtain rfl : i = j := by omega
      go_wp2
      go_loopg [17] (m - i) (fun gx s17 wr => ∃ (x : Nat) (dk : Array Nat), s17 = .int .i64 x ∧ i ≤ x ∧ x ≤ m ∧ x - i ≤ gx ∧ dk.size = d.size ∧ Aside (SWK enc k w0 blk off dk wr) ∧ Hid (PermIn a b d dk) ∧ Hid (∀ p, dk[p]! = d[rotIx x m (m + 1) p]!))
      case atStart => exact ⟨m, d, rfl, by omega, Nat.le_refl _, Nat.le_refl _, rfl, S1, permIn_refl _ _ _, fun p => by rw [rot_left _ _ _ (by omega)]⟩
      case round =>
        clear S1
        obtain ⟨x, dk, rfl, hix, hxm, hgx, hds, S1, HP, HR⟩ := hrel
        by_cases hlt : i < x
        · have hltz : (i : Int) < (x : Int) := by omega
          obtain ⟨y, rfl⟩ : ∃ y, x = y + 1 := ⟨x - 1, by omega⟩
          have hltz' : (i : Int) < (y : Int) + 1 := by omega
          have hwp : IntKind.i64.wrap (y : Int) = (y : Int) := by rw [IntKind.wrap_i64]; omega
          go_wp2_with fail
          have ea62 : ((y : Int) + 1).toNat = y + 1 := by omega
          have pa62 : (0 : Int) ≤ (y : Int) + 1 := by omega
          have ba62 : (y : Int) + 1 < (d.size : Int) := by omega
          have ra62 : IntKind.i64.wrap ((y : Int) + 1) = (y : Int) + 1 := by rw [IntKind.wrap_i64]; omega
          have ec62 : ((y : Int)).toNat = y := by omega
          have pc62 : (0 : Int) ≤ (y : Int) := by omega
          have bc62 : (y : Int) < (d.size : Int) := by omega
          have rc62 : IntKind.i64.wrap ((y : Int)) = (y : Int) := by rw [IntKind.wrap_i64]; omega
          have S2 : Aside (SWK enc k w0 blk off (swp dk (y + 1) (y)) ((wr.drew.setCells blk (off + (y + 1) * k) (enc dk[y]!)).setCells blk (off + (y) * k) (enc dk[y + 1]!))) := S1.out.swapped R (y + 1) (y) (by omega) (by omega)
          have l62a := S1.out.ld1 R (by omega) P (y + 1) (by omega)
          have l62b := S1.out.ld1 R (by omega) P (y) (by omega)
          have s62a := S1.out.st1 R (by omega) P (y + 1) (by omega) dk[y]!
          have s62b := S1.out.st2 R (by omega) P (y + 1) (y) (by omega) (by omega) dk[y]! dk[y + 1]!
          have n62a : (enc dk[y + 1]!).length = k := R.hk _
          have n62b : (enc dk[y]!).length = k := R.hk _
          generalize enc dk[y + 1]! = cI62 at S2 l62a s62b n62a
          generalize enc dk[y]! = cJ62 at S2 l62b s62a s62b n62b
          clear S1
          go_wp2_with fail
          go_big_region_o
          clear l62a l62b s62a s62b
          generalize (wr.drew.setCells blk (off + (y + 1) * k) cJ62).setCells blk (off + (y) * k) cI62 = w2 at S2 ⊢
          go_wp2
          go_roundg (y - i)
          case measure => omega
          case rel => exact ⟨y, swp dk (y + 1) y, by first | rfl | go_num | (congr 1; omega), by omega, by omega, Nat.le_refl _, by rw [size_swp]; exact hds, S2, permIn_trans _ _ _ _ _ HP.out (swp_permIn _ _ _ _ _ (by omega) (by omega) (by omega) (by omega) (by omega)), rot_down (by omega) (by omega) HR.out⟩
        · obtain rfl : x = i := by omega
          go_wp2
          (try simp only [Exit.inBlock, Exit.then]); refine bodyPost_ret (results_none rfl _ _ _) rfl ?_
          exact ⟨rfl, dk, S1, HP.out, by rw [show b = m + 1 by omega]; exact merge_last hO hai hxm SL0.out HR.out HI.out.1 HI.out.2⟩
end Go.Proofs.YtpkpmoiekjhdnaaDoor
