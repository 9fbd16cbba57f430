/-
  slices.rotateCmpFunc at pods. Condition: both blocks hold something.
-/
import Derived.Test.YtpkpmoiekjhdnaaDoorSwap6
namespace Go.Proofs.YtpkpmoiekjhdnaaDoor
open Go.Shelf Go.RowKit Go.Lib Go.Sort
variable {P : Program} {k : Nat}
set_option maxHeartbeats 4000000 in
set_option maxRecDepth 1000000 in
theorem srot_fn (L : SLy P k) (enc : Nat → List Value) (g : Nat) (cb : Array Value) (blk off cap a m b : Nat) (d0 d : Array Nat) (w0 w : World)
    (R : RowK enc k w0 blk off d0) (hs : d0.size = d.size) (S : SWK enc k w0 blk off d w) (ham : a < m) (hmb : m < b) (hb : b ≤ d.size) (hsz : d.size < 4611686018427387904) :
    Calls P 48 #[.slice (some ⟨blk, off, none⟩) d.size cap, .int .i64 a, .int .i64 m, .int .i64 b, .func (.func g) #[] cb] w fun e w' => e = .returned (.tuple #[]) ∧ ∃ dk : Array Nat, Aside (SWK enc k w0 blk off dk w') ∧ PermIn a b d dk ∧ ∀ p, dk[p]! = d[rotIx a m b p]! := by
  have mixed := L.mixed; have t0 := L.t0; have a0 := L.a0; have z0 := L.z0; have v0 := L.v0; have t3 := L.t3; have a3 := L.a3; have z3 := L.z3; have v3 := L.v3; have t4 := L.t4; have a4 := L.a4; have z4 := L.z4; have v4 := L.v4; have t22 := L.t22; have a22 := L.a22; have z22 := L.z22; have v22 := L.v22; have t25 := L.t25; have a25 := L.a25; have z25 := L.z25; have v25 := L.v25; have aE := L.aE; have zE := L.zE
  have FG := L.fRotate
  have eS : ∀ args w, (callFunc 50 args).run P w = .ok (.enter 50 args) w := enters_of L.fSwap (by kernel_rfl) rfl
  have S0 : Aside (SWK enc k w0 blk off d w) := S
  clear S
  go_enter FG, Tryd.ntmps48
  go_wp2
  go_loopg [10, 11] (b - a) (fun gx s10 s11 wr => ∃ (i j : Nat) (dk : Array Nat), s10 = .int .i64 i ∧ s11 = .int .i64 j ∧ 0 < i ∧ 0 < j ∧ i + a ≤ m ∧ m + j ≤ b ∧ i + j ≤ gx ∧ dk.size = d.size ∧ Aside (SWK enc k w0 blk off dk wr) ∧ Hid (PermIn a b d dk) ∧ Hid (∀ p, dk[rotIx (m - i) m (m + j) p]! = d[rotIx a m b p]!))
  case atStart => exact ⟨m - a, b - m, d, by go_num, by go_num, by omega, by omega, by omega, by omega, by omega, rfl, S0, permIn_refl _ _ _, fun p => by rw [show m - (m - a) = a by omega, show m + (b - m) = b by omega]⟩
  case round =>
    clear S0
    obtain ⟨i, j, dk, rfl, rfl, hi, hj, him, hjb, hgx, hds, S1, HP, HR⟩ := hrel
    have ci : ((m - i : Nat) : Int) = (m : Int) - (i : Int) := by omega
    by_cases heq : i = j
    · subst heq
      have hc := sswap_fn L enc g cb blk off cap (m - i) m i d0 dk w0 wr R (by omega) S1.out (by omega) (by omega) (by omega)
      rw [ci, hds] at hc
      clear S1
      go_wp2_with (go_at_fn 50; refine hc.mono ?_; rintro e w1 ⟨rfl, S2⟩)
      go_end0
      exact ⟨rfl, _, S2, permIn_trans _ _ _ _ _ HP.out (swapR_perm dk _ _ a b (by omega) (by omega) (by omega) i (by omega) (by omega)), fun p => rot_same (by omega) (by omega) HR.out p⟩
    · have hne : ((i : Int) != (j : Int)) = true := by simpa using (by omega : ¬ (i : Int) = (j : Int))
      by_cases hgt : j < i
      · have hgz : (j : Int) < (i : Int) := by omega
        have hc := sswap_fn L enc g cb blk off cap (m - i) m j d0 dk w0 wr R (by omega) S1.out (by omega) (by omega) (by omega)
        rw [ci, hds] at hc
        clear S1
        go_wp2_with (go_at_fn 50; refine hc.mono ?_; rintro e w1 ⟨rfl, S2⟩)
        go_roundg (i - j + j)
        case measure => omega
        case rel => exact ⟨i - j, j, _, by go_num, rfl, by omega, hj, by omega, hjb, Nat.le_refl _, by rw [swapR_size]; exact hds, S2, permIn_trans _ _ _ _ _ HP.out (swapR_perm dk _ _ a b (by omega) (by omega) (by omega) j (by omega) (by omega)), fun p => rot_more hgt (by omega) (by omega) HR.out p⟩
      · have hgz : ¬ (j : Int) < (i : Int) := by omega
        have cj : ((m + j - i : Nat) : Int) = (m : Int) + (j : Int) - (i : Int) := by omega
        have hc := sswap_fn L enc g cb blk off cap (m - i) (m + j - i) i d0 dk w0 wr R (by omega) S1.out (by omega) (by omega) (by omega)
        rw [ci, cj, hds] at hc
        clear S1
        go_wp2_with (go_at_fn 50; refine hc.mono ?_; rintro e w1 ⟨rfl, S2⟩)
        go_roundg (i + (j - i))
        case measure => omega
        case rel => exact ⟨i, j - i, _, rfl, by go_num, hi, by omega, him, by omega, Nat.le_refl _, by rw [swapR_size]; exact hds, S2, permIn_trans _ _ _ _ _ HP.out (swapR_perm dk _ _ a b (by omega) (by omega) (by omega) i (by omega) (by omega)), fun p => rot_less (by omega) (by omega) (by omega) HR.out p⟩
end Go.Proofs.YtpkpmoiekjhdnaaDoor
