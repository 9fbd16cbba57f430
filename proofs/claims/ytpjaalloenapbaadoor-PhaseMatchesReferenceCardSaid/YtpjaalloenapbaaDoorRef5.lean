/-
  The reference's functions of stage 5. No condition.
-/
import Derived.Test.YtpjaalloenapbaaDoorTell5
namespace Go.Proofs.YtpjaalloenapbaaDoor
open Go.RowKit Go.Extern.Stop Go.Stop Go.Extern

theorem nxt_zero {p e : Int} (h : ∀ x ∈ tab, p = x.1 → e ≠ x.2.1) : nxt p e = 0 := by
  unfold nxt
  rw [look_not]
  · rfl
  · intro v hv
    exact h _ hv rfl rfl
theorem nxt_event {p e : Int} (h : e < 1 ∨ 5 < e) : nxt p e = 0 := by
  have hb : ∀ x ∈ tab, 1 ≤ x.2.1 ∧ x.2.1 ≤ 5 := by decide
  refine nxt_zero fun x hx _ he => ?_
  have := hb x hx
  omega
theorem nxt_phase {p e : Int} (h : p < 1 ∨ 4 < p) : nxt p e = 0 := by
  have hb : ∀ x ∈ tab, 1 ≤ x.1 ∧ x.1 ≤ 4 := by decide
  refine nxt_zero fun x hx he => ?_
  have := hb x hx
  omega
theorem nxt1 {p : Int} (h1 : p ≠ 1) (h2 : p ≠ 2) : nxt p 1 = 0 := by
  have hb : ∀ x ∈ tab, x.2.1 = 1 → x.1 = 1 ∨ x.1 = 2 := by decide
  refine nxt_zero fun x hx he h => ?_
  have := hb x hx h.symm
  omega
theorem nxt2 {p : Int} (h1 : p ≠ 1) (h2 : p ≠ 2) : nxt p 2 = 0 := by
  have hb : ∀ x ∈ tab, x.2.1 = 2 → x.1 = 1 ∨ x.1 = 2 := by decide
  refine nxt_zero fun x hx he h => ?_
  have := hb x hx h.symm
  omega
theorem nxt3 {p : Int} (h2 : p ≠ 2) : nxt p 3 = 0 := by
  have hb : ∀ x ∈ tab, x.2.1 = 3 → x.1 = 2 := by decide
  refine nxt_zero fun x hx he h => ?_
  have := hb x hx h.symm
  omega
theorem nxt4 {p : Int} (h2 : p ≠ 3) : nxt p 4 = 0 := by
  have hb : ∀ x ∈ tab, x.2.1 = 4 → x.1 = 3 := by decide
  refine nxt_zero fun x hx he h => ?_
  have := hb x hx h.symm
  omega
theorem nxt5 {p : Int} (h1 : 1 ≤ p) (h4 : p ≤ 4) : nxt p 5 = 5 := by
  have : p = 1 ∨ p = 2 ∨ p = 3 ∨ p = 4 := by omega
  rcases this with rfl | rfl | rfl | rfl <;> rfl

set_option maxHeartbeats 1000000 in
theorem rnext_fn (p e : Int) (w : World) : Calls Tryd.prog 10 #[.int .i64 p, .int .i64 e] w fun r w' => r = .returned (.int .i64 (nxt p e)) ∧ w = w' := by
  by_cases h1 : e = 1
  · subst h1
    by_cases c1 : p = 1
    · subst c1
      go_enter Tryd.func10, Tryd.ntmps10
      go_wp2
      go_ret
      exact ⟨rfl, rfl⟩
    by_cases c2 : p = 2
    · subst c2
      go_enter Tryd.func10, Tryd.ntmps10
      go_wp2
      go_ret
      exact ⟨rfl, rfl⟩
    rw [nxt1 c1 c2]
    have b1 : (p == 1) = false := by simpa using c1
    have b2 : (p == 2) = false := by simpa using c2
    go_enter Tryd.func10, Tryd.ntmps10
    go_wp2
    go_ret
    exact ⟨rfl, rfl⟩
  by_cases h2 : e = 2
  · subst h2
    by_cases c1 : p = 1
    · subst c1
      go_enter Tryd.func10, Tryd.ntmps10
      go_wp2
      go_ret
      exact ⟨rfl, rfl⟩
    by_cases c2 : p = 2
    · subst c2
      go_enter Tryd.func10, Tryd.ntmps10
      go_wp2
      go_ret
      exact ⟨rfl, rfl⟩
    rw [nxt2 c1 c2]
    have b1 : (p == 1) = false := by simpa using c1
    have b2 : (p == 2) = false := by simpa using c2
    go_enter Tryd.func10, Tryd.ntmps10
    go_wp2
    go_ret
    exact ⟨rfl, rfl⟩
  by_cases h3 : e = 3
  · subst h3
    by_cases c2 : p = 2
    · subst c2
      go_enter Tryd.func10, Tryd.ntmps10
      go_wp2
      go_ret
      exact ⟨rfl, rfl⟩
    rw [nxt3 c2]
    go_enter Tryd.func10, Tryd.ntmps10
    go_wp2
    go_ret
    exact ⟨rfl, rfl⟩
  by_cases h4 : e = 4
  · subst h4
    by_cases c2 : p = 3
    · subst c2
      go_enter Tryd.func10, Tryd.ntmps10
      go_wp2
      go_ret
      exact ⟨rfl, rfl⟩
    rw [nxt4 c2]
    go_enter Tryd.func10, Tryd.ntmps10
    go_wp2
    go_ret
    exact ⟨rfl, rfl⟩
  by_cases h5 : e = 5
  · subst h5
    by_cases c1 : p < 1
    · rw [nxt_phase (Or.inl c1)]
      go_enter Tryd.func10, Tryd.ntmps10
      go_wp2
      go_ret
      exact ⟨rfl, rfl⟩
    by_cases c4 : 4 < p
    · rw [nxt_phase (Or.inr c4)]
      go_enter Tryd.func10, Tryd.ntmps10
      go_wp2
      go_ret
      exact ⟨rfl, rfl⟩
    rw [nxt5 (by omega) (by omega)]
    go_enter Tryd.func10, Tryd.ntmps10
    go_wp2
    go_ret
    exact ⟨rfl, rfl⟩
  rw [nxt_event (by omega)]
  go_enter Tryd.func10, Tryd.ntmps10
  go_wp2
  go_ret
  exact ⟨rfl, rfl⟩

set_option maxHeartbeats 1000000 in
theorem rrun_fn (p : Int) (A : Option Addr) (n c : Nat) (E : Nat → Int) (w : World) (hR : Rd w A n E) :
    Calls Tryd.prog 12 #[.int .i64 p, .slice A n c] w fun r w' => r = .returned (.tuple #[.int .i64 (runP p E n).1, .int .i64 ((runP p E n).2 : Nat)]) ∧ w = w' := by
  have hn := hR.small
  replace hR := Lib.hid hR
  go_enter Tryd.func12, Tryd.ntmps12
  go_wp2
  go_loopg [0, 6] n (fun g q i wr => ∃ j : Nat, j ≤ n ∧ g = n - j ∧ i = .int .i64 j ∧ q = .int .i64 (runP p E j).1 ∧ Hid ((runP p E j).2 = j) ∧ Hid (w = wr))
  case atStart => exact ⟨0, Nat.zero_le _, rfl, rfl, rfl, rfl, rfl⟩
  case round =>
    obtain ⟨j, hj, rfl, rfl, rfl, hrun, hw⟩ := hrel
    have hw := hw.out
    subst hw
    obtain ⟨q, hq⟩ : ∃ q, q = (runP p E j).1 := ⟨_, rfl⟩
    rw [← hq]
    replace hq := Lib.hid hq
    by_cases hlt : j < n
    · obtain ⟨b, off, hA, ca⟩ := hR.out.adr (by omega)
      subst hA
      have g0 := ca j hlt
      clear ca
      obtain ⟨x, hx⟩ : ∃ x, x = E j := ⟨_, rfl⟩
      rw [← hx] at g0
      replace hx := Lib.hid hx
      go_wp2_with fail
      refine (rnext_fn q x w).mono ?_
      rintro r w1 ⟨rfl, rfl⟩
      by_cases hz : nxt q x = 0
      · rw [hz]
        have e0 := Lib.hid (runP_off hrun.out (by rw [← hq.out, ← hx.out]; exact hz) n (by omega))
        replace hz := Lib.hid hz
        go_wp2
        go_ret2
        exact ⟨by rw [e0.out, ← hq.out, hrun.out]; rfl, rfl⟩
      · have e0 := Lib.hid (runP_on hrun.out (by rw [← hq.out, ← hx.out]; exact hz))
        obtain ⟨y, hy⟩ : ∃ y, y = nxt q x := ⟨_, rfl⟩
        rw [← hy] at hz ⊢
        replace hy := Lib.hid hy
        go_wp2_with fail
        refine (rnext_fn q x w).mono ?_
        rintro r w1 ⟨rfl, rfl⟩
        go_wp2
        go_roundg (n - (j + 1))
        case measure => omega
        case rel => exact ⟨j + 1, hlt, rfl, by go_num, by rw [e0.out, ← hq.out, ← hx.out], by rw [e0.out]; rfl, rfl⟩
    · obtain rfl : j = n := by omega
      go_wp2
      go_ret2
      exact ⟨by rw [← hq.out, hrun.out]; rfl, rfl⟩

set_option maxHeartbeats 1000000 in
theorem rname_fn (p : Int) (w : World) : Calls Tryd.prog 17 #[.int .i64 p] w fun e w' => e = .returned (.string (nm p)) ∧ Keep w w' := by
  by_cases h : p < 1
  · have e : nm p = ⟨#[]⟩ := by
      by_cases h0 : p < 0
      · exact nm_out (by omega)
      · obtain rfl : p = 0 := by omega
        rfl
    rw [e]
    clear e
    go_enter Tryd.func17, Tryd.ntmps17
    go_wp2
    go_ret
    exact ⟨rfl, Keep.one _ _⟩
  · by_cases h' : 5 < p
    · rw [nm_out (by omega)]
      go_enter Tryd.func17, Tryd.ntmps17
      go_wp2
      go_ret
      exact ⟨rfl, Keep.one _ _⟩
    · have e : p = 1 ∨ p = 2 ∨ p = 3 ∨ p = 4 ∨ p = 5 := by omega
      clear h h'
      rcases e with rfl | rfl | rfl | rfl | rfl
      · go_enter Tryd.func17, Tryd.ntmps17
        go_wp2
        go_ret
        exact ⟨rfl, Keep.one _ _⟩
      · go_enter Tryd.func17, Tryd.ntmps17
        go_wp2
        go_ret
        exact ⟨rfl, Keep.one _ _⟩
      · go_enter Tryd.func17, Tryd.ntmps17
        go_wp2
        go_ret
        exact ⟨rfl, Keep.one _ _⟩
      · go_enter Tryd.func17, Tryd.ntmps17
        go_wp2
        go_ret
        exact ⟨rfl, Keep.one _ _⟩
      · go_enter Tryd.func17, Tryd.ntmps17
        go_wp2
        go_ret
        exact ⟨rfl, Keep.one _ _⟩

set_option maxHeartbeats 1000000 in
theorem rparse_fn (s : ByteArray) (w : World) : Calls Tryd.prog 19 #[.string s] w fun e w' => e = .returned (.int .i64 (par s)) ∧ Keep w w' := by
  go_enter Tryd.func19, Tryd.ntmps19
  go_wp2
  go_loopg [3] 5 (fun g i wr => ∃ j : Nat, 1 ≤ j ∧ j ≤ 6 ∧ g = 6 - j ∧ i = .int .i64 j ∧ Hid (∀ m : Nat, 1 ≤ m → m < j → nm m ≠ s) ∧ Hid (Keep w wr))
  case atStart => exact ⟨1, by omega, by omega, rfl, rfl, fun m h1 h2 => by omega, Keep.refl _⟩
  case round =>
    obtain ⟨j, h1, h6, rfl, rfl, hb, k⟩ := hrel
    by_cases hlt : j ≤ 5
    · go_wp2_with fail
      refine (rname_fn j _).mono ?_
      rintro e w1 ⟨rfl, k1⟩
      have k2 := Lib.hid (k.out.trans k1)
      replace k1 := Lib.hid k1
      obtain ⟨y, hy⟩ : ∃ y, y = nm j := ⟨_, rfl⟩
      rw [← hy]
      replace hy := Lib.hid hy
      by_cases he : y = s
      · have hq : (y.toList == s.toList) = true := by rw [bytes_eq]; exact decide_eq_true he
        have e0 := Lib.hid (par_hit h1 hlt hb.out (hy.out.symm.trans he))
        replace he := Lib.hid he
        go_wp2
        go_ret
        refine ⟨?_, k2.out⟩
        rw [e0.out]
        rfl
      · have hq : (y.toList == s.toList) = false := by rw [bytes_eq]; exact decide_eq_false he
        have e0 : Hid (∀ m : Nat, 1 ≤ m → m < j + 1 → nm m ≠ s) := fun m g1 g2 => by
          rcases Nat.lt_succ_iff_lt_or_eq.1 g2 with g | rfl
          · exact hb.out m g1 g
          · rw [← hy.out]; exact he
        replace he := Lib.hid he
        go_wp2
        go_roundg (6 - (j + 1))
        case measure => omega
        case rel => exact ⟨j + 1, by omega, by omega, rfl, by go_num, e0, k2⟩
    · obtain rfl : j = 6 := by omega
      have e0 := Lib.hid (par_none hb.out)
      go_wp2
      go_ret
      exact ⟨by rw [e0.out]; rfl, k.out⟩
end Go.Proofs.YtpjaalloenapbaaDoor
