/-
  The walks of PhaseMatchesReference, PhaseRuns, PhaseTells. Condition: the table of names holds its own.
-/
import Derived.Test.YtpjaalloenapbaaDoorAwake5
namespace Go.Proofs.YtpjaalloenapbaaDoor
open Go.RowKit Go.Extern.Stop Go.Stop Go.Extern

theorem next_no {p e : Int} (h : nxt p e = 0) (w : World) : Calls Tryd.prog 9 #[.int .i64 p, .int .i64 e] w fun r w' => r = .returned (.tuple #[.int .i64 0, .bool false]) ∧ Keep w w' := by
  have e1 : decide (nxt p e ≠ 0) = false := decide_eq_false (by simp [h])
  have h2 := next_fn p e w
  rwa [e1, h] at h2
theorem next_yes {p e : Int} (h : nxt p e ≠ 0) (w : World) : Calls Tryd.prog 9 #[.int .i64 p, .int .i64 e] w fun r w' => r = .returned (.tuple #[.int .i64 (nxt p e), .bool true]) ∧ Keep w w' := by
  have e1 : decide (nxt p e ≠ 0) = true := decide_eq_true h
  have h2 := next_fn p e w
  rwa [e1] at h2

set_option maxHeartbeats 1000000 in
theorem matches_walk (p e : Int) (w : World) (hv : V5 w) : Calls Tryd.prog 3 #[.int .i64 p, .int .i64 e] w fun r w' => r = .returned (.bool true) ∧ Keep w w' := by
  go_enter Tryd.func3, Tryd.ntmps3
  go_wp2_with fail
  refine (awake_true w hv).mono ?_
  rintro r w1 ⟨rfl, k1⟩
  replace hv := Lib.hid hv
  replace k1 := Lib.hid k1
  by_cases hz : nxt p e = 0
  · go_wp2_with fail
    refine (next_no hz w1).mono ?_
    rintro r w2 ⟨rfl, k2⟩
    have K2 := Lib.hid (k1.out.trans k2)
    replace k2 := Lib.hid k2
    go_wp2_with fail
    refine (rnext_fn p e w2).mono ?_
    rintro r w3 ⟨rfl, rfl⟩
    rw [hz]
    clear hz
    go_wp2
    go_ret
    exact ⟨rfl, K2.out⟩
  · go_wp2_with fail
    refine (next_yes hz w1).mono ?_
    rintro r w2 ⟨rfl, k2⟩
    have K2 := Lib.hid (k1.out.trans k2)
    replace k2 := Lib.hid k2
    obtain ⟨x, hx⟩ : ∃ x, x = nxt p e := ⟨_, rfl⟩
    rw [← hx] at hz ⊢
    replace hx := Lib.hid hx
    have hb : (x != 0) = true := by simpa using hz
    go_wp2_with fail
    refine (rnext_fn p e w2).mono ?_
    rintro r w3 ⟨rfl, rfl⟩
    rw [← hx.out]
    go_wp2
    go_ret
    exact ⟨rfl, K2.out⟩

set_option maxHeartbeats 1000000 in
theorem runs_walk (p : Int) (A : Option Addr) (n c : Nat) (E : Nat → Int) (w : World) (hR : Rd w A n E) (hv : V5 w) : Calls Tryd.prog 4 #[.int .i64 p, .slice A n c] w fun r w' => r = .returned (.bool true) ∧ Keep w w' := by
  have hn := hR.small
  go_enter Tryd.func4, Tryd.ntmps4
  go_wp2_with fail
  refine (awake_true w hv).mono ?_
  rintro r w1 ⟨rfl, k1⟩
  have hR1 := Lib.hid (hR.keep k1)
  have hv1 := Lib.hid (hv.keep k1)
  replace hv := Lib.hid hv
  replace hR := Lib.hid hR
  replace k1 := Lib.hid k1
  by_cases hl : 1000 < n
  · go_wp2_with fail
    refine (awake_true w1 hv1.out).mono ?_
    rintro r w2 ⟨rfl, k2⟩
    have K2 := Lib.hid (k1.out.trans k2)
    replace k2 := Lib.hid k2
    go_wp2
    go_ret
    exact ⟨rfl, K2.out⟩
  · go_wp2_with fail
    refine (run_fn p A n c E w1 hR1.out).mono ?_
    rintro r w2 ⟨rfl, k2⟩
    have K2 := Lib.hid (k1.out.trans k2)
    have hR2 := Lib.hid (hR1.out.keep k2)
    replace k2 := Lib.hid k2
    go_wp2_with fail
    refine (rrun_fn p A n c E w2 hR2.out).mono ?_
    rintro r w3 ⟨rfl, rfl⟩
    obtain ⟨x, hx⟩ : ∃ x, x = (runP p E n).1 := ⟨_, rfl⟩
    obtain ⟨y, hy⟩ : ∃ y, y = (runP p E n).2 := ⟨_, rfl⟩
    rw [← hx, ← hy]
    replace hx := Lib.hid hx
    replace hy := Lib.hid hy
    go_wp2
    go_ret
    exact ⟨rfl, K2.out⟩

theorem runs_door {p : Int} {A : Option Addr} {m cap : Nat} {Z : Nat → Int} {w : World} (hR : Rd w A m Z) (hv : V5 w) : Calls Tryd.prog 4 #[.int .i64 p, .slice A m cap] w fun r w' => r = .returned (.bool true) ∧ Keep w w' := runs_walk p A m cap Z w hR hv
theorem matches_door {p e : Int} {w : World} (hv : V5 w) : Calls Tryd.prog 3 #[.int .i64 p, .int .i64 e] w fun r w' => r = .returned (.bool true) ∧ Keep w w' := matches_walk p e w hv
theorem parse_no {s : ByteArray} (h : par s = 0) (w : World) (hv : V5 w) : Calls Tryd.prog 18 #[.string s] w fun e w' => e = .returned (.tuple #[.int .i64 0, .bool false]) ∧ w = w' := by
  have e1 : decide (par s ≠ 0) = false := decide_eq_false (by simp [h])
  have h2 := parse_fn s w hv
  rwa [e1, h] at h2
theorem parse_yes {s : ByteArray} (h : par s ≠ 0) (w : World) (hv : V5 w) : Calls Tryd.prog 18 #[.string s] w fun e w' => e = .returned (.tuple #[.int .i64 (par s), .bool true]) ∧ w = w' := by
  have e1 : decide (par s ≠ 0) = true := decide_eq_true h
  have h2 := parse_fn s w hv
  rwa [e1] at h2

set_option maxHeartbeats 2000000 in
theorem tells_one (p : Int) (s : ByteArray) (w : World) (hv : V5 w) (hs0 : s.size ≤ 9223372036854775807) (e1 : wt p = true) (e2 : hd p = false) (e3 : pl p = false) (b1 : (p == 1) = true) (b2 : (p == 2) = false) (b3 : (p == 3) = false) (b4 : (p == 4) = false) :
    Calls Tryd.prog 5 #[.int .i64 p, .string s] w fun r w' => r = .returned (.bool true) ∧ Keep w w' := by
  replace e1 := Lib.hid e1
  replace e2 := Lib.hid e2
  replace e3 := Lib.hid e3
  go_enter Tryd.func5, Tryd.ntmps5
  go_wp2_with fail
  refine (awake_true w hv).mono ?_
  rintro r w1 ⟨rfl, k1⟩
  have hv1 := Lib.hid (hv.keep k1)
  replace hv := Lib.hid hv
  replace k1 := Lib.hid k1
  by_cases hl : 100 < s.size
  · go_wp2_with fail
    refine (awake_true w1 hv1.out).mono ?_
    rintro r w2 ⟨rfl, k2⟩
    have K2 := Lib.hid (k1.out.trans k2)
    replace k2 := Lib.hid k2
    go_wp2
    go_ret
    exact ⟨rfl, K2.out⟩
  · go_wp2_with fail
    refine (waits_fn p w1).mono ?_
    rintro r w2 ⟨rfl, rfl⟩
    rw [e1.out]
    go_wp2_with fail
    refine (holds_fn p w1).mono ?_
    rintro r w2 ⟨rfl, rfl⟩
    rw [e2.out]
    go_wp2_with fail
    refine (placed_fn p w1).mono ?_
    rintro r w2 ⟨rfl, rfl⟩
    rw [e3.out]
    go_wp2_with fail
    refine (name_fn p w1 hv1.out).mono ?_
    rintro r w2 ⟨rfl, rfl⟩
    obtain ⟨y, hy⟩ : ∃ y, y = nm p := ⟨_, rfl⟩
    rw [← hy]
    replace hy := Lib.hid hy
    go_wp2_with fail
    refine (rname_fn p w1).mono ?_
    rintro r w2 ⟨rfl, k2⟩
    rw [← hy.out]
    have K2 := Lib.hid (k1.out.trans k2)
    have hv2 := Lib.hid (hv1.out.keep k2)
    replace k2 := Lib.hid k2
    have hq : (y.toList == y.toList) = true := by simp
    by_cases hz : par s = 0
    · go_wp2_with fail
      refine (parse_no hz w2 hv2.out).mono ?_
      rintro r w3 ⟨rfl, rfl⟩
      go_wp2_with fail
      refine (rparse_fn s w2).mono ?_
      rintro r w3 ⟨rfl, k3⟩
      rw [hz]
      have K3 := Lib.hid (K2.out.trans k3)
      replace k3 := Lib.hid k3
      clear hz
      go_wp2
      go_ret
      exact ⟨rfl, K3.out⟩
    · go_wp2_with fail
      refine (parse_yes hz w2 hv2.out).mono ?_
      rintro r w3 ⟨rfl, rfl⟩
      obtain ⟨x, hx⟩ : ∃ x, x = par s := ⟨_, rfl⟩
      rw [← hx] at hz ⊢
      replace hx := Lib.hid hx
      have hb : (x != 0) = true := by simpa using hz
      go_wp2_with fail
      refine (rparse_fn s w2).mono ?_
      rintro r w3 ⟨rfl, k3⟩
      rw [← hx.out]
      have K3 := Lib.hid (K2.out.trans k3)
      replace k3 := Lib.hid k3
      go_wp2
      go_ret
      exact ⟨rfl, K3.out⟩

set_option maxHeartbeats 2000000 in
theorem tells_two (p : Int) (s : ByteArray) (w : World) (hv : V5 w) (hs0 : s.size ≤ 9223372036854775807) (e1 : wt p = true) (e2 : hd p = false) (e3 : pl p = true) (b1 : (p == 1) = false) (b2 : (p == 2) = true) (b3 : (p == 3) = false) (b4 : (p == 4) = false) :
    Calls Tryd.prog 5 #[.int .i64 p, .string s] w fun r w' => r = .returned (.bool true) ∧ Keep w w' := by
  replace e1 := Lib.hid e1
  replace e2 := Lib.hid e2
  replace e3 := Lib.hid e3
  go_enter Tryd.func5, Tryd.ntmps5
  go_wp2_with fail
  refine (awake_true w hv).mono ?_
  rintro r w1 ⟨rfl, k1⟩
  have hv1 := Lib.hid (hv.keep k1)
  replace hv := Lib.hid hv
  replace k1 := Lib.hid k1
  by_cases hl : 100 < s.size
  · go_wp2_with fail
    refine (awake_true w1 hv1.out).mono ?_
    rintro r w2 ⟨rfl, k2⟩
    have K2 := Lib.hid (k1.out.trans k2)
    replace k2 := Lib.hid k2
    go_wp2
    go_ret
    exact ⟨rfl, K2.out⟩
  · go_wp2_with fail
    refine (waits_fn p w1).mono ?_
    rintro r w2 ⟨rfl, rfl⟩
    rw [e1.out]
    go_wp2_with fail
    refine (holds_fn p w1).mono ?_
    rintro r w2 ⟨rfl, rfl⟩
    rw [e2.out]
    go_wp2_with fail
    refine (placed_fn p w1).mono ?_
    rintro r w2 ⟨rfl, rfl⟩
    rw [e3.out]
    go_wp2_with fail
    refine (name_fn p w1 hv1.out).mono ?_
    rintro r w2 ⟨rfl, rfl⟩
    obtain ⟨y, hy⟩ : ∃ y, y = nm p := ⟨_, rfl⟩
    rw [← hy]
    replace hy := Lib.hid hy
    go_wp2_with fail
    refine (rname_fn p w1).mono ?_
    rintro r w2 ⟨rfl, k2⟩
    rw [← hy.out]
    have K2 := Lib.hid (k1.out.trans k2)
    have hv2 := Lib.hid (hv1.out.keep k2)
    replace k2 := Lib.hid k2
    have hq : (y.toList == y.toList) = true := by simp
    by_cases hz : par s = 0
    · go_wp2_with fail
      refine (parse_no hz w2 hv2.out).mono ?_
      rintro r w3 ⟨rfl, rfl⟩
      go_wp2_with fail
      refine (rparse_fn s w2).mono ?_
      rintro r w3 ⟨rfl, k3⟩
      rw [hz]
      have K3 := Lib.hid (K2.out.trans k3)
      replace k3 := Lib.hid k3
      clear hz
      go_wp2
      go_ret
      exact ⟨rfl, K3.out⟩
    · go_wp2_with fail
      refine (parse_yes hz w2 hv2.out).mono ?_
      rintro r w3 ⟨rfl, rfl⟩
      obtain ⟨x, hx⟩ : ∃ x, x = par s := ⟨_, rfl⟩
      rw [← hx] at hz ⊢
      replace hx := Lib.hid hx
      have hb : (x != 0) = true := by simpa using hz
      go_wp2_with fail
      refine (rparse_fn s w2).mono ?_
      rintro r w3 ⟨rfl, k3⟩
      rw [← hx.out]
      have K3 := Lib.hid (K2.out.trans k3)
      replace k3 := Lib.hid k3
      go_wp2
      go_ret
      exact ⟨rfl, K3.out⟩

set_option maxHeartbeats 2000000 in
theorem tells_three (p : Int) (s : ByteArray) (w : World) (hv : V5 w) (hs0 : s.size ≤ 9223372036854775807) (e1 : wt p = false) (e2 : hd p = true) (e3 : pl p = true) (b1 : (p == 1) = false) (b2 : (p == 2) = false) (b3 : (p == 3) = true) :
    Calls Tryd.prog 5 #[.int .i64 p, .string s] w fun r w' => r = .returned (.bool true) ∧ Keep w w' := by
  replace e1 := Lib.hid e1
  replace e2 := Lib.hid e2
  replace e3 := Lib.hid e3
  go_enter Tryd.func5, Tryd.ntmps5
  go_wp2_with fail
  refine (awake_true w hv).mono ?_
  rintro r w1 ⟨rfl, k1⟩
  have hv1 := Lib.hid (hv.keep k1)
  replace hv := Lib.hid hv
  replace k1 := Lib.hid k1
  by_cases hl : 100 < s.size
  · go_wp2_with fail
    refine (awake_true w1 hv1.out).mono ?_
    rintro r w2 ⟨rfl, k2⟩
    have K2 := Lib.hid (k1.out.trans k2)
    replace k2 := Lib.hid k2
    go_wp2
    go_ret
    exact ⟨rfl, K2.out⟩
  · go_wp2_with fail
    refine (waits_fn p w1).mono ?_
    rintro r w2 ⟨rfl, rfl⟩
    rw [e1.out]
    go_wp2_with fail
    refine (holds_fn p w1).mono ?_
    rintro r w2 ⟨rfl, rfl⟩
    rw [e2.out]
    go_wp2_with fail
    refine (placed_fn p w1).mono ?_
    rintro r w2 ⟨rfl, rfl⟩
    rw [e3.out]
    go_wp2_with fail
    refine (name_fn p w1 hv1.out).mono ?_
    rintro r w2 ⟨rfl, rfl⟩
    obtain ⟨y, hy⟩ : ∃ y, y = nm p := ⟨_, rfl⟩
    rw [← hy]
    replace hy := Lib.hid hy
    go_wp2_with fail
    refine (rname_fn p w1).mono ?_
    rintro r w2 ⟨rfl, k2⟩
    rw [← hy.out]
    have K2 := Lib.hid (k1.out.trans k2)
    have hv2 := Lib.hid (hv1.out.keep k2)
    replace k2 := Lib.hid k2
    have hq : (y.toList == y.toList) = true := by simp
    by_cases hz : par s = 0
    · go_wp2_with fail
      refine (parse_no hz w2 hv2.out).mono ?_
      rintro r w3 ⟨rfl, rfl⟩
      go_wp2_with fail
      refine (rparse_fn s w2).mono ?_
      rintro r w3 ⟨rfl, k3⟩
      rw [hz]
      have K3 := Lib.hid (K2.out.trans k3)
      replace k3 := Lib.hid k3
      clear hz
      go_wp2
      go_ret
      exact ⟨rfl, K3.out⟩
    · go_wp2_with fail
      refine (parse_yes hz w2 hv2.out).mono ?_
      rintro r w3 ⟨rfl, rfl⟩
      obtain ⟨x, hx⟩ : ∃ x, x = par s := ⟨_, rfl⟩
      rw [← hx] at hz ⊢
      replace hx := Lib.hid hx
      have hb : (x != 0) = true := by simpa using hz
      go_wp2_with fail
      refine (rparse_fn s w2).mono ?_
      rintro r w3 ⟨rfl, k3⟩
      rw [← hx.out]
      have K3 := Lib.hid (K2.out.trans k3)
      replace k3 := Lib.hid k3
      go_wp2
      go_ret
      exact ⟨rfl, K3.out⟩

set_option maxHeartbeats 2000000 in
theorem tells_four (p : Int) (s : ByteArray) (w : World) (hv : V5 w) (hs0 : s.size ≤ 9223372036854775807) (e1 : wt p = false) (e2 : hd p = true) (e3 : pl p = true) (b1 : (p == 1) = false) (b2 : (p == 2) = false) (b3 : (p == 3) = false) (b4 : (p == 4) = true) :
    Calls Tryd.prog 5 #[.int .i64 p, .string s] w fun r w' => r = .returned (.bool true) ∧ Keep w w' := by
  replace e1 := Lib.hid e1
  replace e2 := Lib.hid e2
  replace e3 := Lib.hid e3
  go_enter Tryd.func5, Tryd.ntmps5
  go_wp2_with fail
  refine (awake_true w hv).mono ?_
  rintro r w1 ⟨rfl, k1⟩
  have hv1 := Lib.hid (hv.keep k1)
  replace hv := Lib.hid hv
  replace k1 := Lib.hid k1
  by_cases hl : 100 < s.size
  · go_wp2_with fail
    refine (awake_true w1 hv1.out).mono ?_
    rintro r w2 ⟨rfl, k2⟩
    have K2 := Lib.hid (k1.out.trans k2)
    replace k2 := Lib.hid k2
    go_wp2
    go_ret
    exact ⟨rfl, K2.out⟩
  · go_wp2_with fail
    refine (waits_fn p w1).mono ?_
    rintro r w2 ⟨rfl, rfl⟩
    rw [e1.out]
    go_wp2_with fail
    refine (holds_fn p w1).mono ?_
    rintro r w2 ⟨rfl, rfl⟩
    rw [e2.out]
    go_wp2_with fail
    refine (placed_fn p w1).mono ?_
    rintro r w2 ⟨rfl, rfl⟩
    rw [e3.out]
    go_wp2_with fail
    refine (name_fn p w1 hv1.out).mono ?_
    rintro r w2 ⟨rfl, rfl⟩
    obtain ⟨y, hy⟩ : ∃ y, y = nm p := ⟨_, rfl⟩
    rw [← hy]
    replace hy := Lib.hid hy
    go_wp2_with fail
    refine (rname_fn p w1).mono ?_
    rintro r w2 ⟨rfl, k2⟩
    rw [← hy.out]
    have K2 := Lib.hid (k1.out.trans k2)
    have hv2 := Lib.hid (hv1.out.keep k2)
    replace k2 := Lib.hid k2
    have hq : (y.toList == y.toList) = true := by simp
    by_cases hz : par s = 0
    · go_wp2_with fail
      refine (parse_no hz w2 hv2.out).mono ?_
      rintro r w3 ⟨rfl, rfl⟩
      go_wp2_with fail
      refine (rparse_fn s w2).mono ?_
      rintro r w3 ⟨rfl, k3⟩
      rw [hz]
      have K3 := Lib.hid (K2.out.trans k3)
      replace k3 := Lib.hid k3
      clear hz
      go_wp2
      go_ret
      exact ⟨rfl, K3.out⟩
    · go_wp2_with fail
      refine (parse_yes hz w2 hv2.out).mono ?_
      rintro r w3 ⟨rfl, rfl⟩
      obtain ⟨x, hx⟩ : ∃ x, x = par s := ⟨_, rfl⟩
      rw [← hx] at hz ⊢
      replace hx := Lib.hid hx
      have hb : (x != 0) = true := by simpa using hz
      go_wp2_with fail
      refine (rparse_fn s w2).mono ?_
      rintro r w3 ⟨rfl, k3⟩
      rw [← hx.out]
      have K3 := Lib.hid (K2.out.trans k3)
      replace k3 := Lib.hid k3
      go_wp2
      go_ret
      exact ⟨rfl, K3.out⟩

set_option maxHeartbeats 2000000 in
theorem tells_other (p : Int) (s : ByteArray) (w : World) (hv : V5 w) (hs0 : s.size ≤ 9223372036854775807) (e1 : wt p = false) (e2 : hd p = false) (e3 : pl p = false) (b1 : (p == 1) = false) (b2 : (p == 2) = false) (b3 : (p == 3) = false) (b4 : (p == 4) = false) :
    Calls Tryd.prog 5 #[.int .i64 p, .string s] w fun r w' => r = .returned (.bool true) ∧ Keep w w' := by
  replace e1 := Lib.hid e1
  replace e2 := Lib.hid e2
  replace e3 := Lib.hid e3
  go_enter Tryd.func5, Tryd.ntmps5
  go_wp2_with fail
  refine (awake_true w hv).mono ?_
  rintro r w1 ⟨rfl, k1⟩
  have hv1 := Lib.hid (hv.keep k1)
  replace hv := Lib.hid hv
  replace k1 := Lib.hid k1
  by_cases hl : 100 < s.size
  · go_wp2_with fail
    refine (awake_true w1 hv1.out).mono ?_
    rintro r w2 ⟨rfl, k2⟩
    have K2 := Lib.hid (k1.out.trans k2)
    replace k2 := Lib.hid k2
    go_wp2
    go_ret
    exact ⟨rfl, K2.out⟩
  · go_wp2_with fail
    refine (waits_fn p w1).mono ?_
    rintro r w2 ⟨rfl, rfl⟩
    rw [e1.out]
    go_wp2_with fail
    refine (holds_fn p w1).mono ?_
    rintro r w2 ⟨rfl, rfl⟩
    rw [e2.out]
    go_wp2_with fail
    refine (placed_fn p w1).mono ?_
    rintro r w2 ⟨rfl, rfl⟩
    rw [e3.out]
    go_wp2_with fail
    refine (name_fn p w1 hv1.out).mono ?_
    rintro r w2 ⟨rfl, rfl⟩
    obtain ⟨y, hy⟩ : ∃ y, y = nm p := ⟨_, rfl⟩
    rw [← hy]
    replace hy := Lib.hid hy
    go_wp2_with fail
    refine (rname_fn p w1).mono ?_
    rintro r w2 ⟨rfl, k2⟩
    rw [← hy.out]
    have K2 := Lib.hid (k1.out.trans k2)
    have hv2 := Lib.hid (hv1.out.keep k2)
    replace k2 := Lib.hid k2
    have hq : (y.toList == y.toList) = true := by simp
    by_cases hz : par s = 0
    · go_wp2_with fail
      refine (parse_no hz w2 hv2.out).mono ?_
      rintro r w3 ⟨rfl, rfl⟩
      go_wp2_with fail
      refine (rparse_fn s w2).mono ?_
      rintro r w3 ⟨rfl, k3⟩
      rw [hz]
      have K3 := Lib.hid (K2.out.trans k3)
      replace k3 := Lib.hid k3
      clear hz
      go_wp2
      go_ret
      exact ⟨rfl, K3.out⟩
    · go_wp2_with fail
      refine (parse_yes hz w2 hv2.out).mono ?_
      rintro r w3 ⟨rfl, rfl⟩
      obtain ⟨x, hx⟩ : ∃ x, x = par s := ⟨_, rfl⟩
      rw [← hx] at hz ⊢
      replace hx := Lib.hid hx
      have hb : (x != 0) = true := by simpa using hz
      go_wp2_with fail
      refine (rparse_fn s w2).mono ?_
      rintro r w3 ⟨rfl, k3⟩
      rw [← hx.out]
      have K3 := Lib.hid (K2.out.trans k3)
      replace k3 := Lib.hid k3
      go_wp2
      go_ret
      exact ⟨rfl, K3.out⟩

theorem tells_walk (p : Int) (s : ByteArray) (w : World) (hv : V5 w) (hs0 : s.size ≤ 9223372036854775807) : Calls Tryd.prog 5 #[.int .i64 p, .string s] w fun r w' => r = .returned (.bool true) ∧ Keep w w' := by
  by_cases h1 : p = 1
  · subst h1
    exact tells_one 1 s w hv hs0 rfl rfl rfl rfl rfl rfl rfl
  by_cases h2 : p = 2
  · subst h2
    exact tells_two 2 s w hv hs0 rfl rfl rfl rfl rfl rfl rfl
  by_cases h3 : p = 3
  · subst h3
    exact tells_three 3 s w hv hs0 rfl rfl rfl rfl rfl rfl
  by_cases h4 : p = 4
  · subst h4
    exact tells_four 4 s w hv hs0 rfl rfl rfl rfl rfl rfl rfl
  exact tells_other p s w hv hs0 (decide_eq_false (by omega)) (decide_eq_false (by omega)) (decide_eq_false (by omega)) (by simpa using h1) (by simpa using h2) (by simpa using h3) (by simpa using h4)
theorem tells_door {p : Int} {s : ByteArray} {w : World} (hv : V5 w) (hs0 : s.size ≤ 9223372036854775807) : Calls Tryd.prog 5 #[.int .i64 p, .string s] w fun r w' => r = .returned (.bool true) ∧ Keep w w' := tells_walk p s w hv hs0
end Go.Proofs.YtpjaalloenapbaaDoor
