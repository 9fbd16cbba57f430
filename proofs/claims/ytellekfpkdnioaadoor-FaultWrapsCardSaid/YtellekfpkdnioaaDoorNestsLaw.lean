/-
  FaultNests: the walk. Condition: the three listed variables hold their own.
-/
import Derived.Test.YtellekfpkdnioaaDoorAwake
namespace Go.Proofs.YtellekfpkdnioaaDoor
open Go.RowKit Go.Extern.Stop Go.Stop Go.Extern

/-- The numbers of a slice: n of them, number k is Z k. -/
structure Rd (w : World) (A : Option Addr) (n : Nat) (Z : Nat → Int) : Prop where
  small : n ≤ 9223372036854775807
  range : ∀ k, k < n → -9223372036854775808 ≤ Z k ∧ Z k ≤ 9223372036854775807
  adr : 0 < n → ∃ b off, A = some ⟨b, off, none⟩ ∧ ∀ j, j < n → w.cell? ⟨b, off + j, none⟩ = some (.int .i64 (Z j))
theorem Rd.keep {w w' : World} {A n Z} (h : Rd w A n Z) (hb : Keep w w') : Rd w' A n Z :=
  ⟨h.small, h.range, fun hn => by
    obtain ⟨b, off, e, hc⟩ := h.adr hn
    exact ⟨b, off, e, fun j hj => hb.cell (hc j hj)⟩⟩
theorem Rd.nil (w : World) (A : Option Addr) (Z : Nat → Int) : Rd w A 0 Z := ⟨by omega, fun _ h => absurd h (Nat.not_lt_zero _), fun h => absurd h (Nat.lt_irrefl _)⟩

set_option maxRecDepth 100000 in
set_option maxHeartbeats 8000000 in
theorem nests_out (c n : Int) (A : Option Addr) (m cap : Nat) (Z : Nat → Int) (w : World) (hv : Vars w) (hR : Rd w A m Z) (hm : m = 0 ∨ 50 < m) :
    Calls Tryd.prog 7 #[.int .i64 c, .int .i64 n, .slice A m cap] w fun e w' => e = .returned (.bool true) ∧ Keep w w' := by
  have hv := Lib.hid hv
  have hsm := hR.small
  clear hR
  rcases hm with rfl | hm
  all_goals
    go_enter Tryd.func7, Tryd.ntmps7
    go_wp2_with fail
    refine (awake_true _ hv.out).mono ?_
    rintro e w1 ⟨rfl, h⟩
    have k1 := Lib.hid h
    replace h := Lib.hid h
    go_wp2_with fail
    refine (awake_true _ (hv.out.keep k1.out)).mono ?_
    rintro e w2 ⟨rfl, h⟩
    have k2 := Lib.hid (k1.out.trans h)
    replace h := Lib.hid h
    go_wp2
    go_ret
    exact ⟨rfl, k2.out⟩
set_option maxRecDepth 100000 in
set_option maxHeartbeats 16000000 in
theorem nests_in (c n : Int) (A : Option Addr) (m cap : Nat) (Z : Nat → Int) (w : World) (hv : Vars w) (hR : Rd w A m Z) (h0 : 0 < m) (hm : m ≤ 50) :
    Calls Tryd.prog 7 #[.int .i64 c, .int .i64 n, .slice A m cap] w fun e w' => e = .returned (.bool true) ∧ Keep w w' := by
  have hv := Lib.hid hv
  obtain ⟨b, off, rfl, hz⟩ := hR.adr h0
  have hz := Lib.hid hz
  clear hR
  have hne : ((m : Int) == 0) = false := by simp; omega
  go_enter Tryd.func7, Tryd.ntmps7
  go_wp2_with fail
  refine (awake_true _ hv.out).mono ?_
  rintro e w1 ⟨rfl, h⟩
  have k1 := Lib.hid h
  replace h := Lib.hid h
  go_wp2_with fail
  refine (new_fn c n _).mono ?_
  rintro e w' ⟨rfl, rfl⟩
  unfold Base.val
  go_wp2_with fail
  refine (harm_yes c [] (.fault c n) _ _ (.base _) (Or.inr ⟨_, rfl⟩) (hv.out.keep k1.out).err).mono ?_
  rintro e w2 ⟨rfl, h⟩
  have k2 := Lib.hid (k1.out.trans h)
  replace h := Lib.hid h
  go_wp2
  go_loopg [7, 9] m (fun g v i wr => ∃ (j : Nat) (ks : List Int), j ≤ m ∧ g = m - j ∧ i = .int .i64 j ∧ Chain wr ks (.fault c n) v ∧ Hid (Keep w wr))
  case atStart => exact ⟨0, [], Nat.zero_le _, rfl, rfl, .base _, k2⟩
  case round =>
    obtain ⟨j, ks, hj, rfl, rfl, hch, hk⟩ := hrel
    by_cases hlt : j < m
    · obtain ⟨tv, xv, rfl⟩ := hch.iface
      have hC := Lib.hid (hch.in_ (Z j))
      have hzc := hk.out.cell (hz.out j hlt)
      have hpp : Hid ((wr.alloc (.cells #[.int .i64 (Z j), .iface tv xv] 59)).cell? ⟨wr.heap.size, 0, none⟩ = some (.int .i64 (Z j))) := by show _ = _; simp
      have j0 := Lib.hid (hk.out.alloc (.cells #[.int .i64 (Z j), .iface tv xv] 59))
      have hV := Lib.hid (hv.out.keep j0.out)
      have hzc0 := Lib.hid hzc
      have hsz : Hid (hz.out j hlt = hz.out j hlt) := rfl
      clear hch hsz
      go_wp2_with fail
      refine (in_fn (Z j) _ _ _).mono ?_
      rintro e w' ⟨rfl, rfl⟩
      go_wp2_with fail
      refine (code_yes c _ (.fault c n) _ _ hC.out (Or.inr ⟨_, rfl⟩) hV.out.err).mono ?_
      rintro e w3 ⟨rfl, h⟩
      have j3 := Lib.hid h
      replace h := Lib.hid h
      go_wp2_with fail
      refine (at_yes c n _ _ _ (hC.out.keep j3.out) (hV.out.keep j3.out).err).mono ?_
      rintro e w4 ⟨rfl, h⟩
      have j4 := Lib.hid (j3.out.trans h)
      replace h := Lib.hid h
      go_wp2_with fail
      refine (place_yes (Z j) _ _ (j4.out.cell hpp.out) (hV.out.keep j4.out).err).mono ?_
      rintro e w5 ⟨rfl, h⟩
      have j5 := Lib.hid (j4.out.trans h)
      have hzc5 := (j0.out.trans j5.out).cell (hz.out j hlt)
      replace h := Lib.hid h
      go_wp2_with fail
      refine (harm_yes c _ (.fault c n) _ _ (hC.out.keep j5.out) (Or.inr ⟨_, rfl⟩) (hV.out.keep j5.out).err).mono ?_
      rintro e w6 ⟨rfl, h⟩
      have j6 := Lib.hid (j5.out.trans h)
      replace h := Lib.hid h
      clear hzc hzc5
      go_wp2
      go_roundg (m - (j + 1))
      case measure => omega
      case rel => exact ⟨j + 1, _, hlt, rfl, by go_num, hC.out.keep j6.out, j0.out.trans j6.out⟩
    · obtain rfl : j = m := by omega
      go_wp2
      go_ret
      exact ⟨rfl, hk.out⟩
theorem nests_walk (c n : Int) (A : Option Addr) (m cap : Nat) (Z : Nat → Int) (w : World) (hv : Vars w) (hR : Rd w A m Z) :
    Calls Tryd.prog 7 #[.int .i64 c, .int .i64 n, .slice A m cap] w fun e w' => e = .returned (.bool true) ∧ Keep w w' := by
  by_cases h : m = 0 ∨ 50 < m
  · exact nests_out c n A m cap Z w hv hR h
  · exact nests_in c n A m cap Z w hv hR (by omega) (by omega)
end Go.Proofs.YtellekfpkdnioaaDoor
