/-
  The walk of ParkNames. Condition: the table of names holds its own.
-/
import Derived.Test.YtpkpmoiekjhdnaaDoorAwake8
namespace Go.Proofs.YtpkpmoiekjhdnaaDoor
open Go.RowKit Go.Sort Go.Lib Go.Shelf

set_option maxRecDepth 100000 in
set_option maxHeartbeats 8000000 in
theorem names_walk {r id : Int} {w : World} (hv : V8 w) (hi : I64 id) : Calls Tryd.prog 6 #[.int .i64 r, .int .i64 id] w fun e w' => e = .returned (.bool true) ∧ Keep w w' := by
  have cases : (∃ s b, rnm r = s ∧ (b = true ↔ (1 ≤ r ∧ r ≤ 4)) ∧ ((s = ⟨#[]⟩ ∧ b = false) ∨ (s = ⟨#[110, 111, 32, 110, 111, 100, 101]⟩ ∧ b = true) ∨ (s = ⟨#[110, 101, 118, 101, 114]⟩ ∧ b = true) ∨ (s = ⟨#[99, 108, 97, 105, 109, 101, 100]⟩ ∧ b = true) ∨ (s = ⟨#[119, 97, 105, 116, 105, 110, 103]⟩ ∧ b = true))) := by
    by_cases h : 1 ≤ r ∧ r ≤ 4
    · refine ⟨rnm r, true, rfl, by simp [h], ?_⟩
      have : r = 1 ∨ r = 2 ∨ r = 3 ∨ r = 4 := by omega
      rcases this with rfl | rfl | rfl | rfl
      · exact Or.inr (Or.inl ⟨rfl, rfl⟩)
      · exact Or.inr (Or.inr (Or.inl ⟨rfl, rfl⟩))
      · exact Or.inr (Or.inr (Or.inr (Or.inl ⟨rfl, rfl⟩)))
      · exact Or.inr (Or.inr (Or.inr (Or.inr ⟨rfl, rfl⟩)))
    · exact ⟨_, false, (rnm_empty r).2 (by omega), by simp; omega, Or.inl ⟨rfl, rfl⟩⟩
  obtain ⟨s, b, hs, hb, hc⟩ := cases
  have hv := Lib.hid hv
  have aw := Lib.hid awake_true
  have hi := Lib.hid hi
  go_enter Tryd.func6, Tryd.ntmps6
  go_wp2_with fail
  refine (pnew_fn _).mono ?_
  rintro e w1 ⟨bl, rfl, k1, hQ⟩
  have hQ := Lib.hid hQ
  replace k1 := Lib.hid k1
  go_wp2_with fail
  refine (aw.out _ (hv.out.keep k1.out)).mono ?_
  rintro e w2 ⟨rfl, k2⟩
  have K2 := Lib.hid (k1.out.trans k2)
  have cN := Lib.hid (pname_fn r w2 (hv.out.keep K2.out))
  have cR : Hid (∀ W, Calls Tryd.prog 24 #[.int .i64 r] W fun e w' => e = .returned (.string s) ∧ W = w') := fun W => by
    have := rname8_fn r W
    rwa [hs] at this
  rw [hs] at cN
  have cA : Hid (Calls Tryd.prog 20 #[.pointer (some ⟨bl, 0, none⟩), .agg #[.int .i64 id, .int .i64 0, .bool false, .int .i64 0, .slice none 0 0, .int .i64 0, .int .i64 0, .int .i64 0, .int .i64 0], .int .i64 r] w2 fun e w' => e = .returned (.bool b) ∧ Keep w w') := by
    obtain ⟨D, Q, hD⟩ := hQ.out w.heap.size w2 (Nat.le_refl _) k2 K2.out.size
    cases b with
    | true =>
      have h := hb.1 rfl
      refine (padd_new Q (pz id 0) r h.1 h.2 (by simp [keysE]) (pz_is _ hi.out i64_zero) (by show (0 : Nat) ≤ 1000; omega) (by simp)).mono fun e w' ⟨he, _, F⟩ => ⟨he, F.low K2.out fun k hk => (Q.lo k hk).1⟩
    | false =>
      have h : ¬ (1 ≤ r ∧ r ≤ 4) := fun h => by have := hb.2 h; cases this
      exact (padd_wrong bl (pz id 0) r w2 (by omega)).mono fun e w' ⟨he, k⟩ => ⟨he, K2.out.trans k⟩
  replace k2 := Lib.hid k2
  replace hb := Lib.hid hb
  replace hs := Lib.hid hs
  rcases hc with ⟨rfl, rfl⟩ | ⟨rfl, rfl⟩ | ⟨rfl, rfl⟩ | ⟨rfl, rfl⟩ | ⟨rfl, rfl⟩
  all_goals
    go_wp2_with fail
    refine cN.out.mono ?_
    rintro e w3 ⟨rfl, rfl⟩
    clear cN
    go_wp2_with fail
    refine (cR.out _).mono ?_
    rintro e w3 ⟨rfl, rfl⟩
    go_wp2_with fail
    refine cA.out.mono ?_
    rintro e w4 ⟨rfl, K4⟩
    clear cA
    replace K4 := Lib.hid K4
    go_wp2_with fail
    refine (cR.out _).mono ?_
    rintro e w5 ⟨rfl, rfl⟩
    clear cR
    go_wp2
    go_ret
    exact ⟨rfl, K4.out⟩
end Go.Proofs.YtpkpmoiekjhdnaaDoor
