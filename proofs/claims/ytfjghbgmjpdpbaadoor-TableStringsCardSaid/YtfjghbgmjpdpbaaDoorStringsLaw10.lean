/-
  The walk of TableStrings. Condition: errors.errorType holds its own.
-/
import Derived.Test.YtfjghbgmjpdpbaaDoorApartLaw10
import Derived.Test.YtfjghbgmjpdpbaaDoorTabS10
namespace Go.Proofs.YtfjghbgmjpdpbaaDoor.T10
open Go.RowKit Go.Sort Go.Lib Go.Extern

/-- The strings of a slice. -/
structure RdS (w : World) (A : Option Addr) (n : Nat) (S : Nat → ByteArray) : Prop where
  small : n ≤ 9223372036854775807
  adr : 0 < n → ∃ b off, A = some ⟨b, off, none⟩ ∧ ∀ j, j < n → w.cell? ⟨b, off + j, none⟩ = some (.string (S j))
theorem RdS.keep {w w' : World} {A : Option Addr} {n : Nat} {S : Nat → ByteArray} (h : RdS w A n S) (k : Keep w w') : RdS w' A n S :=
  ⟨h.small, fun hn => by
    obtain ⟨b, off, e, c⟩ := h.adr hn
    exact ⟨b, off, e, fun j hj => k.cell (c j hj)⟩⟩
theorem atS (b off n cp j : Nat) (hj : j < n) (W : World) : (Instr.indexAt 39 (.slice (some ⟨b, off, none⟩) n cp) (.int .i64 j)).run Tryd.prog W = .ok (.pointer (some ⟨b, off + j, none⟩)) W := by
  go_simp
/-- What is in the table. -/
def sl (S : Nat → ByteArray) (i : Nat) : List (Int × Value) := (List.range i).map fun j : Nat => (-(j : Int), .string (S j))
theorem sl_len (S : Nat → ByteArray) (i : Nat) : (sl S i).length = i := by simp [sl]
theorem sl_succ (S : Nat → ByteArray) (i : Nat) : sl S (i + 1) = sl S i ++ [(-(i : Int), .string (S i))] := by simp [sl, List.range_succ]
theorem sl_none (S : Nat → ByteArray) (i : Nat) (k : Int) (h : ∀ j : Nat, j < i → -(j : Int) ≠ k) : MV.lookV (sl S i) k = none := by
  rw [MV.look_none]
  intro hm
  unfold sl at hm
  rw [List.map_map] at hm
  obtain ⟨j, hj, e⟩ := List.mem_map.1 hm
  exact h j (List.mem_range.1 hj) e
theorem sl_some {w : World} {s : Int} {p m : Nat} {S : Nat → ByteArray} {i : Nat} (h : TMS w s p m (sl S i)) {j : Nat} (hj : j < i) : MV.lookV (sl S i) (-(j : Int)) = some (.string (S j)) := by
  rw [MV.look_mem h.mp.nodup]
  exact List.mem_map.2 ⟨j, List.mem_range.2 hj, rfl⟩
def moreW : ByteArray := ⟨#[109, 111, 114, 101]⟩

set_option maxRecDepth 100000 in
set_option maxHeartbeats 16000000 in
theorem strings_walk (A : Option Addr) (n c : Nat) (S : Nat → ByteArray) (w : World) (hR : RdS w A n S) (hv : ErrT w) : Calls Tryd.prog 4 #[.slice A n c] w fun e w' => e = .returned (.bool true) ∧ Keep w w' := by
  have hs := hR.small
  replace hv := Lib.hid hv
  replace hR := Lib.hid hR
  go_enter Tryd.func4, Tryd.ntmps4
  go_wp2_with fail
  refine (tsnew_fn n (by unfold I64; omega) _).mono ?_
  rintro e w1 ⟨p, rfl, m, T1, k1, lp, lm⟩
  rw [if_pos (by omega)] at T1
  replace T1 := Lib.hid T1
  replace k1 := Lib.hid k1
  replace lm := Lib.hid lm
  replace lp := Lib.hid lp
  have aw1 := Lib.hid (awake_true w1 (hv.out.keep k1.out))
  go_wp2_with fail
  refine aw1.out.mono ?_
  rintro e w2 ⟨rfl, k2⟩
  have K2 := Lib.hid (k1.out.trans k2)
  have T2 : Hid (TMS w2 n p m (sl S 0)) := T1.out.keep k2
  replace k2 := Lib.hid k2
  clear aw1
  by_cases hn : n ≤ 100
  rotate_left
  · have aw2 := Lib.hid (awake_true w2 (hv.out.keep K2.out))
    go_wp2_with fail
    refine aw2.out.mono ?_
    rintro e w4 ⟨rfl, k4⟩
    go_wp2
    go_ret
    exact ⟨rfl, K2.out.trans k4⟩
  go_wp2
  go_loopg [4] n (fun gx s4 wr => ∃ i : Nat, i ≤ n ∧ gx = n - i ∧ s4 = .int .i64 i ∧ Hid (Keep w wr) ∧ Hid (TMS wr n p m (sl S i)))
  case atStart => exact ⟨0, Nat.zero_le _, rfl, rfl, K2, T2⟩
  case round =>
    clear T1 T2 K2 k1 k2
    obtain ⟨i, hi, rfl, rfl, KR, TR⟩ := hrel
    by_cases hlt : i < n
    · obtain ⟨b, off, hA, ca⟩ := (hR.out.keep KR.out).adr (by omega)
      subst hA
      have q1 := fun W => atS b off n c i hlt W
      have xk := ca i hlt
      clear ca
      have cA := tsadd_new TR.out (-(i : Int)) (S i) (sl_none S i _ (fun j hj => by omega)) (by rw [sl_len]; omega)
      rw [← sl_succ] at cA
      obtain ⟨y, hy⟩ : ∃ y, y = S i := ⟨_, rfl⟩
      rw [← hy] at cA xk
      replace hy := Lib.hid hy
      have hw2 : IntKind.i64.wrap (-(i : Int)) = -(i : Int) := by rw [IntKind.wrap_i64]; omega
      replace cA := Lib.hid cA
      go_wp2_with fail
      refine cA.out.mono ?_
      rintro e w5 ⟨rfl, T5, F5⟩
      have K5 : Hid (Keep w w5) := F5.low KR.out (by rintro k rfl; exact lm.out)
      replace F5 := Lib.hid F5
      replace T5 := Lib.hid T5
      clear cA xk
      go_wp2
      go_roundg (n - (i + 1))
      case measure => omega
      case rel => exact ⟨i + 1, hlt, rfl, by go_num, K5, T5⟩
    · obtain rfl : i = n := by omega
      obtain ⟨wo, hwo⟩ : ∃ wo, wo = wr := ⟨_, rfl⟩
      rw [← hwo] at TR KR ⊢
      clear hwo
      go_wp2
      go_loopg [5] i (fun gx s5 wz => ∃ j : Nat, j ≤ i ∧ gx = i - j ∧ s5 = .int .i64 j ∧ wz = wo)
      case atStart => exact ⟨0, Nat.zero_le _, rfl, rfl, rfl⟩
      case round =>
        obtain ⟨j, hj, rfl, rfl, rfl⟩ := hrel
        by_cases hlt2 : j < i
        · obtain ⟨b, off, hA, ca⟩ := (hR.out.keep KR.out).adr (by omega)
          subst hA
          have q1 := fun W => atS b off i c j hlt2 W
          have xk := ca j hlt2
          clear ca
          have cG := tsget_some TR.out (-(j : Int)) (S j) (sl_some TR.out hlt2)
          obtain ⟨y, hy⟩ : ∃ y, y = S j := ⟨_, rfl⟩
          rw [← hy] at cG xk
          replace hy := Lib.hid hy
          have hw2 : IntKind.i64.wrap (-(j : Int)) = -(j : Int) := by rw [IntKind.wrap_i64]; omega
          replace cG := Lib.hid cG
          go_wp2_with fail
          refine cG.out.mono ?_
          rintro e w5 ⟨rfl, rfl⟩
          clear cG
          go_wp2
          go_roundg (i - (j + 1))
          case measure => omega
          case rel => exact ⟨j + 1, hlt2, rfl, by go_num, rfl⟩
        · obtain rfl : j = i := by omega
          have c1 := tsadd_full TR.out 1 moreW (sl_none S j 1 (fun t ht => by omega)) (by rw [sl_len])
          obtain ⟨ev, hev⟩ : ∃ ev, ev = errC 7 := ⟨_, rfl⟩
          have e7 : err 7 = ev := hev.symm
          rw [e7] at c1
          unfold moreW at c1
          clear e7
          have cC : Hid (∀ W', ErrT W' → Calls Tryd.prog 19 #[ev] W' fun e w' => e = .returned (.int .i64 7) ∧ Keep W' w') := fun W' h => by rw [hev]; exact code_fn 7 W' h
          replace hev := Lib.hid hev
          replace c1 := Lib.hid c1
          go_wp2_with fail
          refine c1.out.mono ?_
          rintro e w5 ⟨rfl, D5⟩
          have K5 : Hid (Keep w w5) := KR.out.trans D5.keep
          have T5 : Hid (TMS w5 j p m (sl S j)) := TR.out.keep D5.keep
          replace D5 := Lib.hid D5
          have c2 := Lib.hid (cC.out w5 (hv.out.keep K5.out))
          clear c1
          go_wp2_with fail
          refine c2.out.mono ?_
          rintro e w6 ⟨rfl, k6⟩
          have K6 : Hid (Keep w w6) := K5.out.trans k6
          have c3 := tslen_fn (T5.out.keep k6)
          rw [sl_len] at c3
          replace c3 := Lib.hid c3
          replace k6 := Lib.hid k6
          clear c2
          go_wp2_with fail
          refine c3.out.mono ?_
          rintro e w7 ⟨rfl, rfl⟩
          go_wp2
          go_ret
          exact ⟨rfl, K6.out⟩
end Go.Proofs.YtfjghbgmjpdpbaaDoor.T10
