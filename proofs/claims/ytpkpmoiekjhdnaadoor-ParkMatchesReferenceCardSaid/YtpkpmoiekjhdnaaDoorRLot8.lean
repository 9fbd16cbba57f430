/-
  The reference's lot: All, Count, Remove. Conditions: at most 1000 pods; for All, priorities up to 2^30.
-/
import Derived.Test.YtpkpmoiekjhdnaaDoorRow8
import Derived.Test.YtpkpmoiekjhdnaaDoorLMath8
import Derived.Test.YtpkpmoiekjhdnaaDoorLot8
import Derived.Deep.RegionHeld3
namespace Go.Proofs.YtpkpmoiekjhdnaaDoor
open Go.RowKit Go.Sort Go.Lib Go.Shelf

/-- Pods with reasons, side by side. -/
def prZ (S : Nat → PodV) (Z : Nat → Int) (n : Nat) : List (PodV × Int) := (List.range n).map fun j => (S j, Z j)
theorem prZ_succ (S : Nat → PodV) (Z : Nat → Int) (n : Nat) : prZ S Z (n + 1) = prZ S Z n ++ [(S n, Z n)] := by simp [prZ, List.range_succ]
theorem prZ_len (S : Nat → PodV) (Z : Nat → Int) (n : Nat) : (prZ S Z n).length = n := by simp [prZ]
theorem prZ_put (S : Nat → PodV) (Z : Nat → Int) (n : Nat) (x : PodV) (r : Int) : prZ (put S n x) (putZ Z n r) (n + 1) = prZ S Z n ++ [(x, r)] := by
  rw [prZ_succ, put_at, putZ_at]
  congr 1
  exact List.map_congr_left fun j hj => by rw [put_ne _ _ _ (by have := List.mem_range.1 hj; omega), putZ_ne _ _ _ (by have := List.mem_range.1 hj; omega)]
theorem prZ_pods (S : Nat → PodV) (Z : Nat → Int) (n : Nat) : podsE (prZ S Z n) = lst S n := by unfold podsE prZ lst; rw [List.map_map]; rfl
theorem prZ_mem {S : Nat → PodV} {Z : Nat → Int} {n : Nat} {y : PodV × Int} : y ∈ prZ S Z n ↔ ∃ j, j < n ∧ (S j, Z j) = y := by simp [prZ]
def cntZ (r : Int) (Z : Nat → Int) : Nat → Nat
  | 0 => 0
  | n + 1 => cntZ r Z n + (if Z n = r then 1 else 0)
theorem cntZ_eq (r : Int) (S : Nat → PodV) (Z : Nat → Int) : ∀ n, cntZ r Z n = cntE r (prZ S Z n)
  | 0 => rfl
  | n + 1 => by
    rw [cntZ, cntZ_eq r S Z n, prZ_succ]
    unfold cntE
    rw [List.filter_append, List.length_append]
    by_cases h : Z n = r
    · rw [if_pos h, List.filter_cons_of_pos (by simp [h])]; rfl
    · rw [if_neg h, List.filter_cons_of_neg (by simp [h])]; rfl
theorem cntZ_le (r : Int) (Z : Nat → Int) : ∀ n, cntZ r Z n ≤ n
  | 0 => Nat.le_refl _
  | n + 1 => by
    have := cntZ_le r Z n
    rw [cntZ]
    split <;> omega

set_option maxRecDepth 100000 in
set_option maxHeartbeats 4000000 in
theorem rall8_fn (A : Option Addr) (n c : Nat) (P : Nat → PodV) (v : Value) (w : World) (hR : RdPods w A n P) (hn : n ≤ 1048576) (hp : ∀ j, j < n → -1073741824 ≤ (P j).p ∧ (P j).p ≤ 1073741824) :
    Calls Tryd.prog 14 #[.agg #[.slice A n c, v]] w fun e w' => ∃ B d T, e = .returned (.slice B n d) ∧ Keep w w' ∧ RdPods w' B n T ∧ ((lst T n).map nm).Perm ((lst P n).map nm) ∧ ((lst T n).map nm).Pairwise leP := by
  have cS := Lib.hid (rsort7_fn A n c P (w.alloc (.cells #[.slice A n c, v] 30)) (hR.keep (Keep.one _ _)) hn hp)
  clear hR hp
  go_enter Tryd.func14, Tryd.ntmps14
  go_wp2_with fail
  refine cS.out.mono ?_
  rintro e w1 ⟨u, rfl, k1, B, d, T, rfl, R1, P1, S1, L1, N1, C1⟩
  have RL := Lib.hid (rs_list P1 S1)
  have K1 : Hid (Keep w w1) := (Keep.one _ _).trans k1
  replace k1 := Lib.hid k1
  replace R1 := Lib.hid R1
  replace P1 := Lib.hid P1
  replace S1 := Lib.hid S1
  replace L1 := Lib.hid L1
  replace N1 := Lib.hid N1
  go_wp2
  go_ret
  exact ⟨B, d, _, rfl, K1.out, R1.out, RL.out.1.map nm, RL.out.2⟩

set_option maxRecDepth 100000 in
set_option maxHeartbeats 4000000 in
theorem rcount8_fn (A : Option Addr) (n c : Nat) (Z : Nat → Int) (v : Value) (r : Int) (w : World) (hR : Rd w A n Z) (hn : n ≤ 1048576) :
    Calls Tryd.prog 18 #[.agg #[v, .slice A n c], .int .i64 r] w fun e w' => e = .returned (.int .i64 (cntZ r Z n : Nat)) ∧ Keep w w' := by
  have R1 := Lib.hid (hR.keep (Keep.one w (.cells #[v, .slice A n c] 30)))
  have kd := heap_alloc_new w (.cells #[v, .slice A n c] 30)
  obtain ⟨N, hN⟩ : ∃ N, N = cntZ r Z n := ⟨_, rfl⟩
  rw [← hN]
  replace hN := Lib.hid hN
  obtain ⟨W, hW⟩ : ∃ W, W = w.alloc (.cells #[v, .slice A n c] 30) := ⟨_, rfl⟩
  have KW : Hid (Keep w W) := by rw [hW]; exact Keep.one _ _
  rw [← hW] at R1 kd
  have c1 : W.cell? ⟨w.heap.size, 1, none⟩ = some (.slice A n c) := by rw [cell_of_row W _ _ _ _ _ kd]; rfl
  replace kd := Lib.hid kd
  clear hR
  have c1' := c1
  rw [hW] at c1'
  go_enter Tryd.func18, Tryd.ntmps18
  go_wp2
  go_loopg [5, 6] n (fun gx s5 s6 wr => ∃ (j k : Nat), j ≤ n ∧ gx = n - j ∧ s5 = .int .i64 k ∧ s6 = .int .i64 j ∧ k ≤ j ∧ Hid (k = cntZ r Z j) ∧ wr = w.alloc (.cells #[v, .slice A n c] 30))
  case atStart => exact ⟨0, 0, Nat.zero_le _, rfl, rfl, rfl, Nat.le_refl _, rfl, rfl⟩
  case round =>
    obtain ⟨j, k, hj, rfl, rfl, rfl, hk, hc, rfl⟩ := hrel
    by_cases hlt : j < n
    · obtain ⟨b, off, hA, ca⟩ := R1.out.adr (by omega)
      subst hA
      rw [hW] at ca
      have q1 := ints_at b off n c j hlt
      have x0 := ca j hlt
      clear ca
      have hs : cntZ r Z (j + 1) = cntZ r Z j + (if Z j = r then 1 else 0) := rfl
      obtain ⟨z, hz⟩ : ∃ z, z = Z j := ⟨_, rfl⟩
      rw [← hz] at x0 hs
      replace hz := Lib.hid hz
      by_cases hq : z = r
      · rw [if_pos hq] at hs
        have hc2 : Hid (k + 1 = cntZ r Z (j + 1)) := by show _ = _; rw [hs, ← hc.out]
        replace hs := Lib.hid hs
        subst hq
        go_wp2
        go_roundg (n - (j + 1))
        case measure => omega
        case rel => exact ⟨j + 1, k + 1, hlt, rfl, by go_num, by go_num, by omega, hc2, rfl⟩
      · rw [if_neg hq] at hs
        have hc2 : Hid (k = cntZ r Z (j + 1)) := by show _ = _; rw [hs, ← hc.out]; rfl
        replace hs := Lib.hid hs
        go_wp2
        go_roundg (n - (j + 1))
        case measure => omega
        case rel => exact ⟨j + 1, k, hlt, rfl, rfl, by go_num, by omega, hc2, rfl⟩
    · obtain rfl : j = n := by omega
      have e : k = N := by rw [hN.out, ← hc.out]
      subst e
      go_wp2
      go_ret
      rw [← hW]
      exact ⟨rfl, KW.out⟩
end Go.Proofs.YtpkpmoiekjhdnaaDoor
