/-
  The greatest priority and the sum of all, the program's and the reference's. Condition: priorities up to 2^30, at most 2^30 pods.
-/
import Derived.Test.YtflheiodaklceaaClone6
namespace Go.Proofs.Ytflheiodaklceaa
open Go.RowKit Go.Sort

def hiP (P : Nat → PodV) : Nat → Int
  | 0 => 0
  | n + 1 => if n = 0 ∨ hiP P n < (P n).p then (P n).p else hiP P n
def smP (P : Nat → PodV) : Nat → Int
  | 0 => 0
  | n + 1 => smP P n + (P n).p
def Small (P : Nat → PodV) (n : Nat) : Prop := ∀ j, j < n → -1073741824 ≤ (P j).p ∧ (P j).p ≤ 1073741824
theorem smP_range (P : Nat → PodV) : ∀ n, Small P n → -(1073741824 * (n : Int)) ≤ smP P n ∧ smP P n ≤ 1073741824 * (n : Int)
  | 0, _ => by simp [smP]
  | n + 1, h => by
    have h1 := smP_range P n (fun j hj => h j (by omega))
    have h2 := h n (by omega)
    unfold smP
    omega

set_option maxRecDepth 100000 in
set_option maxHeartbeats 4000000 in
theorem ksums_fn (A : Option Addr) (n c : Nat) (P : Nat → PodV) (w : World) (hR : RdPods w A n P) (hs : Small P n) (hn : n ≤ 1073741824) :
    Calls Try.prog 18 #[.slice A n c] w fun e w' => e = .returned (.tuple #[.int .i64 (hiP P n), .int .i64 (smP P n)]) ∧ Keep w w' := by
  replace hR := Lib.hid hR
  replace hs := Lib.hid hs
  go_enter Try.func18, Try.ntmps18
  go_wp2
  go_loopg [2, 3, 8] n (fun gx s2 s3 s8 wr => ∃ j : Nat, j ≤ n ∧ gx = n - j ∧ s8 = .int .i64 j ∧ s2 = .int .i64 (hiP P j) ∧ s3 = .int .i64 (smP P j) ∧ Hid (Keep w wr))
  case atStart => exact ⟨0, Nat.zero_le _, rfl, rfl, rfl, rfl, Keep.refl _⟩
  case round =>
    obtain ⟨j, hj, rfl, rfl, rfl, rfl, G⟩ := hrel
    have R2 := Lib.hid (hR.out.keep G.out)
    obtain ⟨u, hu⟩ : ∃ u, u = hiP P j := ⟨_, rfl⟩
    obtain ⟨v, hv⟩ : ∃ v, v = smP P j := ⟨_, rfl⟩
    rw [← hu, ← hv]
    have hr := smP_range P j (fun i hi => hs.out i (by omega))
    rw [← hv] at hr
    replace hu := Lib.hid hu
    replace hv := Lib.hid hv
    by_cases hlt : j < n
    · obtain ⟨b, off, hA, ca⟩ := R2.out.adr (by omega)
      subst hA
      have q1 := pods_at b off n c j hlt
      have X := ca j hlt
      have hp := hs.out j hlt
      have es : Hid (smP P (j + 1) = v + (P j).p) := by show _ = _; rw [hv.out]; rfl
      have eh : Hid (hiP P (j + 1) = if j = 0 ∨ u < (P j).p then (P j).p else u) := by show _ = _; rw [hu.out]; rfl
      clear ca
      generalize P j = x at *
      have x0 := X.e0; have x1 := X.e1; have x2 := X.e2; have x3 := X.e3; have x4 := X.e4; have x5 := X.e5; have x6 := X.e6; have x7 := X.e7; have x8 := X.e8
      clear X
      have G2 := fun o => Lib.hid (G.out.alloc o)
      have hw : IntKind.i64.wrap (v + x.p) = v + x.p := by rw [IntKind.wrap_i64]; omega
      by_cases h0 : j = 0
      · have e2 : Hid (hiP P (j + 1) = x.p) := eh.out.trans (if_pos (Or.inl h0))
        have hz : ((j : Int) == 0) = true := by simp [h0]
        replace h0 := Lib.hid h0
        go_wp2
        go_roundg (n - (j + 1))
        case measure => omega
        case rel => exact ⟨j + 1, hlt, rfl, by go_num, by rw [e2.out], by rw [es.out], G2 _⟩
      · have hz : ((j : Int) == 0) = false := by simp [h0]
        by_cases h1 : u < x.p
        · have e2 : Hid (hiP P (j + 1) = x.p) := eh.out.trans (if_pos (Or.inr h1))
          replace h0 := Lib.hid h0
          go_wp2
          go_roundg (n - (j + 1))
          case measure => omega
          case rel => exact ⟨j + 1, hlt, rfl, by go_num, by rw [e2.out], by rw [es.out], G2 _⟩
        · have e2 : Hid (hiP P (j + 1) = u) := eh.out.trans (if_neg (by omega))
          replace h0 := Lib.hid h0
          go_wp2
          go_roundg (n - (j + 1))
          case measure => omega
          case rel => exact ⟨j + 1, hlt, rfl, by go_num, by rw [e2.out], by rw [es.out], G2 _⟩
    · obtain rfl : j = n := by omega
      go_wp2
      go_ret2
      exact ⟨by rw [← hu.out, ← hv.out]; rfl, G.out⟩

set_option maxRecDepth 100000 in
set_option maxHeartbeats 4000000 in
theorem rsums_fn (A : Option Addr) (n c : Nat) (P : Nat → PodV) (w : World) (hR : RdPods w A n P) (hs : Small P n) (hn : n ≤ 1073741824) :
    Calls Try.prog 19 #[.slice A n c] w fun e w' => e = .returned (.tuple #[.int .i64 (hiP P n), .int .i64 (smP P n)]) ∧ w = w' := by
  replace hR := Lib.hid hR
  replace hs := Lib.hid hs
  go_enter Try.func19, Try.ntmps19
  go_wp2
  go_loopg [4, 5, 6] n (fun gx s2 s3 s8 wr => ∃ j : Nat, j ≤ n ∧ gx = n - j ∧ s8 = .int .i64 j ∧ s2 = .int .i64 (hiP P j) ∧ s3 = .int .i64 (smP P j) ∧ Hid (w = wr))
  case atStart => exact ⟨0, Nat.zero_le _, rfl, rfl, rfl, rfl, rfl⟩
  case round =>
    obtain ⟨j, hj, rfl, rfl, rfl, rfl, G⟩ := hrel
    have G := G.out
    subst G
    obtain ⟨u, hu⟩ : ∃ u, u = hiP P j := ⟨_, rfl⟩
    obtain ⟨v, hv⟩ : ∃ v, v = smP P j := ⟨_, rfl⟩
    rw [← hu, ← hv]
    have hr := smP_range P j (fun i hi => hs.out i (by omega))
    rw [← hv] at hr
    replace hu := Lib.hid hu
    replace hv := Lib.hid hv
    by_cases hlt : j < n
    · obtain ⟨b, off, hA, ca⟩ := hR.out.adr (by omega)
      subst hA
      have q1 := pods_at b off n c j hlt
      have X := ca j hlt
      have hp := hs.out j hlt
      have es : Hid (smP P (j + 1) = v + (P j).p) := by show _ = _; rw [hv.out]; rfl
      have eh : Hid (hiP P (j + 1) = if j = 0 ∨ u < (P j).p then (P j).p else u) := by show _ = _; rw [hu.out]; rfl
      clear ca
      generalize P j = x at *
      have x1 := X.e1
      clear X
      have hw : IntKind.i64.wrap (v + x.p) = v + x.p := by rw [IntKind.wrap_i64]; omega
      by_cases h0 : j = 0
      · have e2 : Hid (hiP P (j + 1) = x.p) := eh.out.trans (if_pos (Or.inl h0))
        have hz : ((j : Int) == 0) = true := by simp [h0]
        replace h0 := Lib.hid h0
        go_wp2
        go_roundg (n - (j + 1))
        case measure => omega
        case rel => exact ⟨j + 1, hlt, rfl, by go_num, by rw [e2.out], by rw [es.out], rfl⟩
      · have hz : ((j : Int) == 0) = false := by simp [h0]
        by_cases h1 : u < x.p
        · have e2 : Hid (hiP P (j + 1) = x.p) := eh.out.trans (if_pos (Or.inr h1))
          replace h0 := Lib.hid h0
          go_wp2
          go_roundg (n - (j + 1))
          case measure => omega
          case rel => exact ⟨j + 1, hlt, rfl, by go_num, by rw [e2.out], by rw [es.out], rfl⟩
        · have e2 : Hid (hiP P (j + 1) = u) := eh.out.trans (if_neg (by omega))
          replace h0 := Lib.hid h0
          go_wp2
          go_roundg (n - (j + 1))
          case measure => omega
          case rel => exact ⟨j + 1, hlt, rfl, by go_num, by rw [e2.out], by rw [es.out], rfl⟩
    · obtain rfl : j = n := by omega
      go_wp2
      go_ret2
      exact ⟨by rw [← hu.out, ← hv.out]; rfl, rfl⟩
end Go.Proofs.Ytflheiodaklceaa
