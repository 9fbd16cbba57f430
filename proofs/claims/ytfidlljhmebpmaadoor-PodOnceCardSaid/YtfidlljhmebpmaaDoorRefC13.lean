/-
  The reference's Few, SamePod, Same, Find over pods. No condition.
-/
import Derived.Test.YtfidlljhmebpmaaDoorPod13
import Derived.Deep.QuietTactic
import Derived.BigQuiet
namespace Go.Proofs.YtfidlljhmebpmaaDoor.T13
open Go.RowKit Go.Sort Go.Lib Go.Shelf V12

def FewP (P : Nat → PodV) (n : Nat) : Prop := n ≤ 100 ∧ ∀ j, j < n → -1073741824 ≤ (P j).p ∧ (P j).p ≤ 1073741824 ∧ (P j).m ≤ 20
set_option maxRecDepth 100000 in
set_option maxHeartbeats 4000000 in
theorem rfew_fn (A : Option Addr) (n c : Nat) (P : Nat → PodV) (w : World) (hR : RdPods w A n P) (b : Bool) (hb : b = true ↔ FewP P n) :
    Calls Tryd.prog 25 #[.slice A n c] w fun e w' => e = .returned (.bool b) ∧ w = w' := by
  have hn := hR.small
  replace hR := Lib.hid hR
  replace hb := Lib.hid hb
  go_enter Tryd.func25, Tryd.ntmps25
  go_wp2
  go_loopg [3] n (fun gx s3 wr => ∃ j : Nat, j ≤ n ∧ gx = n - j ∧ s3 = .int .i64 j ∧ Hid (w = wr) ∧ Hid (∀ t, t < j → -1073741824 ≤ (P t).p ∧ (P t).p ≤ 1073741824 ∧ (P t).m ≤ 20))
  case atStart => exact ⟨0, Nat.zero_le _, rfl, rfl, rfl, fun t ht => absurd ht (Nat.not_lt_zero _)⟩
  case round =>
    obtain ⟨j, hj, rfl, rfl, G, I⟩ := hrel
    have G := G.out
    subst G
    by_cases hlt : j < n
    · obtain ⟨bb, off, hA, ca⟩ := hR.out.adr (by omega)
      subst hA
      have q1 := pods_at bb off n c j hlt
      have X := ca j hlt
      clear ca
      obtain ⟨x, hx⟩ : ∃ x, x = P j := ⟨_, rfl⟩
      rw [← hx] at X
      have no : Hid (¬ (-1073741824 ≤ x.p ∧ x.p ≤ 1073741824 ∧ x.m ≤ 20) → b = false) := fun h => by
        cases hc : b with
        | false => rfl
        | true => exact absurd ((hb.out.1 hc).2 j hlt) (by rw [← hx]; exact h)
      have x1 := X.e1
      have x4 := X.e4
      clear X
      have yes : Hid ((-1073741824 ≤ x.p ∧ x.p ≤ 1073741824 ∧ x.m ≤ 20) → ∀ t, t < j + 1 → -1073741824 ≤ (P t).p ∧ (P t).p ≤ 1073741824 ∧ (P t).m ≤ 20) := fun h t ht => by
        by_cases e : t = j
        · rw [e, ← hx]; exact h
        · exact I.out t (by omega)
      replace hx := Lib.hid hx
      by_cases h1 : x.p < -1073741824
      · have e := Lib.hid (no.out (by omega))
        go_wp2
        go_ret
        exact ⟨by rw [e.out]; rfl, rfl⟩
      · by_cases h2 : 1073741824 < x.p
        · have e := Lib.hid (no.out (by omega))
          go_wp2
          go_ret
          exact ⟨by rw [e.out]; rfl, rfl⟩
        · by_cases h3 : 20 < x.m
          · have e := Lib.hid (no.out (by omega))
            have h3z : (20 : Int) < (x.m : Int) := by omega
            go_wp2
            go_ret
            exact ⟨by rw [e.out]; rfl, rfl⟩
          · have e := Lib.hid (yes.out ⟨by omega, by omega, by omega⟩)
            have h3z : ¬ (20 : Int) < (x.m : Int) := by omega
            go_wp2
            go_roundg (n - (j + 1))
            case measure => omega
            case rel => exact ⟨j + 1, hlt, rfl, by go_num, rfl, e⟩
    · obtain rfl : j = n := by omega
      by_cases h1 : j ≤ 100
      · have e : Hid (b = true) := hb.out.2 ⟨h1, I.out⟩
        have hz : (j : Int) ≤ 100 := by omega
        go_wp2
        go_ret
        exact ⟨by rw [e.out]; rfl, rfl⟩
      · have e : Hid (b = false) := by
          cases hc : b with
          | false => exact rfl
          | true => exact absurd (hb.out.1 hc).1 h1
        have hz : ¬ (j : Int) ≤ 100 := by omega
        go_wp2
        go_ret
        exact ⟨by rw [e.out]; rfl, rfl⟩
set_option maxRecDepth 100000 in
set_option maxHeartbeats 8000000 in
theorem rsamepod_fn (x y : PodV) (w : World) (h : SameV x y) (hx : PodIs w x) (hy : PodIs w y) : Calls Tryd.prog 17 #[x.val, y.val] w fun e w' => e = .returned (.bool true) ∧ Gr w w' := by
  obtain ⟨A', c', rfl⟩ := h
  have hs := fun W (K : Keep w W) => rsame_is A' y.A y.m y.m c' y.c y.Z y.Z W (hx.rd.keep K) (hy.rd.keep K) true (decide_eq_true ⟨rfl, fun _ _ => rfl⟩)
  replace hs := Lib.hid hs
  clear hx hy
  unfold PodV.at PodV.val
  go_enter Tryd.func17, Tryd.ntmps17
  go_wp2_with fail
  refine (hs.out _ (((Keep.refl w).alloc _).alloc _)).mono ?_
  rintro e w1 ⟨rfl, q, rfl⟩
  go_wp2
  go_ret
  exact ⟨rfl, (((Gr.refl w).alloc _).alloc _).drewN q⟩
set_option maxRecDepth 100000 in
set_option maxHeartbeats 8000000 in
theorem rsame6_fn (A B : Option Addr) (n c d : Nat) (P Q : Nat → PodV) (w : World) (hP : RdPods w A n P) (hQ : RdPods w B n Q) (hs : ∀ j, j < n → SameV (P j) (Q j)) :
    Calls Tryd.prog 12 #[.slice A n c, .slice B n d] w fun e w' => e = .returned (.bool true) ∧ Keep w w' := by
  have mixed : Tryd.prog.follows .mixedOrders = true := by kernel_rfl
  have hn := hP.small
  replace hP := Lib.hid hP
  replace hQ := Lib.hid hQ
  replace hs := Lib.hid hs
  go_enter Tryd.func12, Tryd.ntmps12
  go_wp2
  go_loopg [5] n (fun gx s5 wr => ∃ j : Nat, j ≤ n ∧ gx = n - j ∧ s5 = .int .i64 j ∧ Hid (Gr w wr))
  case atStart => exact ⟨0, Nat.zero_le _, rfl, rfl, Gr.refl _⟩
  case round =>
    obtain ⟨j, hj, rfl, rfl, G⟩ := hrel
    by_cases hlt : j < n
    · have R1 := hP.out.keep G.out.keep
      have R2 := hQ.out.keep G.out.keep
      obtain ⟨b, off, hA, ca⟩ := R1.adr (by omega)
      subst hA
      obtain ⟨b', off', hB, cb⟩ := R2.adr (by omega)
      subst hB
      have q1 := pods_at b off n c j hlt
      have q2 := pods_at b' off' n d j hlt
      have X := ca j hlt
      have Y := cb j hlt
      have hk : ∀ (n : Nat) (os : Array Obj), Calls Tryd.prog 17 #[(P j).val, (Q j).val] (grow (wr.drewN n) os) fun e w' => e = .returned (.bool true) ∧ ∃ q os', w' = grow ((grow (wr.drewN n) os).drewN q) os' :=
        fun n os => rsamepod_fn (P j) (Q j) _ (hs.out j hlt) ((R1.is j hlt).keep (Gr.keep ⟨n, os, rfl⟩)) ((R2.is j hlt).keep (Gr.keep ⟨n, os, rfl⟩))
      clear ca cb
      replace R1 := Lib.hid R1
      replace R2 := Lib.hid R2
      obtain ⟨x, hx⟩ : ∃ x, x = P j := ⟨_, rfl⟩
      obtain ⟨y, hy⟩ : ∃ y, y = Q j := ⟨_, rfl⟩
      rw [← hx] at X hk
      rw [← hy] at Y hk
      unfold PodV.val at hk
      replace hx := Lib.hid hx
      replace hy := Lib.hid hy
      have x0 := grows X.e0; have x1 := grows X.e1; have x2 := grows X.e2; have x3 := grows X.e3; have x4 := grows X.e4; have x5 := grows X.e5; have x6 := grows X.e6; have x7 := grows X.e7; have x8 := grows X.e8
      have y0 := grows Y.e0; have y1 := grows Y.e1; have y2 := grows Y.e2; have y3 := grows Y.e3; have y4 := grows Y.e4; have y5 := grows Y.e5; have y6 := grows Y.e6; have y7 := grows Y.e7; have y8 := grows Y.e8
      clear X Y
      go_wp2_with fail
      go_quiet_grown (first | (go_at_call 17; refine Calls.grown_of (hk _ _)))
      clear x0 x1 x2 x3 x4 x5 x6 x7 x8 y0 y1 y2 y3 y4 y5 y6 y7 y8 hk
      have G2 : Hid (Gr w (grow (wr.drewN nq) osq)) := G.out.trans ⟨nq, osq, rfl⟩
      generalize grow (wr.drewN nq) osq = w2 at G2 ⊢
      go_wp2
      go_roundg (n - (j + 1))
      case measure => omega
      case rel => exact ⟨j + 1, hlt, rfl, by go_num, G2⟩
    · obtain rfl : j = n := by omega
      go_wp2
      go_ret
      exact ⟨rfl, G.out.keep⟩
def findN (P : Nat → PodV) (id : Int) : Nat → Int
  | 0 => -1
  | n + 1 => if 0 ≤ findN P id n then findN P id n else if (P n).k = id then (n : Int) else -1
theorem find_no {P : Nat → PodV} {id : Int} : ∀ {n}, (∀ t, t < n → (P t).k ≠ id) → findN P id n = -1
  | 0, _ => rfl
  | n + 1, h => by rw [findN, find_no (fun t ht => h t (by omega)), if_neg (by omega), if_neg (h n (by omega))]
theorem find_at {P : Nat → PodV} {id : Int} {j : Nat} (hj : (P j).k = id) (h : ∀ t, t < j → (P t).k ≠ id) : ∀ {n}, j < n → findN P id n = (j : Int)
  | n + 1, hn => by
    by_cases e : j = n
    · subst e
      rw [findN, find_no h, if_neg (by omega), if_pos hj]
    · rw [findN, find_at hj h (n := n) (by omega), if_pos (by omega)]
theorem find_iff {P : Nat → PodV} {id : Int} : ∀ {n}, 0 ≤ findN P id n ↔ ∃ j, j < n ∧ (P j).k = id
  | 0 => by
    constructor
    · intro h; exact absurd h (show ¬ (0 : Int) ≤ -1 by decide)
    · rintro ⟨j, h, _⟩; omega
  | n + 1 => by
    have ih := find_iff (P := P) (id := id) (n := n)
    rw [findN]
    by_cases e : 0 ≤ findN P id n
    · rw [if_pos e]
      obtain ⟨j, h1, h2⟩ := ih.1 e
      exact ⟨fun _ => ⟨j, by omega, h2⟩, fun _ => e⟩
    · rw [if_neg e]
      by_cases e2 : (P n).k = id
      · rw [if_pos e2]
        exact ⟨fun _ => ⟨n, by omega, e2⟩, fun _ => by omega⟩
      · rw [if_neg e2]
        constructor
        · intro h; exact absurd h (by decide)
        · rintro ⟨j, h1, h2⟩
          by_cases e3 : j = n
          · rw [e3] at h2; exact absurd h2 e2
          · exact absurd (ih.2 ⟨j, by omega, h2⟩) e
theorem find_lt {P : Nat → PodV} {id : Int} : ∀ {n}, 0 ≤ findN P id n → ∃ j, j < n ∧ findN P id n = (j : Int) ∧ (P j).k = id
  | 0, h => absurd h (show ¬ (0 : Int) ≤ -1 by decide)
  | n + 1, h => by
    rw [findN] at h ⊢
    by_cases e : 0 ≤ findN P id n
    · rw [if_pos e]
      obtain ⟨j, h1, h2, h3⟩ := find_lt e
      exact ⟨j, by omega, h2, h3⟩
    · rw [if_neg e] at h ⊢
      by_cases e2 : (P n).k = id
      · rw [if_pos e2]
        exact ⟨n, by omega, rfl, e2⟩
      · rw [if_neg e2] at h; exact absurd h (by decide)
theorem find_neg {P : Nat → PodV} {id : Int} {n : Nat} (h : ¬ 0 ≤ findN P id n) : findN P id n = -1 := find_no fun t ht e => h (find_iff.2 ⟨t, ht, e⟩)
set_option maxRecDepth 100000 in
set_option maxHeartbeats 4000000 in
theorem rfind_fn (A : Option Addr) (n c : Nat) (P : Nat → PodV) (id : Int) (w : World) (hR : RdPods w A n P) : Calls Tryd.prog 16 #[.slice A n c, .int .i64 id] w fun e w' => e = .returned (.int .i64 (findN P id n)) ∧ w = w' := by
  have hn := hR.small
  replace hR := Lib.hid hR
  obtain ⟨r, hr⟩ : ∃ r, r = findN P id n := ⟨_, rfl⟩
  rw [← hr]
  replace hr := Lib.hid hr
  go_enter Tryd.func16, Tryd.ntmps16
  go_wp2
  go_loopg [5] n (fun gx s5 wr => ∃ j : Nat, j ≤ n ∧ gx = n - j ∧ s5 = .int .i64 j ∧ wr = w ∧ Hid (∀ t, t < j → (P t).k ≠ id))
  case atStart => exact ⟨0, Nat.zero_le _, rfl, rfl, rfl, fun t h => absurd h (Nat.not_lt_zero _)⟩
  case round =>
    obtain ⟨j, hj, rfl, rfl, rfl, NO⟩ := hrel
    by_cases hlt : j < n
    · obtain ⟨b, off, hA, ca⟩ := hR.out.adr (by omega)
      subst hA
      have q1 := pods_at b off n c j hlt
      have x0 := (ca j hlt).e0
      clear ca
      by_cases hk : (P j).k = id
      · have e : r = (j : Int) := by rw [hr.out]; exact find_at hk NO.out hlt
        obtain ⟨k, hkk⟩ : ∃ k, k = (P j).k := ⟨_, rfl⟩
        rw [← hkk] at x0 hk
        replace hkk := Lib.hid hkk
        subst hk
        subst e
        go_wp2
        go_ret
        exact ⟨rfl, rfl⟩
      · have NO2 : Hid (∀ t, t < j + 1 → (P t).k ≠ id) := fun t ht => by
          by_cases e : t = j
          · rw [e]; exact hk
          · exact NO.out t (by omega)
        obtain ⟨k, hkk⟩ : ∃ k, k = (P j).k := ⟨_, rfl⟩
        rw [← hkk] at x0 hk
        replace hkk := Lib.hid hkk
        go_wp2
        go_roundg (n - (j + 1))
        case measure => omega
        case rel => exact ⟨j + 1, hlt, rfl, by go_num, rfl, NO2⟩
    · obtain rfl : j = n := by omega
      have e : r = -1 := by rw [hr.out]; exact find_no NO.out
      subst e
      go_wp2
      go_ret
      exact ⟨rfl, rfl⟩
end Go.Proofs.YtfidlljhmebpmaaDoor.T13
