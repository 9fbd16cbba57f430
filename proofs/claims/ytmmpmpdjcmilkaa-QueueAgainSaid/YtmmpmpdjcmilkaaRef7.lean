/-
  The reference's Find, Without and Push. Conditions: at most 1000 pods; for Push, priorities up to 2^30.
-/
import Derived.Test.YtmmpmpdjcmilkaaLay7
namespace Go.Proofs.Ytmmpmpdjcmilkaa
open Go.RowKit Go.Sort Go.Lib Go.Shelf

def findN (P : Nat → PodV) (id : Int) : Nat → Int
  | 0 => -1
  | n + 1 => if 0 ≤ findN P id n then findN P id n else if (P n).k = id then (n : Int) else -1
theorem find_no {P : Nat → PodV} {id : Int} : ∀ {n}, (∀ t, t < n → (P t).k ≠ id) → findN P id n = -1
  | 0, _ => rfl
  | n + 1, h => by rw [findN, find_no (fun t ht => h t (by omega)), if_neg (by omega), if_neg (h n (by omega))]
theorem find_at {P : Nat → PodV} {id : Int} {j : Nat} (hj : (P j).k = id) (h : ∀ t, t < j → (P t).k ≠ id) : ∀ {n}, j < n → findN P id n = (j : Int)
  | n + 1, hn => by
    by_cases e : j = n
    · subst e
      rw [findN, find_no h, if_neg (by omega), if_pos hj]
    · rw [findN, find_at hj h (n := n) (by omega), if_pos (by omega)]
theorem find_iff {P : Nat → PodV} {id : Int} : ∀ {n}, 0 ≤ findN P id n ↔ ∃ j, j < n ∧ (P j).k = id
  | 0 => by
    constructor
    · intro h; exact absurd h (show ¬ (0 : Int) ≤ -1 by decide)
    · rintro ⟨j, h, _⟩; omega
  | n + 1 => by
    have ih := find_iff (P := P) (id := id) (n := n)
    rw [findN]
    by_cases e : 0 ≤ findN P id n
    · rw [if_pos e]
      obtain ⟨j, h1, h2⟩ := ih.1 e
      exact ⟨fun _ => ⟨j, by omega, h2⟩, fun _ => e⟩
    · rw [if_neg e]
      by_cases e2 : (P n).k = id
      · rw [if_pos e2]
        exact ⟨fun _ => ⟨n, by omega, e2⟩, fun _ => by omega⟩
      · rw [if_neg e2]
        constructor
        · intro h; exact absurd h (by decide)
        · rintro ⟨j, h1, h2⟩
          by_cases e3 : j = n
          · rw [e3] at h2; exact absurd h2 e2
          · exact absurd (ih.2 ⟨j, by omega, h2⟩) e
theorem find_lt {P : Nat → PodV} {id : Int} : ∀ {n}, 0 ≤ findN P id n → ∃ j, j < n ∧ findN P id n = (j : Int) ∧ (P j).k = id
  | 0, h => absurd h (show ¬ (0 : Int) ≤ -1 by decide)
  | n + 1, h => by
    rw [findN] at h ⊢
    by_cases e : 0 ≤ findN P id n
    · rw [if_pos e]
      obtain ⟨j, h1, h2, h3⟩ := find_lt e
      exact ⟨j, by omega, h2, h3⟩
    · rw [if_neg e] at h ⊢
      by_cases e2 : (P n).k = id
      · rw [if_pos e2]
        exact ⟨n, by omega, rfl, e2⟩
      · rw [if_neg e2] at h; exact absurd h (by decide)
theorem find_neg {P : Nat → PodV} {id : Int} {n : Nat} (h : ¬ 0 ≤ findN P id n) : findN P id n = -1 := find_no fun t ht e => h (find_iff.2 ⟨t, ht, e⟩)

set_option maxRecDepth 100000 in
set_option maxHeartbeats 4000000 in
theorem rfind_fn (A : Option Addr) (n c : Nat) (P : Nat → PodV) (id : Int) (w : World) (hR : RdPods w A n P) : Calls Try.prog 16 #[.slice A n c, .int .i64 id] w fun e w' => e = .returned (.int .i64 (findN P id n)) ∧ w = w' := by
  have hn := hR.small
  replace hR := Lib.hid hR
  obtain ⟨r, hr⟩ : ∃ r, r = findN P id n := ⟨_, rfl⟩
  rw [← hr]
  replace hr := Lib.hid hr
  go_enter Try.func16, Try.ntmps16
  go_wp2
  go_loopg [5] n (fun gx s5 wr => ∃ j : Nat, j ≤ n ∧ gx = n - j ∧ s5 = .int .i64 j ∧ wr = w ∧ Hid (∀ t, t < j → (P t).k ≠ id))
  case atStart => exact ⟨0, Nat.zero_le _, rfl, rfl, rfl, fun t h => absurd h (Nat.not_lt_zero _)⟩
  case round =>
    obtain ⟨j, hj, rfl, rfl, rfl, NO⟩ := hrel
    by_cases hlt : j < n
    · obtain ⟨b, off, hA, ca⟩ := hR.out.adr (by omega)
      subst hA
      have q1 := pods_at b off n c j hlt
      have x0 := (ca j hlt).e0
      clear ca
      by_cases hk : (P j).k = id
      · have e : r = (j : Int) := by rw [hr.out]; exact find_at hk NO.out hlt
        obtain ⟨k, hkk⟩ : ∃ k, k = (P j).k := ⟨_, rfl⟩
        rw [← hkk] at x0 hk
        replace hkk := Lib.hid hkk
        subst hk
        subst e
        go_wp2
        go_ret
        exact ⟨rfl, rfl⟩
      · have NO2 : Hid (∀ t, t < j + 1 → (P t).k ≠ id) := fun t ht => by
          by_cases e : t = j
          · rw [e]; exact hk
          · exact NO.out t (by omega)
        obtain ⟨k, hkk⟩ : ∃ k, k = (P j).k := ⟨_, rfl⟩
        rw [← hkk] at x0 hk
        replace hkk := Lib.hid hkk
        go_wp2
        go_roundg (n - (j + 1))
        case measure => omega
        case rel => exact ⟨j + 1, hlt, rfl, by go_num, rfl, NO2⟩
    · obtain rfl : j = n := by omega
      have e : r = -1 := by rw [hr.out]; exact find_no NO.out
      subst e
      go_wp2
      go_ret
      exact ⟨rfl, rfl⟩

set_option maxRecDepth 100000 in
set_option maxHeartbeats 8000000 in
theorem rwithout_fn (A : Option Addr) (n c : Nat) (P : Nat → PodV) (id : Int) (w : World) (hR : RdPods w A n P) (hn : n ≤ 1000) : Calls Try.prog 25 #[.slice A n c, .int .i64 id] w fun e w' => ∃ B m d T, e = .returned (.slice B m d) ∧ Keep w w' ∧ RdPods w' B m T ∧ lst T m = (lst P n).filter (fun x => decide (x.k ≠ id)) ∧ (∀ b off, B = some ⟨b, off, none⟩ → w.heap.size ≤ b) ∧ (B = none → m = 0 ∧ d = 0) ∧ m ≤ d := by
  replace hR := Lib.hid hR
  go_enter Try.func25, Try.ntmps25
  go_wp2
  go_loopg [5, 6] n (fun gx s5 s6 wr => ∃ (j m : Nat) (B : Option Addr) (d : Nat) (T : Nat → PodV), j ≤ n ∧ gx = n - j ∧ s6 = .int .i64 j ∧ s5 = .slice B m d ∧ m ≤ j ∧ Hid (Keep w wr) ∧ Hid (wr.ownsRow w.heap.size 32 9 (.slice B m d) m (podCs T m)) ∧ Hid (lst T m = (lst P j).filter (fun x => decide (x.k ≠ id))))
  case atStart => exact ⟨0, 0, none, 0, fun _ => zpod, Nat.zero_le _, rfl, rfl, rfl, Nat.le_refl _, Keep.refl _, World.ownsRow_nil _ _ _ _, rfl⟩
  case round =>
    obtain ⟨j, m, B, d, T, hj, rfl, rfl, rfl, hmj, G, RW, LT⟩ := hrel
    by_cases hlt : j < n
    · have R2 := hR.out.keep G.out
      obtain ⟨b, off, hA, ca⟩ := R2.adr (by omega)
      subst hA
      have q1 := pods_at b off n c j hlt
      have X := ca j hlt
      clear ca
      replace R2 := Lib.hid R2
      have ls := lst_succ P j
      obtain ⟨x, hx⟩ : ∃ x, x = P j := ⟨_, rfl⟩
      rw [← hx] at X ls
      replace hx := Lib.hid hx
      replace ls := Lib.hid ls
      have x0 := X.e0; have x1 := X.e1; have x2 := X.e2; have x3 := X.e3; have x4 := X.e4; have x5 := X.e5; have x6 := X.e6; have x7 := X.e7; have x8 := X.e8
      clear X
      by_cases hk : x.k = id
      · have L2 : Hid (lst T m = (lst P (j + 1)).filter (fun x => decide (x.k ≠ id))) := by
          show _ = _
          rw [ls.out, List.filter_append, ← LT.out, List.filter_cons_of_neg (by simp [hk]), List.filter_nil, List.append_nil]
        go_wp2
        go_roundg (n - (j + 1))
        case measure => omega
        case rel => exact ⟨j + 1, m, B, d, T, hlt, rfl, by go_num, rfl, by omega, G, RW, L2⟩
      · have L2 : Hid (lst (put T m x) (m + 1) = (lst P (j + 1)).filter (fun x => decide (x.k ≠ id))) := by
          show _ = _
          rw [ls.out, List.filter_append, ← LT.out, List.filter_cons_of_pos (by simp [hk]), List.filter_nil, lst_put]
        have gsz : Hid (w.heap.size ≤ wr.heap.size) := G.out.size
        go_wp2_with (at_builtin; refine wpl_own rfl _ _ rfl w.heap.size (.slice B m d) m (podCs T m) (by simp [Act.eval]) (own_keep RW.out (Keep.one _ _)) (.slice (some ⟨wr.heap.size, 0, none⟩) 1 1) 1 x.cells (by simp [Act.eval]) (src_one (heap_alloc_new _ _)) (cells_one _) (by omega) (by rw [World.size_alloc]; have := gsz.out; omega) (m + 1) rfl ?_; intro v3 w3 hr3 hg3)
        have K3 : Hid (Keep w w3) := keep_grown (G.out.trans (Keep.one _ _)) hg3 (fun q hq => (RW.out.lt q hq).1)
        obtain ⟨B3, d3, hB3, _⟩ := own_form hr3
        subst hB3
        rw [← podCs_put] at hr3
        replace hr3 := Lib.hid hr3
        replace hg3 := Lib.hid hg3
        clear x0 x1 x2 x3 x4 x5 x6 x7 x8 q1
        go_wp2
        go_roundg (n - (j + 1))
        case measure => omega
        case rel => exact ⟨j + 1, m + 1, B3, d3, put T m x, hlt, rfl, by go_num, rfl, by omega, K3, hr3, L2⟩
    · obtain rfl : j = n := by omega
      go_wp2
      go_ret
      refine ⟨B, m, d, T, rfl, G.out, rows_rd RW.out (by omega) (fun t ht => ?_), LT.out, fun b off e => ?_, fun e => ?_, own_cap RW.out⟩
      · have : T t ∈ (lst P j).filter (fun x => decide (x.k ≠ id)) := by rw [← LT.out]; exact lst_mem.2 ⟨t, ht, rfl⟩
        obtain ⟨s, hs, e⟩ := lst_mem.1 (List.mem_filter.1 this).1
        rw [← e]
        exact (hR.out.is s hs).keep G.out
      · exact (RW.out.lt b (by rw [e]; rfl)).1
      · obtain ⟨B', d', e', h0⟩ := own_form RW.out
        simp only [Value.slice.injEq, true_and] at e'
        obtain ⟨rfl, rfl⟩ := e'
        exact h0 e
end Go.Proofs.Ytmmpmpdjcmilkaa
