/-
  The stable order of numbered elements: rotations, merges, blocks. No condition, no program.
-/
import Derived.Sort.LotA
namespace Go.Proofs.YtpkpmoiekjhdnaaDoor
open Go.Sort

/-- Ahead by the comparison; or alike, and earlier. -/
def lo (lt : Nat → Nat → Bool) (s t : Nat) : Bool := lt s t || (!lt t s && decide (s < t))

section
variable {lt : Nat → Nat → Bool}

theorem lo_cross {s t : Nat} (h : s < t) : lo lt t s = lt t s := by
  unfold lo
  rw [decide_eq_false (by omega)]
  simp
theorem lo_total {s t : Nat} (h1 : lo lt s t = false) (h2 : lo lt t s = false) : s = t := by
  unfold lo at h1 h2
  cases a : lt s t <;> cases b : lt t s <;> simp [a, b] at h1 h2
  omega
theorem lo_irrefl (h : SWO lt) (x : Nat) : lo lt x x = false := by unfold lo; simp [h.irrefl x]
theorem lo_trans (h : SWO lt) {x y z : Nat} (h1 : lo lt x y = true) (h2 : lo lt y z = true) : lo lt x z = true := by
  unfold lo at h1 h2 ⊢
  cases a : lt x z
  · cases b : lt x y
    · simp only [b, Bool.false_or, Bool.and_eq_true, Bool.not_eq_true', decide_eq_true_eq] at h1
      cases c : lt y z
      · simp only [c, Bool.false_or, Bool.and_eq_true, Bool.not_eq_true', decide_eq_true_eq] at h2
        rw [h.ntrans _ _ _ h2.1 h1.1, decide_eq_true (show x < z by omega)]
        rfl
      · have := h.ntrans _ _ _ h1.1 a
        rw [c] at this
        cases this
    · cases c : lt y z
      · simp only [c, Bool.false_or, Bool.and_eq_true, Bool.not_eq_true', decide_eq_true_eq] at h2
        have := h.ntrans _ _ _ a h2.1
        rw [b] at this
        cases this
      · have := h.trans _ _ _ b c
        rw [a] at this
        cases this
  · rfl
theorem lo_swo (h : SWO lt) : SWO (lo lt) where
  irrefl := lo_irrefl h
  trans := fun x y z => lo_trans h
  ntrans := fun x y z h1 h2 => by
    cases a : lo lt x z with
    | false => rfl
    | true =>
      by_cases e : x = y
      · subst e; rw [a] at h2; cases h2
      · cases b : lo lt y x with
        | false => exact absurd (lo_total h1 b) e
        | true =>
          have := lo_trans h b a
          rw [h2] at this
          cases this

/-! ### Rotations -/
/-- Where place p of the rotated row [a, m), [m, b) stood. -/
def rotIx (a m b p : Nat) : Nat := if a ≤ p ∧ p < a + (b - m) then m + (p - a) else if a + (b - m) ≤ p ∧ p < b then p - (b - m) else p
theorem rot_first {a m b p : Nat} (h1 : a ≤ p) (h2 : p < a + (b - m)) : rotIx a m b p = m + (p - a) := if_pos ⟨h1, h2⟩
theorem rot_second {a m b p : Nat} (h1 : a + (b - m) ≤ p) (h2 : p < b) : rotIx a m b p = p - (b - m) := by
  unfold rotIx
  rw [if_neg (by omega), if_pos ⟨h1, h2⟩]
theorem rot_out {a m b p : Nat} (h : p < a ∨ b ≤ p) (h2 : a ≤ m) (h3 : m ≤ b) : rotIx a m b p = p := by
  unfold rotIx
  rw [if_neg (by omega), if_neg (by omega)]
theorem rot_left (m b p : Nat) (h : m ≤ b) : rotIx m m b p = p := by
  unfold rotIx
  split
  · omega
  · split
    · omega
    · rfl
theorem rot_right (a m p : Nat) : rotIx a m m p = p := by
  unfold rotIx
  split
  · omega
  · split
    · omega
    · rfl

/-- n exchanges: the places from a on against those from b on. -/
def swapR (d : Array Nat) (a b : Nat) : Nat → Array Nat
  | 0 => d
  | n + 1 => swp (swapR d a b n) (a + n) (b + n)
theorem swapR_size (d : Array Nat) (a b : Nat) : ∀ n, (swapR d a b n).size = d.size
  | 0 => rfl
  | n + 1 => by rw [swapR, swp_size, swapR_size d a b n]
theorem swapR_perm (d : Array Nat) (a b lo hi : Nat) (h1 : lo ≤ a) (h2 : lo ≤ b) (hh : hi ≤ d.size) : ∀ n, a + n ≤ hi → b + n ≤ hi → PermIn lo hi d (swapR d a b n)
  | 0, _, _ => permIn_refl _ _ _
  | n + 1, h3, h4 => permIn_trans _ _ _ _ _ (swapR_perm d a b lo hi h1 h2 hh n (by omega) (by omega)) (by
      rw [swapR]
      exact swp_permIn _ _ _ _ _ (by omega) (by omega) (by omega) (by omega) (by rw [swapR_size]; exact hh))
theorem swapR_get (d : Array Nat) (a b : Nat) : ∀ n, a + n ≤ b → b + n ≤ d.size → ∀ p, (swapR d a b n)[p]! = d[if a ≤ p ∧ p < a + n then b + (p - a) else if b ≤ p ∧ p < b + n then a + (p - b) else p]!
  | 0, _, _, p => by rw [swapR, if_neg (by omega), if_neg (by omega)]
  | n + 1, h1, h2, p => by
    have ih := swapR_get d a b n (by omega) (by omega)
    rw [swapR, swp_get _ (by rw [swapR_size]; omega) (by rw [swapR_size]; omega)]
    by_cases e1 : p = b + n
    · rw [if_pos e1, ih, if_neg (by omega), if_neg (by omega), if_neg (by omega), if_pos (by omega)]
      congr 1; omega
    · rw [if_neg e1]
      by_cases e2 : p = a + n
      · rw [if_pos e2, ih, if_neg (by omega), if_neg (by omega), if_pos (by omega)]
        congr 1; omega
      · rw [if_neg e2, ih]
        congr 1
        repeat' split
        all_goals omega
/-- The first block is the longer one: the second goes to its front. -/
theorem rot_more {m i j : Nat} {d : Array Nat} {f : Nat → Nat} (h : j < i) (hm : i ≤ m) (hs : m + j ≤ d.size) (hd : ∀ p, d[rotIx (m - i) m (m + j) p]! = f p) (p : Nat) : (swapR d (m - i) m j)[rotIx (m - (i - j)) m (m + j) p]! = f p := by
  rw [swapR_get d _ _ j (by omega) hs, ← hd p]
  congr 1
  unfold rotIx
  repeat' split
  all_goals omega
theorem rot_less {m i j : Nat} {d : Array Nat} {f : Nat → Nat} (h : i < j) (hm : i ≤ m) (hs : m + j ≤ d.size) (hd : ∀ p, d[rotIx (m - i) m (m + j) p]! = f p) (p : Nat) : (swapR d (m - i) (m + j - i) i)[rotIx (m - i) m (m + (j - i)) p]! = f p := by
  rw [swapR_get d _ _ i (by omega) (by omega), ← hd p]
  congr 1
  unfold rotIx
  repeat' split
  all_goals omega
theorem rot_same {m i : Nat} {d : Array Nat} {f : Nat → Nat} (hm : i ≤ m) (hs : m + i ≤ d.size) (hd : ∀ p, d[rotIx (m - i) m (m + i) p]! = f p) (p : Nat) : (swapR d (m - i) m i)[p]! = f p := by
  rw [swapR_get d _ _ i (by omega) hs, ← hd p]
  congr 1
  unfold rotIx
  repeat' split
  all_goals omega

/-- One place on: the first moves up; the last moves down. -/
theorem rot_up {a k : Nat} {d dk : Array Nat} (hk : a ≤ k) (hs : k + 1 < dk.size) (h : ∀ p, dk[p]! = d[rotIx a (a + 1) (k + 1) p]!) (p : Nat) : (swp dk k (k + 1))[p]! = d[rotIx a (a + 1) (k + 2) p]! := by
  rw [swp_get dk (by omega) hs, h k, h (k + 1), h p]
  unfold rotIx
  repeat' split
  all_goals first | rfl | omega | (congr 1; omega)
theorem rot_down {k m : Nat} {d dk : Array Nat} (hk : k < m) (hs : m < dk.size) (h : ∀ p, dk[p]! = d[rotIx (k + 1) m (m + 1) p]!) (p : Nat) : (swp dk (k + 1) k)[p]! = d[rotIx k m (m + 1) p]! := by
  rw [swp_get dk (by omega) (by omega), h k, h (k + 1), h p]
  unfold rotIx
  repeat' split
  all_goals first | rfl | omega | (congr 1; omega)

/-! ### Merges -/
/-- Every one of the left is of an earlier number. -/
def Cross (a m b : Nat) (d : Array Nat) : Prop := ∀ i j, a ≤ i → i < m → m ≤ j → j < b → d[i]! < d[j]!
theorem sorted_glue {a m b : Nat} {d : Array Nat} (h1 : SortedIn (lo lt) a m d) (h2 : SortedIn (lo lt) m b d) (h3 : ∀ x y, a ≤ x → x < m → m ≤ y → y < b → lo lt d[y]! d[x]! = false) : SortedIn (lo lt) a b d := by
  intro i j hi hij hj
  by_cases e1 : j < m
  · exact h1 i j hi hij e1
  · by_cases e2 : m ≤ i
    · exact h2 i j e2 hij hj
    · exact h3 i j hi (by omega) (by omega) hj
theorem sorted_le (h : SWO lt) {a b : Nat} {d : Array Nat} (hs : SortedIn (lo lt) a b d) {i j : Nat} (hi : a ≤ i) (hij : i ≤ j) (hj : j < b) : lo lt d[j]! d[i]! = false := by
  rcases Nat.lt_or_ge i j with hlt | hge
  · exact hs i j hi hlt hj
  · obtain rfl : i = j := by omega
    exact lo_irrefl h _

/-- What a search between the blocks found: [s, m) and [m, e) change places. -/
structure Split (lt : Nat → Nat → Bool) (a s m e b : Nat) (d : Array Nat) : Prop where
  as : a ≤ s
  sm : s ≤ m
  me : m ≤ e
  eb : e ≤ b
  keep : ∀ x y, a ≤ x → x < s → e ≤ y → y < b → lo lt d[y]! d[x]! = false
  turn : ∀ x y, s ≤ x → x < m → m ≤ y → y < e → lo lt d[y]! d[x]! = true

/-- The four parts behind the rotation. -/
structure Parts (lt : Nat → Nat → Bool) (a s mid e b : Nat) (d : Array Nat) : Prop where
  one : SortedIn (lo lt) a s d
  two : SortedIn (lo lt) s mid d
  three : SortedIn (lo lt) mid e d
  four : SortedIn (lo lt) e b d
  apart : ∀ x y, a ≤ x → x < mid → mid ≤ y → y < b → lo lt d[y]! d[x]! = false
theorem parts_of (h : SWO lt) {a s m e b : Nat} {d d1 : Array Nat} (S : Split lt a s m e b d) (hl : SortedIn (lo lt) a m d) (hr : SortedIn (lo lt) m b d) (hd : ∀ p, d1[p]! = d[rotIx s m e p]!) :
    Parts lt a s (s + (e - m)) e b d1 := by
  obtain ⟨has, hsm, hme, heb, hk, ht⟩ := S
  have f1 : ∀ p, p < s → d1[p]! = d[p]! := fun p hp => by rw [hd, rot_out (Or.inl hp) hsm hme]
  have f2 : ∀ p, s ≤ p → p < s + (e - m) → d1[p]! = d[m + (p - s)]! := fun p h1 h2 => by rw [hd, rot_first h1 h2]
  have f3 : ∀ p, s + (e - m) ≤ p → p < e → d1[p]! = d[p - (e - m)]! := fun p h1 h2 => by rw [hd, rot_second h1 h2]
  have f4 : ∀ p, e ≤ p → d1[p]! = d[p]! := fun p hp => by rw [hd, rot_out (Or.inr hp) hsm hme]
  refine ⟨fun i j hi hij hj => ?_, fun i j hi hij hj => ?_, fun i j hi hij hj => ?_, fun i j hi hij hj => ?_, fun x y hx1 hx2 hy1 hy2 => ?_⟩
  · rw [f1 i (by omega), f1 j hj]; exact hl i j hi hij (by omega)
  · rw [f2 i hi (by omega), f2 j (by omega) hj]; exact hr _ _ (by omega) (by omega) (by omega)
  · rw [f3 i hi (by omega), f3 j (by omega) hj]; exact hl _ _ (by omega) (by omega) (by omega)
  · rw [f4 i hi, f4 j (by omega)]; exact hr _ _ (by omega) hij hj
  · by_cases ex : x < s
    · rw [f1 x ex]
      by_cases ey : y < e
      · rw [f3 y hy1 ey]; exact sorted_le h hl hx1 (by omega) (by omega)
      · rw [f4 y (by omega)]; exact hk x y hx1 ex (by omega) hy2
    · rw [f2 x (by omega) hx2]
      by_cases ey : y < e
      · rw [f3 y hy1 ey]
        exact (lo_swo h).asymmA (ht _ _ (by omega) (by omega) (by omega) (by omega))
      · rw [f4 y (by omega)]; exact hr _ _ (by omega) (by omega) hy2
theorem Parts.whole {a s mid e b : Nat} {d : Array Nat} (h : Parts lt a s mid e b d) (h1 : ∀ x y, a ≤ x → x < s → s ≤ y → y < mid → lo lt d[y]! d[x]! = false) (h2 : ∀ x y, mid ≤ x → x < e → e ≤ y → y < b → lo lt d[y]! d[x]! = false) : SortedIn (lo lt) a b d :=
  sorted_glue (sorted_glue h.one h.two h1) (sorted_glue h.three h.four h2) h.apart

/-- One element to the left. -/
theorem merge_one (h : SWO lt) {a i b : Nat} {d d1 : Array Nat} (ha : a + 1 ≤ i) (hib : i ≤ b) (hr : SortedIn (lo lt) (a + 1) b d) (hd : ∀ p, d1[p]! = d[rotIx a (a + 1) i p]!)
    (h1 : ∀ p, a + 1 ≤ p → p < i → lo lt d[p]! d[a]! = true) (h2 : ∀ p, i ≤ p → p < b → lo lt d[p]! d[a]! = false) : SortedIn (lo lt) a b d1 := by
  have hl : SortedIn (lo lt) a (a + 1) d := fun i j h1 h2 h3 => by omega
  refine (parts_of h (S := ⟨Nat.le_refl a, by omega, ha, hib, fun x y h1 h2 => by omega, fun x y hx1 hx2 hy1 hy2 => ?_⟩) hl hr hd).whole (fun x y h1 h2 => by omega) (fun x y hx1 hx2 hy1 hy2 => ?_)
  · obtain rfl : x = a := by omega
    exact h1 y hy1 hy2
  · obtain rfl : x = i - 1 := by omega
    rw [hd, hd, rot_out (Or.inr hy1) (by omega) ha, rot_second (by omega) (by omega)]
    have := h2 y hy1 hy2
    rwa [show i - 1 - (i - (a + 1)) = a by omega]
/-- One element to the right. -/
theorem merge_last (h : SWO lt) {a i m : Nat} {d d1 : Array Nat} (ha : a ≤ i) (him : i ≤ m) (hl : SortedIn (lo lt) a m d) (hd : ∀ p, d1[p]! = d[rotIx i m (m + 1) p]!)
    (h1 : ∀ p, a ≤ p → p < i → lo lt d[m]! d[p]! = false) (h2 : ∀ p, i ≤ p → p < m → lo lt d[m]! d[p]! = true) : SortedIn (lo lt) a (m + 1) d1 := by
  have hr : SortedIn (lo lt) m (m + 1) d := fun i j h1 h2 h3 => by omega
  refine (parts_of h (S := ⟨ha, him, by omega, Nat.le_refl _, fun x y h1 h2 h3 h4 => by omega, fun x y hx1 hx2 hy1 hy2 => ?_⟩) hl hr hd).whole (fun x y hx1 hx2 hy1 hy2 => ?_) (fun x y h1 h2 => by omega)
  · obtain rfl : y = m := by omega
    exact h2 x hx1 hx2
  · obtain rfl : y = i := by omega
    rw [hd, hd, rot_out (Or.inl hx2) him (by omega), rot_first (by omega) (by omega), Nat.sub_self, Nat.add_zero]
    exact h1 x hx1 hx2

/-! ### The searches -/
theorem find_up (h : SWO lt) {m b p q : Nat} {d : Array Nat} {x : Nat} (hr : SortedIn (lo lt) m b d) (hp : m ≤ p) (hq : p ≤ q) (hb : q < b) (hh : lo lt d[q]! x = true) : lo lt d[p]! x = true := by
  cases e : lo lt d[p]! x with
  | true => rfl
  | false =>
    have := (lo_swo h).ntrans _ _ _ (sorted_le h hr hp hq hb) e
    rw [hh] at this
    cases this
theorem find_down (h : SWO lt) {m b p q : Nat} {d : Array Nat} {x : Nat} (hr : SortedIn (lo lt) m b d) (hp : m ≤ p) (hq : p ≤ q) (hb : q < b) (hh : lo lt d[p]! x = false) : lo lt d[q]! x = false :=
  (lo_swo h).ntrans _ _ _ (sorted_le h hr hp hq hb) hh
theorem find_low (h : SWO lt) {a m p q : Nat} {d : Array Nat} {x : Nat} (hl : SortedIn (lo lt) a m d) (hp : a ≤ p) (hq : p ≤ q) (hb : q < m) (hh : lo lt x d[q]! = false) : lo lt x d[p]! = false :=
  (lo_swo h).ntrans _ _ _ hh (sorted_le h hl hp hq hb)
theorem find_high (h : SWO lt) {a m p q : Nat} {d : Array Nat} {x : Nat} (hl : SortedIn (lo lt) a m d) (hp : a ≤ p) (hq : p ≤ q) (hb : q < m) (hh : lo lt x d[p]! = true) : lo lt x d[q]! = true := by
  cases e : lo lt x d[q]! with
  | true => rfl
  | false =>
    have := (lo_swo h).ntrans _ _ _ e (sorted_le h hl hp hq hb)
    rw [hh] at this
    cases this
/-- What the search of two ends found. -/
theorem split_of (h : SWO lt) {a s s0 r0 m n b : Nat} {d : Array Nat} (hl : SortedIn (lo lt) a m d) (hr : SortedIn (lo lt) m b d) (ham : a < m) (hmb : m < b)
    (has : a ≤ s) (hsm : s ≤ m) (hme : m + s ≤ n) (heb : n ≤ b + s) (h0 : s0 = a ∨ s0 + b = n) (h1 : r0 = m ∨ r0 + m = n)
    (hs : s = s0 ∨ lo lt d[n - s]! d[s - 1]! = false) (hq : s = r0 ∨ lo lt d[n - 1 - s]! d[s]! = true) : Split lt a s m (n - s) b d := by
  refine ⟨has, hsm, by omega, by omega, fun x y hx1 hx2 hy1 hy2 => ?_, fun x y hx1 hx2 hy1 hy2 => ?_⟩
  · rcases hs with hs | hs
    · omega
    · exact find_low h hl hx1 (by omega) (by omega) (find_down h hr (by omega) hy1 hy2 hs)
  · rcases hq with hq | hq
    · omega
    · exact find_high h hl (by omega) hx1 hx2 (find_up h hr hy1 (by omega) (by omega) hq)

/-- Both recursions are done. -/
theorem join_of {a mid b : Nat} {d1 d2 d3 : Array Nat} (hb : b ≤ d1.size) (ham : a ≤ mid) (hmb : mid ≤ b) (hap : ∀ x y, a ≤ x → x < mid → mid ≤ y → y < b → lo lt d1[y]! d1[x]! = false)
    (p2 : PermIn a mid d1 d2) (s2 : SortedIn (lo lt) a mid d2) (p3 : PermIn mid b d2 d3) (s3 : SortedIn (lo lt) mid b d3) : PermIn a b d1 d3 ∧ SortedIn (lo lt) a b d3 := by
  have hs2 : d2.size = d1.size := p2.1
  refine ⟨permIn_trans _ _ _ _ _ (permIn_mono _ _ _ _ _ _ (Nat.le_refl _) hmb hb p2) (permIn_mono _ _ _ _ _ _ ham (Nat.le_refl _) (by omega) p3), ?_⟩
  have e3 : ∀ p, p < mid → d3[p]! = d2[p]! := fun p hp => p3.2.1 p (Or.inl hp)
  have e2 : ∀ p, mid ≤ p → d2[p]! = d1[p]! := fun p hp => p2.2.1 p (Or.inr hp)
  refine sorted_glue (fun i j h1 h2 h3 => by rw [e3 i (by omega), e3 j h3]; exact s2 i j h1 h2 h3) s3 (fun x y hx1 hx2 hy1 hy2 => ?_)
  rw [e3 x hx2]
  refine permIn_all d2 d3 mid b (fun v => lo lt v d2[x]! = false) (by omega) p3 (fun y hy1 hy2 => ?_) y hy1 hy2
  rw [e2 y hy1]
  exact permIn_all d1 d2 a mid (fun v => lo lt d1[y]! v = false) (by omega) p2 (fun x hx1 hx2 => hap x y hx1 hx2 hy1 hy2) x hx1 hx2

/-! ### Insertion -/
theorem ins_inner (hS : SWO lt) (a : Nat) : ∀ (j : Nat) (d : Array Nat), j < d.size → (∀ p, a ≤ p → p < j → d[p]! < d[j]!) → insInner lt a j d = insInner (lo lt) a j d
  | 0, d, _, _ => by simp only [insInner]
  | j + 1, d, hj, hp => by
    unfold insInner
    by_cases haj : j + 1 > a
    · rw [lo_cross (hp j (by omega) (by omega))]
      split
      · refine ins_inner hS a j _ (by rw [swp_size]; omega) fun p h1 h2 => ?_
        rw [swp_get d hj (by omega), swp_get d hj (by omega), if_neg (by omega), if_neg (by omega), if_pos rfl]
        exact hp p h1 (by omega)
      · rfl
    · rw [decide_eq_false haj]
      simp
theorem ins_outer (hS : SWO lt) (a b : Nat) : ∀ (n i : Nat) (d : Array Nat), b - i = n → a < i → i ≤ b → b ≤ d.size → SortedIn (lo lt) a i d →
    (∀ p q, a ≤ p → p < i → i ≤ q → q < b → d[p]! < d[q]!) → (∀ p q, i ≤ p → p < q → q < b → d[p]! < d[q]!) → PermIn a b d (insOuter lt a b i d) ∧ SortedIn (lo lt) a b (insOuter lt a b i d)
  | 0, i, d, hn, _, hib, _, hs, _, _ => by
    obtain rfl : i = b := by omega
    rw [insOuter, if_neg (by omega)]
    exact ⟨permIn_refl _ _ _, hs⟩
  | n + 1, i, d, hn, hai, hib, hb, hs, h1, h2 => by
    have hlt : i < b := by omega
    rw [insOuter, if_pos hlt, ins_inner hS a i d (by omega) (fun p hp1 hp2 => h1 p i hp1 hp2 (Nat.le_refl _) hlt)]
    have hI : Ins (lo lt) a i i d := ⟨fun p q hap hpq hqi _ hq => hs p q hap hpq (by omega), fun q h1 h2 => by omega⟩
    have k1 := insInner_spec (lo_swo hS) swp_permIn permIn_refl permIn_trans a (i + 1) i (by omega) i d (by omega) (Nat.le_refl _) (by omega) hI
    have hsz := k1.1.1
    have hout : ∀ p, i + 1 ≤ p → (insInner (lo lt) a i d)[p]! = d[p]! := fun p hp => k1.1.2.1 p (Or.inr hp)
    have k2 := ins_outer hS a b n (i + 1) (insInner (lo lt) a i d) (by omega) (by omega) (by omega) (by omega) k1.2 (fun p q hp1 hp2 hq1 hq2 => by
        rw [hout q hq1]
        exact permIn_all d _ a (i + 1) (fun v => v < d[q]!) (by omega) k1.1 (fun p hp1 hp2 => by
          rcases Nat.lt_or_ge p i with h | h
          · exact h1 p q hp1 h (by omega) hq2
          · exact h2 p q h (by omega) hq2) p hp1 hp2)
      (fun p q hp1 hp2 hq => by rw [hout p hp1, hout q (by omega)]; exact h2 p q (by omega) hp2 hq)
    exact ⟨permIn_trans _ _ _ _ _ (permIn_mono _ _ _ _ _ _ (Nat.le_refl _) (by omega) hb k1.1) k2.1, k2.2⟩
theorem ins_sort (hS : SWO lt) (a b : Nat) (d : Array Nat) (hab : a ≤ b) (hb : b ≤ d.size) (h : ∀ p q, a ≤ p → p < q → q < b → d[p]! < d[q]!) : PermIn a b d (insertionSort lt d a b) ∧ SortedIn (lo lt) a b (insertionSort lt d a b) := by
  unfold insertionSort
  by_cases e : a = b
  · subst e
    rw [insOuter, if_neg (by omega)]
    exact ⟨permIn_refl _ _ _, fun i j h1 h2 h3 => by omega⟩
  · exact ins_outer hS a b _ (a + 1) d rfl (by omega) (by omega) hb (fun i j h1 h2 h3 => by omega) (fun p q h1 h2 h3 h4 => h p q h1 (by omega) h4) (fun p q h1 h2 h3 => h p q (by omega) h2 h3)

/-! ### Blocks -/
/-- [s, e) is done: in order, of its own numbers. -/
def Seg (lt : Nat → Nat → Bool) (s e : Nat) (d : Array Nat) : Prop := SortedIn (lo lt) s e d ∧ ∀ p, s ≤ p → p < e → s ≤ d[p]! ∧ d[p]! < e
theorem Seg.congr {s e : Nat} {d d' : Array Nat} (h : Seg lt s e d) (he : ∀ p, s ≤ p → p < e → d'[p]! = d[p]!) : Seg lt s e d' :=
  ⟨fun i j h1 h2 h3 => by rw [he i h1 (by omega), he j (by omega) h3]; exact h.1 i j h1 h2 h3, fun p h1 h2 => by rw [he p h1 h2]; exact h.2 p h1 h2⟩
theorem Seg.cross {a m b : Nat} {d : Array Nat} (h1 : Seg lt a m d) (h2 : Seg lt m b d) : Cross a m b d := fun i j hi hi2 hj hj2 => by
  have := h1.2 i hi hi2
  have := h2.2 j hj hj2
  omega
theorem Seg.merged {a m b : Nat} {d d' : Array Nat} (h1 : Seg lt a m d) (h2 : Seg lt m b d) (ham : a ≤ m) (hmb : m ≤ b) (hb : b ≤ d.size) (hp : PermIn a b d d') (hs : SortedIn (lo lt) a b d') : Seg lt a b d' :=
  ⟨hs, permIn_all d d' a b (fun v => a ≤ v ∧ v < b) hb hp (fun p hp1 hp2 => by
    rcases Nat.lt_or_ge p m with h | h
    · have := h1.2 p hp1 h; omega
    · have := h2.2 p h hp2; omega)⟩
/-- The whole blocks ahead of a. -/
inductive Pre (lt : Nat → Nat → Bool) (bs : Nat) (d : Array Nat) : Nat → Prop
  | zero : Pre lt bs d 0
  | more {a : Nat} : Pre lt bs d a → Seg lt a (a + bs) d → Pre lt bs d (a + bs)
/-- The blocks from a on. -/
inductive Segs (lt : Nat → Nat → Bool) (bs n : Nat) (d : Array Nat) : Nat → Prop
  | nil {a : Nat} : n ≤ a → Segs lt bs n d a
  | last {a : Nat} : a < n → n ≤ a + bs → Seg lt a n d → Segs lt bs n d a
  | cons {a : Nat} : a + bs < n → Seg lt a (a + bs) d → Segs lt bs n d (a + bs) → Segs lt bs n d a
theorem Pre.congr {bs a : Nat} {d d' : Array Nat} (h : Pre lt bs d a) : (∀ p, p < a → d'[p]! = d[p]!) → Pre lt bs d' a := by
  induction h with
  | zero => exact fun _ => .zero
  | more h1 h2 ih => exact fun he => .more (ih fun p hp => he p (by omega)) (h2.congr fun p h1 h2 => he p h2)
theorem Segs.congr {bs n a : Nat} {d d' : Array Nat} (h : Segs lt bs n d a) : (∀ p, a ≤ p → p < n → d'[p]! = d[p]!) → Segs lt bs n d' a := by
  induction h with
  | nil h => exact fun _ => .nil h
  | last h1 h2 h3 => exact fun he => .last h1 h2 (h3.congr he)
  | cons h1 h2 h3 ih => exact fun he => .cons h1 (h2.congr fun p q1 q2 => he p q1 (by omega)) (ih fun p q1 q2 => he p (by omega) q2)
theorem Pre.close {bs n a : Nat} {d : Array Nat} (h : Pre lt bs d a) : Segs lt bs n d a → a ≤ n → Segs lt bs n d 0 := by
  induction h with
  | zero => exact fun h _ => h
  | more h1 h2 ih =>
    intro h hn
    refine ih ?_ (by omega)
    rename_i a
    rcases Nat.lt_or_ge (a + bs) n with h3 | h3
    · exact .cons h3 h2 h
    · obtain rfl : n = a + bs := by omega
      by_cases e : bs = 0
      · subst e; exact h
      · exact .last (by omega) (Nat.le_refl _) h2
theorem Segs.whole {bs n : Nat} {d : Array Nat} (h : Segs lt bs n d 0) (hb : n ≤ bs) : SortedIn (lo lt) 0 n d := by
  cases h with
  | nil h => exact fun i j h1 h2 h3 => by omega
  | last h1 h2 h3 => exact h3.1
  | cons h1 h2 h3 => omega
theorem Segs.two {bs n a : Nat} {d : Array Nat} (h : Segs lt bs n d a) (h0 : 0 < bs) (h2 : a + 2 * bs ≤ n) : Seg lt a (a + bs) d ∧ Seg lt (a + bs) (a + 2 * bs) d ∧ Segs lt bs n d (a + 2 * bs) := by
  have e : a + bs + bs = a + 2 * bs := by omega
  cases h with
  | nil h => omega
  | last h1 h3 h4 => omega
  | cons h1 h3 h4 =>
    refine ⟨h3, ?_⟩
    cases h4 with
    | nil h => omega
    | last h5 h6 h7 =>
      obtain rfl : n = a + 2 * bs := by omega
      exact ⟨h7, .nil (Nat.le_refl _)⟩
    | cons h5 h6 h7 => rw [e] at h6 h7; exact ⟨h6, h7⟩
theorem Segs.rest {bs n a : Nat} {d : Array Nat} (h : Segs lt bs n d a) (h1 : a + bs < n) (h2 : n < a + 2 * bs) : Seg lt a (a + bs) d ∧ Seg lt (a + bs) n d := by
  cases h with
  | nil h => omega
  | last h3 h4 h5 => omega
  | cons h3 h4 h5 =>
    refine ⟨h4, ?_⟩
    cases h5 with
    | nil h => omega
    | last h6 h7 h8 => exact h8
    | cons h6 h7 h8 => omega
theorem Segs.wide {bs n a : Nat} {d : Array Nat} (h : Segs lt bs n d a) (h1 : n ≤ a + bs) : Segs lt (2 * bs) n d a := by
  cases h with
  | nil h => exact .nil h
  | last h3 h4 h5 => exact .last h3 (by omega) h5
  | cons h3 h4 h5 => omega
/-- One sorted row of these numbers alone. -/
theorem sorted_one (h : SWO lt) {d d1 d2 : Array Nat} (p1 : PermIn 0 d.size d d1) (s1 : SortedIn (lo lt) 0 d.size d1) (p2 : PermIn 0 d.size d d2) (s2 : SortedIn (lo lt) 0 d.size d2) : d1 = d2 := by
  have e1 := sorted_unique_holds (lo_swo h) (fun _ _ => lo_total) d d1 p1 s1
  have e2 := sorted_unique_holds (lo_swo h) (fun _ _ => lo_total) d d2 p2 s2
  exact Array.toList_inj.1 (e1.trans e2.symm)
end
end Go.Proofs.YtpkpmoiekjhdnaaDoor
