/-
  What the laws of stage 6 lean on: the first of the least, the sums of two parts, slices just laid. No condition.
-/
import Derived.Test.YtflheiodaklceaaAwake6
namespace Go.Proofs.Ytflheiodaklceaa
open Go.RowKit Go.Sort Go.Shelf

/-! ### The first of the least -/
theorem leastI_min (P : Nat → PodV) : ∀ n j, j < n → lo (ltOf (cfP P)) j (leastI P n) = false
  | 0, j, h => absurd h (Nat.not_lt_zero _)
  | n + 1, j, h => by
    have hS := lo_swo (cmpP_swo P)
    unfold leastI
    by_cases hc : cmpP (P n) (P (leastI P n)) < 0
    · rw [if_pos hc]
      by_cases e : j = n
      · rw [e]; exact hS.irrefl n
      · have hl : lo (ltOf (cfP P)) n (leastI P n) = true := by
          unfold lo
          rw [show ltOf (cfP P) n (leastI P n) = true from decide_eq_true hc]
          rfl
        cases hq : lo (ltOf (cfP P)) j n with
        | false => rfl
        | true =>
          have := hS.trans _ _ _ hq hl
          rw [leastI_min P n j (by omega)] at this
          cases this
    · rw [if_neg hc]
      by_cases e : j = n
      · rw [e]
        rcases Nat.eq_zero_or_pos n with rfl | h0
        · exact hS.irrefl 0
        · rw [lo_cross (leastI_lt P n h0)]
          exact decide_eq_false hc
      · exact leastI_min P n j (by omega)
theorem least_head {P : Nat → PodV} {n : Nat} {T : List Nat} (h0 : 0 < n) (hp : T.Perm (List.range n)) (hs : SortedL (ltOf (cfP P)) T) : T.getD 0 0 = leastI P n := by
  obtain ⟨hl, hb⟩ := perm_range_lt hp
  refine lo_total (lt := ltOf (cfP P)) (leastI_min P n _ (hb 0 (by omega))) ?_
  have hm : leastI P n ∈ T := hp.mem_iff.2 (List.mem_range.2 (leastI_lt P n h0))
  obtain ⟨t, ht, e⟩ := List.getElem_of_mem hm
  have e2 : T.getD t 0 = leastI P n := by rw [List.getD_eq_getElem?_getD, List.getElem?_eq_getElem ht]; exact e
  rw [← e2]
  rcases Nat.eq_zero_or_pos t with rfl | h1
  · exact (lo_swo (cmpP_swo P)).irrefl _
  · exact hs 0 t h1 ht
theorem least_first {P : Nat → PodV} {n k : Nat} (hk : k < leastI P n) : cmpP (P k) (P (leastI P n)) ≠ 0 := by
  intro h
  have hle := leastI_le P n
  have hm := leastI_min P n k (by omega)
  have e1 : ltOf (cfP P) k (leastI P n) = false := decide_eq_false (by show ¬ cmpP _ _ < 0; rw [h]; omega)
  have e2 : ltOf (cfP P) (leastI P n) k = false := by
    refine decide_eq_false ?_
    show ¬ cmpP _ _ < 0
    rw [cmpP_of] at h ⊢
    split at h
    · omega
    · split at h
      · omega
      · split at h
        · omega
        · split at h
          · omega
          · split at h
            · omega
            · split at h
              · omega
              · repeat' split
                all_goals omega
  unfold lo at hm
  rw [e1, e2, decide_eq_true hk] at hm
  cases hm

/-! ### Of two pods -/
theorem cmpP_anti (x y : PodV) : cmpP x y = -cmpP y x := by
  rw [cmpP_of, cmpP_of]
  repeat' split
  all_goals omega
theorem cmpP_self (x : PodV) : cmpP x x = 0 := by
  rw [cmpP_of]
  repeat' split
  all_goals omega
theorem cmpP_range (x y : PodV) : -1 ≤ cmpP x y ∧ cmpP x y ≤ 1 := by
  rw [cmpP_of]
  repeat' split
  all_goals omega
theorem bef_self (x : PodV) : befP x x = false := by unfold befP; rw [cmpP_self]; decide
theorem bef_other {x y : PodV} (h : x.k ≠ y.k) : (befP x y != befP y x) = true := by
  have h0 : cmpP x y ≠ 0 := by
    rw [cmpP_of]
    repeat' split
    all_goals omega
  have ha := cmpP_anti x y
  unfold befP
  by_cases h1 : cmpP x y < 0
  · rw [decide_eq_true h1, decide_eq_false (by omega)]; rfl
  · rw [decide_eq_false h1, decide_eq_true (by omega)]; rfl
theorem bef_trans {x y z : PodV} (h1 : befP x y = true) (h2 : befP y z = true) : befP x z = true := by
  unfold befP at *
  rw [decide_eq_true_eq, cmpP_neg] at *
  omega

/-! ### Sums of two parts -/
theorem smP_congr {P Q : Nat → PodV} : ∀ n, (∀ j, j < n → (P j).p = (Q j).p) → smP P n = smP Q n
  | 0, _ => rfl
  | n + 1, h => by rw [smP, smP, smP_congr n (fun j hj => h j (by omega)), h n (by omega)]
theorem hiP_congr {P Q : Nat → PodV} : ∀ n, (∀ j, j < n → (P j).p = (Q j).p) → hiP P n = hiP Q n
  | 0, _ => rfl
  | n + 1, h => by rw [hiP, hiP, hiP_congr n (fun j hj => h j (by omega)), h n (by omega)]
theorem hiP_top (P : Nat → PodV) : ∀ n, 0 < n → (∀ j, j < n → (P j).p ≤ hiP P n) ∧ ∃ j, j < n ∧ hiP P n = (P j).p
  | 0, h => absurd h (Nat.lt_irrefl _)
  | n + 1, _ => by
    by_cases h0 : n = 0
    · subst h0
      have e : hiP P 1 = (P 0).p := if_pos (Or.inl rfl)
      rw [e]
      exact ⟨fun j hj => by obtain rfl : j = 0 := by omega
                            exact Int.le_refl _, 0, by omega, rfl⟩
    · obtain ⟨h1, k, hk, h2⟩ := hiP_top P n (by omega)
      unfold hiP
      by_cases h3 : hiP P n < (P n).p
      · rw [if_pos (Or.inr h3)]
        refine ⟨fun j hj => ?_, n, by omega, rfl⟩
        by_cases e : j = n
        · rw [e]; exact Int.le_refl _
        · have := h1 j (by omega); omega
      · rw [if_neg (by omega)]
        refine ⟨fun j hj => ?_, k, by omega, h2⟩
        by_cases e : j = n
        · rw [e]; omega
        · exact h1 j (by omega)
def highL (P : Nat → PodV) (q : Int) : Nat → List Nat
  | 0 => []
  | n + 1 => if (P n).p < q then highL P q n else highL P q n ++ [n]
def pick (P : Nat → PodV) (L : List Nat) : Nat → PodV := fun t => P (L.getD t 0)
theorem smP_snoc (P : Nat → PodV) (L : List Nat) (x : Nat) : smP (pick P (L ++ [x])) (L ++ [x]).length = smP (pick P L) L.length + (P x).p := by
  rw [List.length_append]
  show smP (pick P (L ++ [x])) L.length + (P ((L ++ [x]).getD L.length 0)).p = _
  rw [getD_snoc, if_neg (Nat.lt_irrefl _), if_pos rfl]
  congr 1
  exact smP_congr _ fun j hj => by unfold pick; rw [getD_snoc, if_pos hj]
theorem parts_sum (P : Nat → PodV) (q : Int) : ∀ n, (lowL P q n).length + (highL P q n).length = n ∧ smP (pick P (lowL P q n)) (lowL P q n).length + smP (pick P (highL P q n)) (highL P q n).length = smP P n
  | 0 => ⟨rfl, rfl⟩
  | n + 1 => by
    obtain ⟨h1, h2⟩ := parts_sum P q n
    unfold lowL highL
    by_cases hp : (P n).p < q
    · simp only [if_pos hp]
      rw [smP_snoc]
      refine ⟨by rw [List.length_append]; show _ + 1 + _ = _; omega, ?_⟩
      show _ = smP P n + (P n).p
      omega
    · simp only [if_neg hp]
      rw [smP_snoc]
      refine ⟨by rw [List.length_append]; show _ + (_ + 1) = _; omega, ?_⟩
      show _ = smP P n + (P n).p
      omega
theorem highL_mem (P : Nat → PodV) (q : Int) : ∀ n x, x ∈ highL P q n ↔ x < n ∧ q ≤ (P x).p
  | 0, x => by simp [highL]
  | n + 1, x => by
    have ih := highL_mem P q n x
    unfold highL
    by_cases hp : (P n).p < q
    · rw [if_pos hp, ih]
      constructor
      · rintro ⟨h1, h2⟩; exact ⟨by omega, h2⟩
      · rintro ⟨h1, h2⟩
        refine ⟨?_, h2⟩
        rcases Nat.lt_or_ge x n with h | h
        · exact h
        · obtain rfl : x = n := by omega
          omega
    · rw [if_neg hp, List.mem_append, ih, List.mem_singleton]
      constructor
      · rintro (⟨h1, h2⟩ | rfl)
        · exact ⟨by omega, h2⟩
        · exact ⟨by omega, by omega⟩
      · rintro ⟨h1, h2⟩
        by_cases e : x = n
        · exact .inr e
        · exact .inl ⟨by omega, h2⟩
theorem getD_mem {L : List Nat} {t : Nat} (h : t < L.length) : L.getD t 0 ∈ L := by
  rw [List.getD_eq_getElem?_getD, List.getElem?_eq_getElem h]
  exact List.getElem_mem h
theorem parts_top (P : Nat → PodV) (q : Int) (n : Nat) (h : 0 < (highL P q n).length) : hiP (pick P (highL P q n)) (highL P q n).length = hiP P n := by
  obtain ⟨h1, k, hk, h2⟩ := hiP_top (pick P (highL P q n)) _ h
  have hkm := (highL_mem P q n _).1 (getD_mem hk)
  obtain ⟨h3, j, hj, h4⟩ := hiP_top P n (by omega)
  have a1 := h3 _ hkm.1
  have hjm : j ∈ highL P q n := (highL_mem P q n j).2 ⟨hj, by omega⟩
  obtain ⟨t, ht, e⟩ := List.getElem_of_mem hjm
  have e2 : (highL P q n).getD t 0 = j := by rw [List.getD_eq_getElem?_getD, List.getElem?_eq_getElem ht]; exact e
  have a2 := h1 t ht
  unfold pick at a2 h2 ⊢
  rw [e2] at a2
  omega

/-! ### Slices -/
theorem rd_lay1 {W : World} {w : World} {cs : Array Value} {L : List PodV} (hk : Keep w (W.alloc (.cells cs 25))) (hl : L.length ≤ 100) (hx : ∀ x ∈ L, PodIs w x) (hc : cs = (L.flatMap PodV.cells).toArray) (d : PodV) : RdPods (W.alloc (.cells cs 25)) (some ⟨W.heap.size, 0, none⟩) L.length (fun t => L.getD t d) := by
  subst hc
  have get : ∀ (M : List PodV) (j i : Nat), j < M.length → i < 9 → (M.flatMap PodV.cells)[j * 9 + i]? = (M.getD j d).cells[i]? := by
    intro M
    induction M with
    | nil => intro j i h _; exact absurd h (Nat.not_lt_zero _)
    | cons x M ih =>
      intro j i h hi
      show (PodV.cells x ++ M.flatMap PodV.cells)[j * 9 + i]? = _
      cases j with
      | zero => rw [List.getElem?_append_left (by rw [cells9]; omega)]; simp
      | succ j =>
        rw [List.getElem?_append_right (by rw [cells9]; omega), cells9, show (j + 1) * 9 + i - 9 = j * 9 + i by omega, ih j i (by simpa using h) hi]
        rfl
  refine ⟨by omega, fun _ => ⟨_, 0, rfl, fun j hj => cel_of fun i u hu => ?_⟩, fun j hj => ?_⟩
  · have hi : i < 9 := (List.getElem?_eq_some_iff.1 hu).1
    rw [Nat.zero_add, World.cell?_alloc_new, List.getElem?_toArray, get L j i hj hi]
    exact hu
  · refine (hx _ ?_).keep hk
    rw [List.getD_eq_getElem?_getD, List.getElem?_eq_getElem hj]
    exact List.getElem_mem hj
theorem src_rd {w : World} {A : Option Addr} {n c : Nat} {P : Nat → PodV} (h : RdPods w A n P) (h0 : A = none → n = 0 ∧ c = 0) : SrcP w (.slice A n c) n (podCs P n) := by
  cases A with
  | none =>
    obtain ⟨rfl, rfl⟩ := h0 rfl
    exact .inl ⟨rfl, rfl, rfl⟩
  | some a =>
    refine .inr ⟨a, c, rfl, podCs_len _ _, fun j u hu => ?_⟩
    have hj : j < n * 9 := by have := (List.getElem?_eq_some_iff.1 hu).1; rwa [podCs_len] at this
    obtain ⟨b, off, e, hc⟩ := h.adr (by omega)
    obtain rfl := Option.some.inj e
    rw [WideShapes.add_plain]
    have hg := podCs_get P n (j / 9) (j % 9) (by omega) (Nat.mod_lt _ (by omega))
    rw [show j / 9 * 9 + j % 9 = j by omega, hu] at hg
    have hC := hc (j / 9) (by omega)
    have hm : j % 9 < 9 := Nat.mod_lt _ (by omega)
    have ej : off + j = off + j / 9 * 9 + j % 9 := by omega
    rw [ej]
    generalize j % 9 = i at hg hm ⊢
    obtain rfl | rfl | rfl | rfl | rfl | rfl | rfl | rfl | rfl : i = 0 ∨ i = 1 ∨ i = 2 ∨ i = 3 ∨ i = 4 ∨ i = 5 ∨ i = 6 ∨ i = 7 ∨ i = 8 := by omega
    · rw [Nat.add_zero, hC.e0, hg]; rfl
    · rw [hC.e1, hg]; rfl
    · rw [hC.e2, hg]; rfl
    · rw [hC.e3, hg]; rfl
    · rw [hC.e4, hg]; rfl
    · rw [hC.e5, hg]; rfl
    · rw [hC.e6, hg]; rfl
    · rw [hC.e7, hg]; rfl
    · rw [hC.e8, hg]; rfl
/-- An append to a row of the call's own, one after another. -/
theorem wpl_own {ops : Array Oper} {rest : List Oper} {o : Oper} {a : Act} {w : World} {Q : Exit → Act → World → Prop} (hgd : o.guard = none) (s x : Operand) (ho : o.op = .call { callee := .builtin .append, args := #[s, x], argTypes := #[22, 22] })
    (base : Nat) (v : Value) (n : Nat) (xs : List Value) (hs : a.eval s = v) (hown : w.ownsRow base 25 9 v n xs) (X : Value) (m : Nat) (news : List Value) (hx : a.eval x = X) (hsrc : SrcP w X m news) (h1 : ∀ u ∈ news, u.oneCell' = true)
    (hlim : n + m ≤ 1048577) (hbase : base ≤ w.heap.size) (N : Nat) (hN : n + m = N)
    (h : ∀ v' w', w'.ownsRow base 25 9 v' N (xs ++ news) → w.grownBy w' v.ownBlock → wpList Try.prog ops Q rest (a.put o.dst v') w') : wpList Try.prog ops Q (o :: rest) a w := by
  subst hN
  obtain ⟨i0, hi0, hz0, hz1, hz2⟩ := info_parts Try.infoPod
  rcases hsrc with ⟨rfl, rfl, rfl⟩ | ⟨ad, c, rfl, hl, hc⟩
  · exact wpList_append_own_none hgd s x 22 ho base 25 i0 9 Try.underlying22 hi0 v n xs hs hown hx (h v w (by rw [List.append_nil]; exact hown) ⟨rfl, rfl, rfl, Nat.le_refl _, fun _ _ _ => rfl⟩)
  · exact wpList_append_own (P := Try.prog) w hgd s x 22 ho base 25 i0 _ 9 88 Try.underlying22 hi0 hz0 hz1 hz2 rfl (by decide) v n xs hs hown ad m c news hx hl hc h1 (by unfold maxLen; omega) (by omega) hbase fun v' w' h2 h3 _ => h v' w' h2 h3
end Go.Proofs.Ytflheiodaklceaa
