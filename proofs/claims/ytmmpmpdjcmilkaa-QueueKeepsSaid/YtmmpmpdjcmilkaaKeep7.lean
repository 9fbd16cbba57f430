/-
  What a change of other blocks leaves of a queue; rows of amounts appended to; a row of pods to be spoiled. No condition.
-/
import Derived.Test.YtmmpmpdjcmilkaaSpoil7
namespace Go.Proofs.Ytmmpmpdjcmilkaa
open Go.RowKit Go.Sort Go.Lib Go.Shelf

theorem QInv.frame {w w' : World} {b0 b1 bq : Nat} {D E : Nat → Prop} {L : List PodV} (h : QInv w b0 b1 bq D L) (f : Fr E w w') (h1 : ∀ k, D k → ¬ E k) (h2 : ∀ k, b1 ≤ k → ¬ E k) : QInv w' b0 b1 bq D L := by
  obtain ⟨B, A, c, n, Q, H, hh, hp, rfl, h5⟩ := h
  have hl := H.lt
  obtain ⟨fm, hm, hP⟩ := H.map
  refine ⟨B, A, c, n, Q, ⟨(f.block _ hl.1 (h1 _ (Or.inl rfl))).trans H.hq, ⟨own_blocks1 H.row.row (fun g hg => f.block g (H.row.row.lt g hg).2 (h1 _ (Or.inr (Or.inr ⟨0, own_zero H.row.row hg⟩)))), fun j hj => own_blocks1 (H.row.own j hj) (fun g hg => f.block g ((H.row.own j hj).lt g hg).2 (h2 _ ((H.row.own j hj).lt g hg).1)), H.row.ok⟩, ⟨fm, hm.of (f.block _ hl.2 (h1 _ (Or.inr (Or.inl rfl)))), hP⟩, H.lim, H.lo.1, H.lo.2.1, H.lo.2.2.1, Nat.le_trans H.lo.2.2.2 f.size⟩, hh, hp, rfl, h5⟩
theorem RowP.fr {w w' : World} {base n : Nat} {v : Value} {Q : Nat → PodV} {E : Nat → Prop} (h : RowP w base v n Q) (f : Fr E w w') (h2 : ∀ k, base ≤ k → k < w.heap.size → ¬ E k) : RowP w' base v n Q :=
  ⟨own_blocks1 h.row (fun g hg => f.block g (h.row.lt g hg).2 (h2 _ (h.row.lt g hg).1 (h.row.lt g hg).2)), fun j hj => own_blocks1 (h.own j hj) (fun g hg => f.block g ((h.own j hj).lt g hg).2 (h2 _ ((h.own j hj).lt g hg).1 ((h.own j hj).lt g hg).2)), h.ok⟩

/-- Amounts appended to a row of the call's own. -/
theorem wpl_ownI {ops : Array Oper} {rest : List Oper} {o : Oper} {a : Act} {w : World} {Q : Exit → Act → World → Prop} (hgd : o.guard = none) (s x : Operand) (ho : o.op = .call { callee := .builtin .append, args := #[s, x], argTypes := #[30, 30] })
    (base : Nat) (v : Value) (n : Nat) (xs : List Value) (hs : a.eval s = v) (hown : w.ownsRow base 2 1 v n xs) (A : Option Addr) (m c : Nat) (Z : Nat → Int) (hx : a.eval x = .slice A m c) (hR : Rd w A m Z) (h0 : A = none → m = 0 ∧ c = 0)
    (hlim : n + m ≤ 1048576) (hbase : base ≤ w.heap.size)
    (h : ∀ v' w', w'.ownsRow base 2 1 v' (n + m) (xs ++ rowL m Z) → w.grownBy w' v.ownBlock → wpList Try.prog ops Q rest (a.put o.dst v') w') : wpList Try.prog ops Q (o :: rest) a w := by
  obtain ⟨i0, hi0, hz0, hz1, hz2⟩ := info_parts Try.infoI64
  cases A with
  | none =>
    obtain ⟨rfl, rfl⟩ := h0 rfl
    refine wpList_append_own_none hgd s x 30 ho base 2 i0 1 Try.underlying30 hi0 v n xs hs hown hx (h v w ?_ ⟨rfl, rfl, rfl, Nat.le_refl _, fun _ _ _ => rfl⟩)
    show w.ownsRow base 2 1 v n (xs ++ [])
    rw [List.append_nil]
    exact hown
  | some ad =>
    exact wpList_append_own (P := Try.prog) w hgd s x 30 ho base 2 i0 _ 1 8 Try.underlying30 hi0 hz0 hz1 hz2 rfl (by decide) v n xs hs hown ad m c (rowL m Z) hx (by simp [rowL]) (news_of hR) (rowL_one m Z) (by unfold maxLen; omega) (by omega) hbase fun v' w' h2 h3 _ => h v' w' h2 h3

theorem podCs_set1 (Q : Nat → PodV) (n i : Nat) (A : Option Addr) (c : Nat) : (podCs Q n).set (i * 9 + 4) (.slice A (Q i).m c) = podCs (put Q i ((Q i).at A c)) n := by
  refine List.ext_getElem? fun t => ?_
  by_cases ht : t < n * 9
  · have h1 : t / 9 < n := by omega
    have h2 : t % 9 < 9 := Nat.mod_lt _ (by omega)
    have e1 := podCs_get (put Q i ((Q i).at A c)) n (t / 9) (t % 9) h1 h2
    have e2 := podCs_get Q n (t / 9) (t % 9) h1 h2
    rw [show t / 9 * 9 + t % 9 = t by omega] at e1 e2
    rw [e1]
    by_cases e : t / 9 = i
    · rw [e, put_at]
      by_cases e4 : t = i * 9 + 4
      · rw [e4, List.getElem?_set_self (by rw [podCs_len]; omega), show (i * 9 + 4) % 9 = 4 by omega]
        rfl
      · rw [List.getElem?_set_ne (by omega), e2, e]
        have : t % 9 ≠ 4 := by omega
        have h3 : t % 9 = 0 ∨ t % 9 = 1 ∨ t % 9 = 2 ∨ t % 9 = 3 ∨ t % 9 = 5 ∨ t % 9 = 6 ∨ t % 9 = 7 ∨ t % 9 = 8 := by omega
        rcases h3 with h3 | h3 | h3 | h3 | h3 | h3 | h3 | h3 <;> rw [h3] <;> rfl
    · rw [put_ne _ _ _ e, List.getElem?_set_ne (by omega), e2]
  · rw [List.getElem?_eq_none (by rw [List.length_set, podCs_len]; omega), List.getElem?_eq_none (by rw [podCs_len]; omega)]

/-- A row of the call's own can be spoiled. -/
theorem spi_row {w : World} {base n g c : Nat} {Q : Nat → PodV} (h : RowP w base (.slice (some ⟨g, 0, none⟩) n c) n Q) (E : Nat → Prop) (hE : ∀ k, base ≤ k → k < w.heap.size → E k) : SpI w E g 0 n Q where
  id := fun j hj => ⟨_, (row_cel h.row hj).e0⟩
  rq := fun j hj => (row_cel h.row hj).e4
  fz := fun j _ => h.row.frozenAt _
  d := fun _ => hE _ (h.row.lt g rfl).1 (h.row.lt g rfl).2
  el := fun j hj hm => by
    have r := h.own j hj
    obtain ⟨g', cap, e, hb, hl⟩ := World.ownsRow.form r hm
    simp only [Value.slice.injEq, true_and] at e
    refine ⟨g', 0, e.1, hE _ hb hl, fun e2 => ?_, fun k hk => ?_⟩
    · subst e2
      have ap := rows_apart r h.row (by decide)
      rw [e.1] at ap
      rcases ap with ap | ap
      · cases ap
      · exact ap rfl
    · unfold Req at r
      rw [e.1] at r
      refine ⟨?_, (Q j).Z k, ?_⟩
      · rw [Nat.zero_add]; exact r.frozenAt k
      · rw [Nat.zero_add, r.cellAt k (by omega)]
        simp [rowL, hk]
/-- .. and so can a sorted copy. -/
theorem spi_all {w w' : World} {L : List PodV} {n g : Nat} {S : Nat → PodV} (h : AllIs w w' L n (.slice (some ⟨g, 0, none⟩) n n) S) : SpI w' (fun k => w.heap.size ≤ k) g 0 n S := by
  obtain ⟨k, ⟨g', e, hg, hl, hz, hR, hq⟩, p, s⟩ := h
  simp only [Value.slice.injEq, Option.some.injEq, Addr.mk.injEq, and_true] at e
  subst e
  have cel : ∀ j, j < n → Cel9 w' g (0 + j * 9) (S j) := fun j hj => by
    obtain ⟨b, off, e, hc⟩ := hR.adr (by omega)
    simp only [Option.some.injEq, Addr.mk.injEq, and_true] at e
    obtain ⟨rfl, rfl⟩ := e
    exact hc j hj
  refine ⟨fun j hj => ⟨_, (cel j hj).e0⟩, fun j hj => (cel j hj).e4, fun j hj => by rw [Nat.zero_add]; exact hz _ (by omega), fun _ => hg, fun j hj hm => ?_⟩
  obtain ⟨r, _, ne⟩ := hq j hj
  obtain ⟨g2, cap, e, hb, hl2⟩ := World.ownsRow.form r hm
  simp only [Value.slice.injEq, true_and] at e
  refine ⟨g2, 0, e.1, hb, fun e2 => ?_, fun k hk => ?_⟩
  · rw [e.1, e2] at ne
    exact ne rfl
  · unfold Req at r
    rw [e.1] at r
    refine ⟨?_, (S j).Z k, ?_⟩
    · rw [Nat.zero_add]; exact r.frozenAt k
    · rw [Nat.zero_add, r.cellAt k (by omega)]
      simp [rowL, hk]
/-- .. and so can a list of one pod just laid. -/
theorem spi_one {w : World} {base : Nat} {x : PodV} (h : Req w base x) (E : Nat → Prop) (hE : ∀ k, base ≤ k → E k) (hb : base ≤ w.heap.size) :
    SpI (w.alloc (.cells #[.int .i64 x.k, .int .i64 x.p, .bool x.f, .int .i64 x.g, .slice x.A x.m x.c, .int .i64 x.a, .int .i64 x.h, .int .i64 x.d, .int .i64 x.t] 32)) E w.heap.size 0 1 (fun t => [x].getD t x) := by
  have C := Cel9.new w x 32 _ rfl
  have hb2 := heap_alloc_new w (.cells #[.int .i64 x.k, .int .i64 x.p, .bool x.f, .int .i64 x.g, .slice x.A x.m x.c, .int .i64 x.a, .int .i64 x.h, .int .i64 x.d, .int .i64 x.t] 32)
  have r := own_keep h (Keep.one w (.cells #[.int .i64 x.k, .int .i64 x.p, .bool x.f, .int .i64 x.g, .slice x.A x.m x.c, .int .i64 x.a, .int .i64 x.h, .int .i64 x.d, .int .i64 x.t] 32))
  refine ⟨fun j hj => ?_, fun j hj => ?_, fun j hj => frozen_of_row _ _ _ _ _ hb2, fun _ => hE _ hb, fun j hj hm => ?_⟩
  · obtain rfl : j = 0 := by omega
    exact ⟨_, C.e0⟩
  · obtain rfl : j = 0 := by omega
    exact C.e4
  · obtain rfl : j = 0 := by omega
    obtain ⟨g, cap, e, hb3, hl⟩ := World.ownsRow.form h hm
    simp only [Value.slice.injEq, true_and] at e
    have e1 : x.A = some ⟨g, 0, none⟩ := e.1
    refine ⟨g, 0, e1, hE _ hb3, by omega, fun k hk => ?_⟩
    have hk : k < x.m := hk
    have key : ∀ W : World, Req W base x → W.frozen? ⟨g, 0 + k, none⟩ = false ∧ ∃ z, W.cell? ⟨g, 0 + k, none⟩ = some (.int .i64 z) := fun W r => by
      unfold Req at r
      rw [e1] at r
      refine ⟨?_, x.Z k, ?_⟩
      · rw [Nat.zero_add]; exact r.frozenAt k
      · rw [Nat.zero_add, r.cellAt k (by omega)]
        simp [rowL, hk]
    exact key _ r
end Go.Proofs.Ytmmpmpdjcmilkaa
