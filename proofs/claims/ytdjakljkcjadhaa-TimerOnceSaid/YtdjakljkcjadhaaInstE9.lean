/-
  Due of a list of timers; all contracts together. No condition.
-/
import Derived.Test.YtdjakljkcjadhaaInstD9
namespace Go.Proofs.Ytdjakljkcjadhaa.T9
open Go.RowKit Go.Sort Go.Lib Go.Shelf

theorem row_is {L : List TmV} {j : Nat} (h : j < L.length) : L[j]? = some (row L j) := by
  unfold row
  rw [List.getD_eq_getElem?_getD, List.getElem?_eq_getElem h]
  rfl
theorem row_from (L : List TmV) (m j : Nat) : row (L.drop m) j = row L (m + j) := by
  unfold row
  rw [List.getD_eq_getElem?_getD, List.getD_eq_getElem?_getD, List.getElem?_drop]
theorem drop_row {L : List TmV} {j : Nat} (h : j < L.length) : L.drop j = row L j :: L.drop (j + 1) := by
  rw [List.drop_eq_getElem_cons h]
  congr 1
  have := row_is h
  rw [List.getElem?_eq_getElem h] at this
  exact Option.some.inj this
theorem tm_cells {w : World} {s : Nat} {x : TmV} (h : w.heap[s]? = some (.cells #[.int .i64 x.k, .int .i64 x.t, .int .i64 x.a] 33 (0, 0))) : w.cell? ⟨s, 0, none⟩ = some (.int .i64 x.k) ∧ w.cell? ⟨s, 1, none⟩ = some (.int .i64 x.t) ∧ w.cell? ⟨s, 2, none⟩ = some (.int .i64 x.a) ∧ w.frozen? ⟨s, 0, none⟩ = false ∧ w.frozen? ⟨s, 1, none⟩ = false ∧ w.frozen? ⟨s, 2, none⟩ = false :=
  ⟨by rw [cell_of_row w _ _ _ _ _ h]; rfl, by rw [cell_of_row w _ _ _ _ _ h]; rfl, by rw [cell_of_row w _ _ _ _ _ h]; rfl, frozen_of_row w _ _ _ _ h, frozen_of_row w _ _ _ _ h, frozen_of_row w _ _ _ _ h⟩
theorem tri_set {w : World} {s : Nat} {p q r u : Value} (h : w.heap[s]? = some (.cells #[p, q, r] 33 (0, 0))) :
    (w.setCell ⟨s, 0, none⟩ u).heap[s]? = some (.cells #[u, q, r] 33 (0, 0)) ∧ (w.setCell ⟨s, 1, none⟩ u).heap[s]? = some (.cells #[p, u, r] 33 (0, 0)) ∧ (w.setCell ⟨s, 2, none⟩ u).heap[s]? = some (.cells #[p, q, u] 33 (0, 0)) := by
  have hlt := lt_of_block h
  have h' : w.heap[s] = .cells #[p, q, r] 33 (0, 0) := by simpa [Array.getElem?_eq_getElem hlt] using h
  refine ⟨?_, ?_, ?_⟩
  all_goals
    show (w.heap.modify s _)[s]? = _
    rw [Array.getElem?_eq_getElem (by simpa using hlt), Array.getElem_modify_self, h']
    rfl
/-- A timer's block after three stores. -/
theorem set3_heap {w : World} {s : Nat} {p q r : Value} (x : TmV) (h : w.heap[s]? = some (.cells #[p, q, r] 33 (0, 0))) :
    (((w.setCell ⟨s, 0, none⟩ (.int .i64 x.k)).setCell ⟨s, 1, none⟩ (.int .i64 x.t)).setCell ⟨s, 2, none⟩ (.int .i64 x.a)).heap[s]? = some (.cells #[.int .i64 x.k, .int .i64 x.t, .int .i64 x.a] 33 (0, 0)) :=
  (tri_set (tri_set (tri_set h).1).2.1).2.2
theorem tset3_keep {w0 w : World} {s : Nat} (x : TmV) (k : Keep w0 w) (hs : w0.heap.size ≤ s) : Keep w0 (((w.setCell ⟨s, 0, none⟩ (.int .i64 x.k)).setCell ⟨s, 1, none⟩ (.int .i64 x.t)).setCell ⟨s, 2, none⟩ (.int .i64 x.a)) :=
  ((k.set hs _).set hs _).set hs _

set_option maxRecDepth 100000 in
set_option maxHeartbeats 8000000 in
theorem tdue_fn {w : World} {b bq : Nat} {D : Nat → Prop} {L : List TmV} (now : Int) (h : TI w b bq D L) :
    Calls Try.prog 16 #[.pointer (some ⟨bq, 0, none⟩), .int .i64 now] w fun e w' => ∃ B d, e = .returned (.slice B (dueN now L) d) ∧ w'.ownsRow w.heap.size 33 3 (.slice B (dueN now L) d) (dueN now L) (tmCs (row L) (dueN now L)) ∧ ∃ D', TI w' b bq D' (L.drop (dueN now L)) ∧ Fr D w w' ∧ (∀ k, D' k → D k ∨ w.heap.size ≤ k) ∧ Off D' B (dueN now L) := by
  have hl : Hid (L.length ≤ 1000) := by
    obtain ⟨n, Q, ⟨B, A, c, h1, _⟩, _, p, _⟩ := h
    show _ ≤ _
    rw [TI.len_eq p]
    exact h1.lim
  have lo : Hid (∀ k, D k → b ≤ k ∧ k < w.heap.size) := h.lo
  have srt : Hid (Srt L) := by obtain ⟨_, _, _, _, _, s, _⟩ := h; exact s
  obtain ⟨m, hm⟩ : ∃ m, m = dueN now L := ⟨_, rfl⟩
  rw [← hm]
  have hml : Hid (m ≤ L.length) := by show _ ≤ _; rw [hm]; exact due_le now L
  have h1000 : m ≤ 1000 := Nat.le_trans hml.out hl.out
  replace hm := Lib.hid hm
  have T0 : Hid (TI w b bq D (L.drop 0)) := h
  have cN : Hid (∀ W j, TI W b bq D (L.drop j) → Calls Try.prog 11 #[.pointer (some ⟨bq, 0, none⟩)] W fun e w' => e = .returned (.tuple #[.agg #[.int .i64 (row L j).k, .int .i64 (row L j).t, .int .i64 (row L j).a], .bool (decide (j < L.length))]) ∧ Keep W w') := fun W j h => by
    have := tnext_fn h
    rw [row_from, Nat.add_zero] at this
    have e : decide (L.drop j ≠ []) = decide (j < L.length) := by
      rw [decide_eq_decide, Ne, List.drop_eq_nil_iff]
      omega
    rw [e] at this
    exact this
  clear h
  go_enter Try.func16, Try.ntmps16
  go_wp2_with fail
  refine (cN.out _ 0 T0.out).mono ?_
  rintro e w1 ⟨rfl, k1⟩
  obtain ⟨x, hx⟩ : ∃ x, x = row L 0 := ⟨_, rfl⟩
  obtain ⟨z, hz⟩ : ∃ z, z = decide (0 < L.length) := ⟨_, rfl⟩
  rw [← hx, ← hz]
  replace hx := Lib.hid hx
  replace hz := Lib.hid hz
  replace k1 := Lib.hid k1
  go_wp2
  go_loopg [5, 6, 7] m (fun gx s5 s6 s7 wr => ∃ (j s d : Nat) (B : Option Addr) (x : TmV) (z : Bool), j ≤ m ∧ gx = m - j ∧ s5 = .slice B j d ∧ s6 = .pointer (some ⟨s, 0, none⟩) ∧ s7 = .bool z ∧ Hid (z = decide (j < L.length)) ∧ Hid (x = row L j) ∧ Hid (wr.heap[s]? = some (.cells #[.int .i64 x.k, .int .i64 x.t, .int .i64 x.a] 33 (0, 0))) ∧ Hid (w.heap.size ≤ s) ∧ Hid (∀ g, (Value.slice B j d).ownBlock = some g → g < s) ∧ Hid (wr.ownsRow w.heap.size 33 3 (.slice B j d) j (tmCs (row L) j)) ∧ Hid (TI wr b bq D (L.drop j)) ∧ Hid (Fr D w wr))
  case atStart =>
    have kk := Keep.one w1 (.cells #[.int .i64 x.k, .int .i64 x.t, .int .i64 x.a] 33)
    exact ⟨0, w1.heap.size, 0, none, x, z, Nat.zero_le _, rfl, rfl, rfl, rfl, hz, hx, heap_alloc_new _ _, k1.out.size, (fun g h => by cases h), World.ownsRow_nil _ _ _ _, (T0.out.keep k1.out).keep kk, Fr.of (k1.out.trans kk)⟩
  case round =>
    clear k1 hx hz T0
    obtain ⟨j, s, d, B, x, z, hj, rfl, rfl, rfl, rfl, hz, hx, hs, hws, hgs, RW, TR, FR⟩ := hrel
    obtain ⟨c0, c1, c2, -, -, -⟩ := tm_cells hs.out
    have fin : Hid (j = m → (z = false ∨ now < x.t)) := fun e => by
      by_cases hjl : j < L.length
      · right
        rw [hx.out]
        exact due_ge srt.out (by rw [← hm.out]; omega) (row_is hjl)
      · left
        rw [hz.out]
        exact decide_eq_false hjl
    by_cases hlt : j < m
    · have hjl : Hid (j < L.length) := by have := hml.out; show _ < _; omega
      have hle : x.t ≤ now := by
        rw [hx.out]
        exact due_lt (now := now) (L := L) (j := j) (by rw [← hm.out]; exact hlt) (row_is hjl.out)
      obtain rfl : z = true := by rw [hz.out]; exact decide_eq_true hjl.out
      have TC : Hid (TI wr b bq D (row L j :: L.drop (j + 1))) := by
        show TI _ _ _ _ _
        rw [← drop_row hjl.out]
        exact TR.out
      have cP := Lib.hid (tpop_fn TC.out)
      have slt : Hid (s < wr.heap.size) := lt_of_block hs.out
      obtain ⟨y, hy⟩ : ∃ y, y = x.t := ⟨_, rfl⟩
      rw [← hy] at c1 hle
      replace hy := Lib.hid hy
      clear fin
      go_wp2_with fail
      refine cP.out.mono ?_
      rintro e w2 ⟨⟨v, rfl⟩, T2, F2⟩
      have nds : Hid (¬ D s) := fun hd => by have := (lo.out s hd).2; have := hws.out; omega
      have hs2 : w2.heap[s]? = some (.cells #[.int .i64 x.k, .int .i64 x.t, .int .i64 x.a] 33 (0, 0)) := (F2.block s slt.out nds.out).trans hs.out
      have sz2 : Hid (wr.heap.size ≤ w2.heap.size) := F2.size
      have F02 : Hid (Fr D w w2) := FR.out.same F2
      have RW2 : Hid (w2.ownsRow w.heap.size 33 3 (.slice B j d) j (tmCs (row L) j)) := own_blocks1 RW.out fun g hg => F2.block g (RW.out.lt g hg).2 (fun hd => by have := (lo.out g hd).2; have := (RW.out.lt g hg).1; omega)
      obtain ⟨c0, c1, c2, -, -, -⟩ := tm_cells hs2
      replace hs2 := Lib.hid hs2
      replace T2 := Lib.hid T2
      replace F2 := Lib.hid F2
      have wsz : Hid (w.heap.size ≤ w2.heap.size) := Nat.le_trans (Nat.le_trans hws.out (Nat.le_of_lt slt.out)) sz2.out
      have CF : Hid (∀ v3 w3, w3.ownsRow w.heap.size 33 3 v3 (j + 1) (tmCs (row L) j ++ x.cells) → (w2.alloc (.cells #[.int .i64 x.k, .int .i64 x.t, .int .i64 x.a] 33)).grownBy w3 (Value.slice B j d).ownBlock →
          (w3.cell? ⟨s, 0, none⟩ = some (.int .i64 x.k) ∧ w3.cell? ⟨s, 1, none⟩ = some (.int .i64 x.t) ∧ w3.cell? ⟨s, 2, none⟩ = some (.int .i64 x.a)) ∧ ∃ B4 d4, v3 = .slice B4 (j + 1) d4 ∧ Hid (w3.ownsRow w.heap.size 33 3 (.slice B4 (j + 1) d4) (j + 1) (tmCs (row L) (j + 1)) ∧ (∀ g, (Value.slice B4 (j + 1) d4).ownBlock = some g → g < w3.heap.size) ∧ TI w3 b bq D (L.drop (j + 1)) ∧ Fr D w w3)) := by
        intro v3 w3 hr3 hg3
        have ka : Keep w2 (w2.alloc (.cells #[.int .i64 x.k, .int .i64 x.t, .int .i64 x.a] 33)) := Keep.one _ _
        have hs3 : w3.heap[s]? = some (.cells #[.int .i64 x.k, .int .i64 x.t, .int .i64 x.a] 33 (0, 0)) := by
          rw [hg3.block s (by rw [World.size_alloc]; have := slt.out; have := sz2.out; omega) (fun e => by have := hgs.out s e.symm; omega)]
          exact ka.block hs2.out
        obtain ⟨e0, e1, e2, -, -, -⟩ := tm_cells hs3
        obtain ⟨B4, d4, rfl, _⟩ := own_form hr3
        have hF : Fr (fun k => w.heap.size ≤ k) w2 w3 := Fr.after ka (Fr.grown hg3 fun g e => Or.inl (RW.out.lt g e).1)
        refine ⟨⟨e0, e1, e2⟩, B4, d4, rfl, ?_, fun g e => (hr3.lt g e).2, T2.out.fr hF (fun k hk => by have := (lo.out k hk).2; omega), ?_⟩
        · rw [tmCs, ← hx.out]
          exact hr3
        · exact F02.out.trans hF fun i h => Or.inr h
      go_wp2_with (at_builtin; refine wpl_own Try.tyT9 rfl _ _ rfl w.heap.size (.slice B j d) j (tmCs (row L) j) (by simp [Act.eval]) (own_keep RW2.out (Keep.one _ _)) (.slice (some ⟨w2.heap.size, 0, none⟩) 1 1) 1 x.cells (by simp [Act.eval]) (src_one (heap_alloc_new _ _)) (cells_one _) (by omega) (by rw [World.size_alloc]; have := wsz.out; omega) (j + 1) rfl ?_; intro v3 w3 hr3 hg3; obtain ⟨⟨e0, e1, e2⟩, B4, d4, rfl, H4⟩ := CF.out v3 w3 hr3 hg3; clear hr3 hg3)
      have K34 : Hid (Keep w3 (w3.alloc (.cells #[.int .i64 x.k, .int .i64 x.t, .int .i64 x.a] 33))) := Keep.one _ _
      have hb4 : (w3.alloc (.cells #[.int .i64 x.k, .int .i64 x.t, .int .i64 x.a] 33)).heap[w3.heap.size]? = some (.cells #[.int .i64 x.k, .int .i64 x.t, .int .i64 x.a] 33 (0, 0)) := heap_alloc_new _ _
      have s3 : Hid (w.heap.size ≤ w3.heap.size) := H4.out.2.2.2.size
      obtain ⟨s', hs'⟩ : ∃ s', s' = w3.heap.size := ⟨_, rfl⟩
      rw [← hs'] at hb4 ⊢
      replace hs' := Lib.hid hs'
      generalize w3.alloc (.cells #[.int .i64 x.k, .int .i64 x.t, .int .i64 x.a] 33) = w4 at *
      refine (cN.out _ (j + 1) (H4.out.2.2.1.keep K34.out)).mono ?_
      rintro e w5 ⟨rfl, k5⟩
      have hb5 := k5.block hb4
      have K5 : Hid (Keep w3 w5) := K34.out.trans k5
      obtain ⟨b0, b1, b2, f0, f1, f2⟩ := tm_cells hb5
      obtain ⟨y', hy'⟩ : ∃ y', y' = row L (j + 1) := ⟨_, rfl⟩
      obtain ⟨z', hz'⟩ : ∃ z', z' = decide (j + 1 < L.length) := ⟨_, rfl⟩
      rw [← hy', ← hz']
      replace hy' := Lib.hid hy'
      replace hz' := Lib.hid hz'
      replace k5 := Lib.hid k5
      have hb6 : Hid (((((w5.setCell ⟨s', 0, none⟩ (.int .i64 y'.k)).setCell ⟨s', 1, none⟩ (.int .i64 y'.t)).setCell ⟨s', 2, none⟩ (.int .i64 y'.a))).heap[s']? = some (.cells #[.int .i64 y'.k, .int .i64 y'.t, .int .i64 y'.a] 33 (0, 0))) := set3_heap y' hb5
      have K6 : Hid (Keep w3 (((w5.setCell ⟨s', 0, none⟩ (.int .i64 y'.k)).setCell ⟨s', 1, none⟩ (.int .i64 y'.t)).setCell ⟨s', 2, none⟩ (.int .i64 y'.a))) := tset3_keep y' K5.out (Nat.le_of_eq hs'.out.symm)
      clear hb4 c0 c1 c2
      replace hb5 := Lib.hid hb5
      go_wp2
      go_roundg (m - (j + 1))
      case measure => omega
      case rel =>
        exact ⟨j + 1, s', d4, B4, y', z', hlt, rfl, rfl, rfl, rfl, hz', hy', hb6, (by show _ ≤ s'; rw [hs'.out]; exact s3.out), (by rw [hs'.out]; exact H4.out.2.1), own_keep H4.out.1 K6.out, H4.out.2.2.1.keep K6.out, H4.out.2.2.2.keep K6.out⟩
    · obtain rfl : j = m := by omega
      have off : Hid (Off D B j) := fun g o e hp hd => by
        have := (lo.out g hd).2
        have := (RW.out.lt g (by rw [e]; rfl)).1
        omega
      rcases fin.out rfl with rfl | hgt
      · clear fin
        go_wp2
        go_ret
        exact ⟨B, d, rfl, RW.out, D, TR.out, FR.out, fun k h => Or.inl h, off.out⟩
      · obtain ⟨y, hy⟩ : ∃ y, y = x.t := ⟨_, rfl⟩
        rw [← hy] at c1 hgt
        replace hy := Lib.hid hy
        clear fin
        cases z
        · go_wp2
          go_ret
          exact ⟨B, d, rfl, RW.out, D, TR.out, FR.out, fun k h => Or.inl h, off.out⟩
        · go_wp2
          go_ret
          exact ⟨B, d, rfl, RW.out, D, TR.out, FR.out, fun k h => Or.inl h, off.out⟩

theorem con9 : Con TI where
  keep := fun h k => h.keep k
  fr := fun h f hE => h.fr f hE
  base := fun ⟨n, Q, ⟨B, A, c, h1, e⟩, h2⟩ hb => ⟨n, Q, ⟨B, A, c, h1.base hb, e⟩, h2⟩
  lo := fun h => h.lo
  srt := fun ⟨_, _, _, _, _, s, _⟩ => s
  keys := fun ⟨_, _, _, _, _, _, s⟩ => s
  ok := fun ⟨_, _, ⟨_, _, _, h1, _⟩, _, p, _⟩ x hx => by
    obtain ⟨j, hj, rfl⟩ := lst_mem.1 (p.mem_iff.2 hx)
    exact h1.ok j hj
  new := tnew_fn
  set := fun h hx hl => tset_fn h hx hl
  cancel := fun id h _ => tcancel_fn id h
  due := fun now h _ => tdue_fn now h
  next := fun h => tnext_fn h
  len := fun h => tlen_fn h
  all := fun h => tall_fn h
  setNil := tset_nil
  dueNil := tdue_nil
end Go.Proofs.Ytdjakljkcjadhaa.T9
