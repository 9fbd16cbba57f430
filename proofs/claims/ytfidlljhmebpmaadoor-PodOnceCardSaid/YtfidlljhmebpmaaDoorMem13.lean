/-
  The store's memory: its struct, its row of pods with their requests, its table of places. No condition.
-/
import Derived.Test.YtfidlljhmebpmaaDoorCon13
import Derived.Test.YtfidlljhmebpmaaDoorTab13
namespace Go.Proofs.YtfidlljhmebpmaaDoor.T13
open Go.RowKit Go.Sort Go.Lib V12
open Go.ChangeMaps (setBlock)

/-- The table's pairs: ids and places. -/
def prs (P : Nat → PodV) (n : Nat) : List (Int × Value) := (List.range n).map fun j => ((P j).k, .int .i64 j)
theorem prs_len (P : Nat → PodV) (n : Nat) : (prs P n).length = n := by simp [prs]
theorem prs_keys (P : Nat → PodV) (n : Nat) : (prs P n).map (·.1) = keys (lst P n) := by unfold prs keys lst; rw [List.map_map, List.map_map]; rfl
theorem prs_congr {P Q : Nat → PodV} {n : Nat} (h : ∀ j, j < n → (P j).k = (Q j).k) : prs P n = prs Q n := List.map_congr_left fun j hj => by
  show ((P j).k, Value.int .i64 j) = ((Q j).k, Value.int .i64 j)
  rw [h j (List.mem_range.1 hj)]
theorem prs_succ (P : Nat → PodV) (n : Nat) (x : PodV) : prs (put P n x) (n + 1) = prs P n ++ [(x.k, .int .i64 n)] := by
  have e : prs (put P n x) n = prs P n := prs_congr fun j hj => by rw [put_ne _ _ _ (by omega)]
  rw [← e]
  unfold prs
  rw [List.range_succ, List.map_append, List.map_singleton, put_at]
structure ST (w : World) (b0 : Nat) (s : Int) (q t m : Nat) (A : Option Addr) (c n : Nat) (P : Nat → PodV) : Prop where
  hq : w.heap[q]? = some (.cells #[.slice A n c, .pointer (some ⟨t, 0, none⟩)] 61 (0, 0))
  tb : TMI w (if 0 ≤ s then s else 0) t m (prs P n)
  rp : RowP w b0 (.slice A n c) n P
  bq : b0 ≤ q
  bt : b0 ≤ t
  bm : b0 ≤ m
  lk : LOk ((lst P n).map nm)
/-- All its blocks. -/
def FE (q t m : Nat) (A : Option Addr) (c n : Nat) (P : Nat → PodV) (i : Nat) : Prop := i = q ∨ i = t ∨ i = m ∨ (Value.slice A n c).ownBlock = some i ∨ ∃ j, j < n ∧ (Value.slice (P j).A (P j).m (P j).c).ownBlock = some i
section
variable {w w' : World} {b0 : Nat} {s : Int} {q t m : Nat} {A : Option Addr} {c n : Nat} {P : Nat → PodV}
theorem ST.keep (h : ST w b0 s q t m A c n P) (k : Keep w w') : ST w' b0 s q t m A c n P := ⟨k.block h.hq, h.tb.keep k, h.rp.keep k, h.bq, h.bt, h.bm, h.lk⟩
theorem ST.frame (h : ST w b0 s q t m A c n P) (f : ∀ i, FE q t m A c n P i → w'.heap[i]? = w.heap[i]?) : ST w' b0 s q t m A c n P := by
  refine ⟨(f q (Or.inl rfl)).trans h.hq, ⟨(f t (Or.inr (Or.inl rfl))).trans h.tb.hp, h.tb.mp.of (f m (Or.inr (Or.inr (Or.inl rfl)))), h.tb.lo, h.tb.hi, h.tb.len⟩, ⟨?_, fun j hj => ?_, h.rp.ok⟩, h.bq, h.bt, h.bm, h.lk⟩
  · exact own_blocks1 h.rp.row fun g hg => f g (Or.inr (Or.inr (Or.inr (Or.inl hg))))
  · exact own_blocks1 (h.rp.own j hj) fun g hg => f g (Or.inr (Or.inr (Or.inr (Or.inr ⟨j, hj, hg⟩))))
theorem lt_blk {w : World} {k : Nat} {o : Obj} (h : w.heap[k]? = some o) : k < w.heap.size := (Array.getElem?_eq_some_iff.1 h).1
theorem ST.lt (h : ST w b0 s q t m A c n P) : ∀ i, FE q t m A c n P i → b0 ≤ i ∧ i < w.heap.size := by
  rintro i (rfl | rfl | rfl | h1 | ⟨j, hj, h1⟩)
  · exact ⟨h.bq, lt_blk h.hq⟩
  · exact ⟨h.bt, h.tb.plt⟩
  · exact ⟨h.bm, h.tb.mlt⟩
  · exact h.rp.row.lt i h1
  · exact (h.rp.own j hj).lt i h1
/-- What lies in the map's block is no cells. -/
theorem ST.mp (h : ST w b0 s q t m A c n P) : ∃ es x, w.heap[m]? = some (.map es x) := by
  obtain ⟨es, x, e, _⟩ := h.tb.mp.length_le
  exact ⟨es, x, e⟩
theorem ST.off (h : ST w b0 s q t m A c n P) {a : Addr} {v : Value} (hc : w.cell? a = some v) : ¬ a.block = m := fun e => by
  obtain ⟨es, x, e2⟩ := h.mp
  simp [World.cell?, e, e2] at hc
theorem ST.offT (h : ST w b0 s q t m A c n P) {b : Nat} {T : TypeId} (hT : Typ w b T) : ¬ b = m := fun e => by
  obtain ⟨es, x, e2⟩ := h.mp
  obtain ⟨cs, loc, e3⟩ := hT
  rw [e, e2] at e3
  cases e3
theorem typ_one {w : World} {b : Nat} {T T2 : TypeId} (h : Typ w b T) (k : Typ w b T2) : T = T2 := by
  obtain ⟨cs, loc, e⟩ := h
  obtain ⟨cs2, loc2, e2⟩ := k
  rw [e] at e2
  simp at e2
  exact e2.2.1
theorem own_typ {w : World} {base n z : Nat} {T : TypeId} {v : Value} {xs : List Value} (h : w.ownsRow base T z v n xs) {g : Nat} (hg : v.ownBlock = some g) : Typ w g T := by
  obtain ⟨cur, e⟩ := row_kind h hg
  exact ⟨cur, _, e⟩
theorem ST.tq (h : ST w b0 s q t m A c n P) : Typ w q 61 := ⟨_, _, h.hq⟩
theorem ST.tt (h : ST w b0 s q t m A c n P) : Typ w t 85 := ⟨_, _, h.tb.hp⟩
theorem ST.tg (h : ST w b0 s q t m A c n P) {g : Nat} (hg : (Value.slice A n c).ownBlock = some g) : Typ w g 32 := own_typ h.rp.row hg
theorem ST.tr (h : ST w b0 s q t m A c n P) {j : Nat} (hj : j < n) {g : Nat} (hg : (Value.slice (P j).A (P j).m (P j).c).ownBlock = some g) : Typ w g 2 := own_typ (h.rp.own j hj) hg
theorem ST.c0 (h : ST w b0 s q t m A c n P) : w.cell? ⟨q, 0, none⟩ = some (.slice A n c) := by rw [cell_of_row w q _ _ _ _ h.hq]; rfl
theorem ST.c1 (h : ST w b0 s q t m A c n P) : w.cell? ⟨q, 1, none⟩ = some (.pointer (some ⟨t, 0, none⟩)) := by rw [cell_of_row w q _ _ _ _ h.hq]; rfl
theorem ST.f0 (h : ST w b0 s q t m A c n P) (i : Nat) : w.frozen? ⟨q, i, none⟩ = false := frozen_of_row w q i _ _ h.hq
theorem ST.nodup (h : ST w b0 s q t m A c n P) : ((prs P n).map (·.1)).Nodup := by
  rw [prs_keys, ← keys_nm]
  exact h.lk.nod
theorem ST.look_in (h : ST w b0 s q t m A c n P) {j : Nat} (hj : j < n) : MV.lookV (prs P n) (P j).k = some (.int .i64 j) := by
  rw [MV.look_mem h.nodup]
  exact List.mem_map.2 ⟨j, List.mem_range.2 hj, rfl⟩
theorem look_out {P : Nat → PodV} {n : Nat} {id : Int} (h : id ∉ keys (lst P n)) : MV.lookV (prs P n) id = none := by
  rw [MV.look_none, prs_keys]
  exact h
theorem key_at {P : Nat → PodV} {n : Nat} {id : Int} (h : id ∈ keys (lst P n)) : ∃ j, j < n ∧ (P j).k = id := by
  obtain ⟨y, hy, e⟩ := List.mem_map.1 h
  obtain ⟨j, hj, rfl⟩ := lst_mem.1 hy
  exact ⟨j, hj, e⟩
theorem key_in {P : Nat → PodV} {n j : Nat} (hj : j < n) : (P j).k ∈ keys (lst P n) := List.mem_map.2 ⟨P j, lst_mem.2 ⟨j, hj, rfl⟩, rfl⟩
theorem ST.uniq (h : ST w b0 s q t m A c n P) {i j : Nat} (hi : i < n) (hj : j < n) (e : (P i).k = (P j).k) : i = j := by
  have h1 := h.look_in hi
  rw [e, h.look_in hj] at h1
  simp at h1
  omega
theorem ST.get (h : ST w b0 s q t m A c n P) {j : Nat} (hj : j < n) : getL (lst P n) (P j).k = P j :=
  get_first hj rfl fun i hi e => by
    have := h.uniq (by omega) hj e
    omega
/-- The map has another pair: the row as it was. -/
theorem ErrT.off {w w' : World} (hg : ErrT w) (h : ST w b0 s q t m A c n P) (f : Fr (· = m) w w') : ErrT w' := f.cell hg (h.off hg)
end
/-- The store of the laws. -/
def OSd : Pred := fun w s q L X w1 => ∃ t m A c P, ST w1 w.heap.size s q t m A c L.length P ∧ (lst P L.length).map nm = L ∧ Keep w w1 ∧ ∀ i, X i → i < w1.heap.size ∧ ¬ FE q t m A c L.length P i
section
variable {w w1 w2 : World} {s : Int} {q : Nat} {L : List PodV} {X Z : Nat → Prop}
theorem OSd.keep (o : OSd w s q L X w1) (k : Keep w1 w2) : OSd w s q L X w2 := by
  obtain ⟨t, m, A, c, P, h, hL, k0, hX⟩ := o
  exact ⟨t, m, A, c, P, h.keep k, hL, k0.trans k, fun i hi => ⟨Nat.lt_of_lt_of_le (hX i hi).1 k.size, (hX i hi).2⟩⟩
theorem OSd.more (o : OSd w s q L X w1) (k : Keep w1 w2) (hZ : ∀ i, Z i → w1.heap.size ≤ i ∧ i < w2.heap.size) : OSd w s q L (fun i => X i ∨ Z i) w2 := by
  obtain ⟨t, m, A, c, P, h, hL, k0, hX⟩ := o
  refine ⟨t, m, A, c, P, h.keep k, hL, k0.trans k, ?_⟩
  rintro i (hi | hi)
  · exact ⟨Nat.lt_of_lt_of_le (hX i hi).1 k.size, (hX i hi).2⟩
  · exact ⟨(hZ i hi).2, fun hF => by have := (h.lt i hF).2; have := (hZ i hi).1; omega⟩
theorem OSd.less (o : OSd w s q L X w1) (hZ : ∀ i, Z i → X i) : OSd w s q L Z w1 := by
  obtain ⟨t, m, A, c, P, h, hL, k0, hX⟩ := o
  exact ⟨t, m, A, c, P, h, hL, k0, fun i hi => hX i (hZ i hi)⟩
theorem OSd.write (o : OSd w s q L X w1) (k : Keep w w2) (hs : w1.heap.size ≤ w2.heap.size) (f : ∀ i, i < w1.heap.size → ¬ X i → w2.heap[i]? = w1.heap[i]?) : OSd w s q L X w2 := by
  obtain ⟨t, m, A, c, P, h, hL, k0, hX⟩ := o
  exact ⟨t, m, A, c, P, h.frame fun i hi => f i (h.lt i hi).2 fun hx => (hX i hx).2 hi, hL, k, fun i hi => ⟨Nat.lt_of_lt_of_le (hX i hi).1 hs, (hX i hi).2⟩⟩
theorem OSd.grow (o : OSd w s q L X w1) (k : Keep w w2) (hs : w1.heap.size ≤ w2.heap.size) (f : ∀ i, i < w1.heap.size → ¬ X i → w2.heap[i]? = w1.heap[i]?) (hZ : ∀ i, Z i → w1.heap.size ≤ i ∧ i < w2.heap.size) : OSd w s q L (fun i => X i ∨ Z i) w2 := by
  obtain ⟨t, m, A, c, P, h, hL, k0, hX⟩ := o
  refine ⟨t, m, A, c, P, h.frame fun i hi => f i (h.lt i hi).2 fun hx => (hX i hx).2 hi, hL, k, ?_⟩
  rintro i (hi | hi)
  · exact ⟨Nat.lt_of_lt_of_le (hX i hi).1 hs, (hX i hi).2⟩
  · exact ⟨(hZ i hi).2, fun hF => by have := (h.lt i hF).2; have := (hZ i hi).1; omega⟩
end
end Go.Proofs.YtfidlljhmebpmaaDoor.T13
