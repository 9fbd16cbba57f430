/-
  Swap of two timers of a list's heap. No condition.
-/
import Derived.Test.YtdjakljkcjadhaaQ9
import Derived.BigRegion
namespace Go.Proofs.Ytdjakljkcjadhaa.T9
open Go.RowKit Go.Sort Go.Lib Go.Shelf
open Go.ChangeMaps (setBlock)

def stL (xs : List Value) (o : Nat) : List Value → List Value
  | [] => xs
  | v :: r => stL (xs.set o v) (o + 1) r
theorem stL_get : ∀ (vs xs : List Value) (o i : Nat), o + vs.length ≤ xs.length → (stL xs o vs)[i]? = if o ≤ i ∧ i < o + vs.length then vs[i - o]? else xs[i]?
  | [], xs, o, i, _ => by rw [stL, if_neg (by simp only [List.length_nil]; omega)]
  | v :: r, xs, o, i, h => by
    simp only [List.length_cons] at h
    rw [stL, stL_get r _ _ _ (by rw [List.length_set]; omega), List.length_cons]
    by_cases e : i = o
    · subst e
      rw [if_neg (by omega), if_pos (by omega), Nat.sub_self, List.getElem?_cons_zero, List.getElem?_set_self (by omega)]
    · by_cases e2 : o + 1 ≤ i ∧ i < o + 1 + r.length
      · rw [if_pos e2, if_pos (by omega), show i - o = (i - (o + 1)) + 1 by omega, List.getElem?_cons_succ]
      · rw [if_neg e2, if_neg (by omega), List.getElem?_set_ne (by omega)]
theorem own_storeL {base g n cap : Nat} {e : TypeId} {z : Nat} : ∀ (vs : List Value) (o : Nat) {w : World} {xs : List Value}, w.ownsRow base e z (.slice (some ⟨g, 0, none⟩) n cap) n xs → (w.setCells g o vs).ownsRow base e z (.slice (some ⟨g, 0, none⟩) n cap) n (stL xs o vs)
  | [], _, _, _, h => h
  | v :: r, o, _, _, h => own_storeL r (o + 1) (h.stored o v).1
theorem tmCs_set (Q : Nat → TmV) (n i : Nat) (x : TmV) (hi : i < n) : tmCs (put Q i x) n = stL (tmCs Q n) (i * 3) x.cells := by
  refine List.ext_getElem? fun t => ?_
  rw [stL_get _ _ _ _ (by rw [tmCs_len, cells3]; omega), cells3]
  by_cases ht : t < n * 3
  · have h1 : t / 3 < n := by omega
    have h2 : t % 3 < 3 := Nat.mod_lt _ (by omega)
    have e1 := tmCs_get (put Q i x) n (t / 3) (t % 3) h1 h2
    have e2 := tmCs_get Q n (t / 3) (t % 3) h1 h2
    rw [show t / 3 * 3 + t % 3 = t by omega] at e1 e2
    rw [e1, e2]
    by_cases e : t / 3 = i
    · rw [if_pos (by omega), e, put_at, show t - i * 3 = t % 3 by omega]
    · rw [if_neg (by omega), put_ne _ _ _ e]
  · rw [List.getElem?_eq_none (by rw [tmCs_len]; omega), if_neg (by omega), List.getElem?_eq_none (by rw [tmCs_len]; omega)]
theorem cells_grown (g : Nat) : ∀ (vs : List Value) (o : Nat) (w : World), w.grownBy (w.setCells g o vs) (some g) ∧ (w.setCells g o vs).heap.size = w.heap.size
  | [], _, w => ⟨⟨rfl, rfl, rfl, Nat.le_refl _, fun _ _ _ => rfl⟩, rfl⟩
  | v :: r, o, w => by
    have h2 := cells_grown g r (o + 1) (w.setCell ⟨g, o, none⟩ v)
    have hz : (w.setCell ⟨g, o, none⟩ v).heap.size = w.heap.size := by simp
    refine ⟨⟨h2.1.os, h2.1.tape, h2.1.output, by have := h2.1.size; rw [hz] at this; exact this, fun k hk hn => (h2.1.block k (by rw [hz]; exact hk) hn).trans (Below.heap_setCell w _ v k (fun e => hn (by rw [e])))⟩, h2.2.trans hz⟩
theorem row_store {w : World} {base g n cap : Nat} {Q : Nat → TmV} (h : w.ownsRow base 33 3 (.slice (some ⟨g, 0, none⟩) n cap) n (tmCs Q n)) (i : Nat) (hi : i < n) (x : TmV) : (w.setCells g (i * 3) x.cells).ownsRow base 33 3 (.slice (some ⟨g, 0, none⟩) n cap) n (tmCs (put Q i x) n) := by
  rw [tmCs_set Q n i x hi]; exact own_storeL _ _ h
theorem places_swap {n : Nat} {Q : Nat → TmV} {f : Int → Option Int} (h : Places n Q f) {i j : Nat} (hi : i < n) (hj : j < n) : Places n (swq Q i j) (upd (upd f (Q j).k i) (Q i).k j) := by
  have inj : ∀ s t, s < n → t < n → (Q s).k = (Q t).k → s = t := fun s t hs ht e => by
    have h1 := (h (Q s).k s).2 ⟨s, hs, rfl, rfl⟩
    have h2 := (h (Q s).k t).2 ⟨t, ht, e.symm, rfl⟩
    rw [h1] at h2
    injection h2 with h2
    omega
  intro k v
  unfold upd
  constructor
  · intro hv
    by_cases e1 : k = (Q i).k
    · rw [if_pos e1] at hv
      injection hv with hv
      exact ⟨j, hj, by rw [swq_at, if_pos rfl]; exact e1.symm, hv.symm⟩
    · rw [if_neg e1] at hv
      by_cases e2 : k = (Q j).k
      · rw [if_pos e2] at hv
        injection hv with hv
        refine ⟨i, hi, ?_, hv.symm⟩
        rw [swq_at]
        by_cases e : i = j
        · subst e; exact absurd e2 e1
        · rw [if_neg e, if_pos rfl]; exact e2.symm
      · rw [if_neg e2] at hv
        obtain ⟨t, ht, hk, hv⟩ := (h k v).1 hv
        refine ⟨t, ht, ?_, hv⟩
        rw [swq_at, if_neg (fun e => e2 (by rw [← hk, e])), if_neg (fun e => e1 (by rw [← hk, e]))]
        exact hk
  · rintro ⟨t, ht, hk, rfl⟩
    rw [swq_at] at hk
    by_cases e1 : t = j
    · rw [if_pos e1] at hk
      rw [if_pos hk.symm, e1]
    · rw [if_neg e1] at hk
      by_cases e2 : t = i
      · rw [if_pos e2] at hk
        subst e2
        rw [if_neg (fun e => e1 ((inj _ _ ht hj (by rw [← e, hk])))), if_pos hk.symm]
      · rw [if_neg e2] at hk
        rw [if_neg (fun e => e2 (inj _ _ ht hi (by rw [hk, e]))), if_neg (fun e => e1 (inj _ _ ht hj (by rw [hk, e])))]
        exact (h k t).2 ⟨t, ht, hk, rfl⟩

theorem swq_ok {Q : Nat → TmV} {n i j : Nat} (h : ∀ t, t < n → TmOk (Q t)) (hi : i < n) (hj : j < n) (t : Nat) (ht : t < n) : TmOk (swq Q i j t) := by
  rw [swq_at]
  split
  · exact h i hi
  · split
    · exact h j hj
    · exact h t ht
section
variable {w : World} {b bq B g c n : Nat} {Q : Nat → TmV}
theorem blk2 (g k o1 o2 : Nat) (L1 L2 : List Value) (w : World) (hk : k < w.heap.size) (hn : k ≠ g) : (((w.setCells g o1 L1).setCells g o2 L2).drew).heap[k]? = w.heap[k]? := by
  have hn' : some k ≠ some g := fun e => hn (Option.some.inj e)
  have h1 := cells_grown g L1 o1 w
  have h2 := cells_grown g L2 o2 (w.setCells g o1 L1)
  exact (h2.1.block k (by rw [h1.2]; exact hk) hn').trans (h1.1.block k hk hn')
theorem fr2 (g o1 o2 : Nat) (L1 L2 : List Value) (w : World) (D : Nat → Prop) (hD : D g) : Fr D w (((w.setCells g o1 L1).setCells g o2 L2).drew) ∧ (((w.setCells g o1 L1).setCells g o2 L2).drew).heap.size = w.heap.size := by
  have h1 := cells_grown g L1 o1 w
  have h2 := cells_grown g L2 o2 (w.setCells g o1 L1)
  exact ⟨((Fr.grown h1.1 (fun k hk => Or.inl (Option.some.inj hk ▸ hD))).same (Fr.grown h2.1 (fun k hk => Or.inl (Option.some.inj hk ▸ hD)))).drew, h2.2.trans h1.2⟩
theorem own_drew {base z n : Nat} {e : TypeId} {v : Value} {xs : List Value} (h : w.ownsRow base e z v n xs) : w.drew.ownsRow base e z v n xs := own_blocks1 h fun _ _ => rfl
theorem swap_block (h : TMem w b bq B (some ⟨g, 0, none⟩) c n Q) {i j : Nat} (L1 L2 : List Value) : (((w.setCells g (i * 3) L1).setCells g (j * 3) L2).drew).heap[bq]? = some (.cells #[.slice (some ⟨g, 0, none⟩) n c, .map (some B)] 55 (0, 0)) :=
  (blk2 g bq _ _ L1 L2 w h.lt.1 (fun e => (h.ne.2 g 0 rfl).1 e.symm)).trans h.hq
theorem swap_facts (h : TMem w b bq B (some ⟨g, 0, none⟩) c n Q) {i j : Nat} (hi : i < n) (hj : j < n) : (((w.setCells g (i * 3) (Q j).cells).setCells g (j * 3) (Q i).cells).drew).ownsRow b 33 3 (.slice (some ⟨g, 0, none⟩) n c) n (tmCs (swq Q i j) n) ∧ (((w.setCells g (i * 3) (Q j).cells).setCells g (j * 3) (Q i).cells).drew).cell? ⟨bq, 0, none⟩ = some (.slice (some ⟨g, 0, none⟩) n c) ∧ (((w.setCells g (i * 3) (Q j).cells).setCells g (j * 3) (Q i).cells).drew).cell? ⟨bq, 1, none⟩ = some (.map (some B)) ∧ (((w.setCells g (i * 3) (Q j).cells).setCells g (j * 3) (Q i).cells).drew).cell? ⟨g, i * 3, none⟩ = some (.int .i64 (Q j).k) ∧ (((w.setCells g (i * 3) (Q j).cells).setCells g (j * 3) (Q i).cells).drew).cell? ⟨g, j * 3, none⟩ = some (.int .i64 (Q i).k) ∧ (((w.setCells g (i * 3) (Q j).cells).setCells g (j * 3) (Q i).cells).drew).heap[B]? = w.heap[B]? ∧ Fr (Foot bq B (some ⟨g, 0, none⟩)) w (((w.setCells g (i * 3) (Q j).cells).setCells g (j * 3) (Q i).cells).drew) ∧ (((w.setCells g (i * 3) (Q j).cells).setCells g (j * 3) (Q i).cells).drew).heap.size = w.heap.size := by
  have r2 := own_drew (row_store (row_store h.row i hi (Q j)) j hj (Q i))
  have hb := swap_block h (i := i) (j := j) (Q j).cells (Q i).cells
  have hB := blk2 g B (i * 3) (j * 3) (Q j).cells (Q i).cells w h.lt.2 (fun e => (h.ne.2 g 0 rfl).2 e.symm)
  have hF := fr2 g (i * 3) (j * 3) (Q j).cells (Q i).cells w (Foot bq B (some ⟨g, 0, none⟩)) (Or.inr (Or.inr ⟨0, rfl⟩))
  change World.ownsRow _ b 33 3 (.slice (some ⟨g, 0, none⟩) n c) n (tmCs (swq Q i j) n) at r2
  generalize (((w.setCells g (i * 3) (Q j).cells).setCells g (j * 3) (Q i).cells).drew) = w2 at *
  refine ⟨r2, ?_, ?_, ?_, ?_, hB, hF.1, hF.2⟩
  · rw [cell_of_row _ _ _ _ _ _ hb]; rfl
  · rw [cell_of_row _ _ _ _ _ _ hb]; rfl
  · have := (row_cel r2 hi).e0
    rw [Nat.zero_add, swq_at] at this
    by_cases e : i = j
    · rw [if_pos e] at this; rw [this, e]
    · rw [if_neg e, if_pos rfl] at this; exact this
  · have := (row_cel r2 hj).e0
    rw [Nat.zero_add, swq_at, if_pos rfl] at this
    exact this
end

set_option maxRecDepth 100000 in
set_option maxHeartbeats 8000000 in
theorem hswap_fn {w : World} {b bq B : Nat} {A : Option Addr} {c n : Nat} {Q : Nat → TmV} (h : TMem w b bq B A c n Q) (i j : Nat) (hi : i < n) (hj : j < n) :
    Calls Try.prog 75 #[.pointer (some ⟨bq, 0, none⟩), .int .i64 i, .int .i64 j] w fun e w' => e = .returned (.tuple #[]) ∧ TMem w' b bq B A c n (swq Q i j) ∧ Fr (Foot bq B A) w w' := by
  have mixed : Try.prog.follows .mixedOrders = true := by kernel_rfl
  have H := Lib.hid h
  obtain ⟨g, rfl, hg⟩ := h.at (by omega)
  have c0 := h.e0
  have c1 := h.e1
  have hgt := (h.ne.2 g 0 rfl).1
  have hne := Lib.hid (⟨h.ne.1, (h.ne.2 g 0 rfl).2⟩ : bq ≠ B ∧ g ≠ B)
  have X := (hg i hi).1
  have Y := (hg j hj).1
  have FX := (hg i hi).2
  have FY := (hg j hj).2
  have q1 := atT g 0 n c i hi
  have q2 := atT g 0 n c j hj
  rw [Nat.zero_add] at q1 q2
  clear hg h
  obtain ⟨x, hx⟩ : ∃ x, x = Q i := ⟨_, rfl⟩
  obtain ⟨y, hy⟩ : ∃ y, y = Q j := ⟨_, rfl⟩
  rw [← hx] at X
  rw [← hy] at Y
  replace hx := Lib.hid hx
  replace hy := Lib.hid hy
  have x0 := X.e0; have x1 := X.e1; have x2 := X.e2
  have y0 := Y.e0; have y1 := Y.e1; have y2 := Y.e2
  have f0 := FX 0; have f1 := FX 1; have f2 := FX 2
  have k0 := FY 0; have k1 := FY 1; have k2 := FY 2
  simp only [Nat.add_zero] at f0 k0
  clear X Y FX FY
  by_cases hij : i = j
  · subst hij
    obtain rfl : x = y := hx.out.trans hy.out.symm
    clear y0 y1 y2 k0 k1 k2 q2
    have S2 : (((w.setCells g (i * 3) x.cells).setCells g (i * 3) x.cells).drew).ownsRow b 33 3 (.slice (some ⟨g, 0, none⟩) n c) n (tmCs (swq Q i i) n) ∧ (((w.setCells g (i * 3) x.cells).setCells g (i * 3) x.cells).drew).cell? ⟨bq, 0, none⟩ = some (.slice (some ⟨g, 0, none⟩) n c) ∧ (((w.setCells g (i * 3) x.cells).setCells g (i * 3) x.cells).drew).cell? ⟨bq, 1, none⟩ = some (.map (some B)) ∧ (((w.setCells g (i * 3) x.cells).setCells g (i * 3) x.cells).drew).cell? ⟨g, i * 3, none⟩ = some (.int .i64 x.k) ∧ (((w.setCells g (i * 3) x.cells).setCells g (i * 3) x.cells).drew).cell? ⟨g, i * 3, none⟩ = some (.int .i64 x.k) ∧ (((w.setCells g (i * 3) x.cells).setCells g (i * 3) x.cells).drew).heap[B]? = w.heap[B]? ∧ Fr (Foot bq B (some ⟨g, 0, none⟩)) w (((w.setCells g (i * 3) x.cells).setCells g (i * 3) x.cells).drew) ∧ (((w.setCells g (i * 3) x.cells).setCells g (i * 3) x.cells).drew).heap.size = w.heap.size := by
      rw [hx.out]
      exact swap_facts H.out hi hi
    have hb2 : Hid ((((w.setCells g (i * 3) x.cells).setCells g (i * 3) x.cells).drew).heap[bq]? = some (.cells #[.slice (some ⟨g, 0, none⟩) n c, .map (some B)] 55 (0, 0))) := by
      exact swap_block H.out _ _
    go_enter Try.func75, Try.ntmps75
    go_wp2_with fail
    go_region
    change Exit.then _ _ _ _ (((w.setCells g (i * 3) x.cells).setCells g (i * 3) x.cells).drew)
    clear x0 x1 x2 f0 f1 f2 
    generalize ((w.setCells g (i * 3) x.cells).setCells g (i * 3) x.cells).drew = w2 at S2 hb2 ⊢
    obtain ⟨R2, d0, d1, z1, z2, m2, F2, hs2⟩ := S2
    obtain ⟨f, M0, PL⟩ := H.out.map
    obtain ⟨o3, O3, E3⟩ := mapI_put (M0.of m2) x.k i
    have e3a := E3 w2 rfl
    have e3b : (Instr.mapUpdate 51 (.map (some B)) (.int .i64 x.k) (.int .i64 i)).run Try.prog w2.drew = .ok () (setBlock w2 B o3).drew := E3 w2.drew rfl
    replace R2 := Lib.hid R2
    replace m2 := Lib.hid m2
    replace M0 := Lib.hid M0
    replace PL := Lib.hid PL
    replace O3 := Lib.hid O3
    replace E3 := Lib.hid E3
    replace F2 := Lib.hid F2
    replace hs2 := Lib.hid hs2
    go_wp2_with fail
    go_region
    clear e3a e3b
    have hB2 : B < w2.heap.size := by rw [hs2.out]; exact H.out.lt.2
    have n3 : ∀ k, k ≠ B → (setBlock w2 B o3).drew.heap[k]? = w2.heap[k]? := fun k hk => heap_setBlock_ne hk
    have M3 : MapI (setBlock w2 B o3).drew B (upd f x.k i) := ⟨o3, heap_setBlock hB2, O3.out⟩
    have hqB : bq ≠ B := hne.out.1
    have hgB : g ≠ B := hne.out.2
    have d0' : (setBlock w2 B o3).drew.cell? ⟨bq, 0, none⟩ = some (.slice (some ⟨g, 0, none⟩) n c) := (World.cell?_of_block (w := w2) (a := ⟨bq, 0, none⟩) (n3 bq hqB)).trans d0
    have d1' : (setBlock w2 B o3).drew.cell? ⟨bq, 1, none⟩ = some (.map (some B)) := (World.cell?_of_block (w := w2) (a := ⟨bq, 1, none⟩) (n3 bq hqB)).trans d1
    have z2' : (setBlock w2 B o3).drew.cell? ⟨g, i * 3, none⟩ = some (.int .i64 x.k) := (World.cell?_of_block (w := w2) (a := ⟨g, i * 3, none⟩) (n3 g hgB)).trans z2
    have F3 : Hid (Fr (Foot bq B (some ⟨g, 0, none⟩)) w (setBlock w2 B o3).drew) := (F2.out.put (Or.inl (Or.inr (Or.inl rfl))) o3).drew
    have n3' := Lib.hid n3
    have hs3 : Hid ((setBlock w2 B o3).drew.heap.size = w2.heap.size) := by show (setBlock w2 B o3).heap.size = _; simp [setBlock]
    clear n3 d0 d1 z1 z2
    generalize (setBlock w2 B o3).drew = w3 at n3' M3 d0' d1' z2' F3 hs3 ⊢
    obtain ⟨o4, O4, E4⟩ := mapI_put M3 x.k i
    have e4a := E4 w3 rfl
    have e4b : (Instr.mapUpdate 51 (.map (some B)) (.int .i64 x.k) (.int .i64 i)).run Try.prog w3.drew = .ok () (setBlock w3 B o4).drew := E4 w3.drew rfl
    replace O4 := Lib.hid O4
    replace E4 := Lib.hid E4
    replace M3 := Lib.hid M3
    replace hqB := Lib.hid hqB
    replace hgB := Lib.hid hgB
    replace hB2 := Lib.hid hB2
    go_wp2_with fail
    go_region
    clear e4a e4b d0' d1' z2'
    go_end0
    have n4 : ∀ k, k ≠ B → (setBlock w3 B o4).drew.heap[k]? = w2.heap[k]? := fun k hk => (heap_setBlock_ne hk).trans (n3'.out k hk)
    refine ⟨rfl, ⟨(n4 bq hqB.out).trans hb2.out, own_blocks1 R2.out fun k hk => n4 k ?_, fun t ht => ?_, ⟨_, ⟨o4, heap_setBlock (by rw [hs3.out]; exact hB2.out), O4.out⟩, ?_⟩, H.out.lim, H.out.lo.1, H.out.lo.2.1, ?_⟩, (F3.out.put (Or.inl (Or.inr (Or.inl rfl))) o4).drew⟩
    · have := own_zero R2.out hk
      exact (H.out.ne.2 k 0 this).2
    · exact swq_ok H.out.ok hi hi t ht
    · have := places_swap PL.out hi hi
      rw [← hx.out] at this
      exact this
    · show b ≤ (setBlock w3 B o4).heap.size
      have := H.out.lo.2.2
      have e5 : (setBlock w3 B o4).heap.size = w3.heap.size := by simp [setBlock]
      rw [e5, hs3.out, hs2.out]
      exact this
  have S2 : (((w.setCells g (i * 3) y.cells).setCells g (j * 3) x.cells).drew).ownsRow b 33 3 (.slice (some ⟨g, 0, none⟩) n c) n (tmCs (swq Q i j) n) ∧ (((w.setCells g (i * 3) y.cells).setCells g (j * 3) x.cells).drew).cell? ⟨bq, 0, none⟩ = some (.slice (some ⟨g, 0, none⟩) n c) ∧ (((w.setCells g (i * 3) y.cells).setCells g (j * 3) x.cells).drew).cell? ⟨bq, 1, none⟩ = some (.map (some B)) ∧ (((w.setCells g (i * 3) y.cells).setCells g (j * 3) x.cells).drew).cell? ⟨g, i * 3, none⟩ = some (.int .i64 y.k) ∧ (((w.setCells g (i * 3) y.cells).setCells g (j * 3) x.cells).drew).cell? ⟨g, j * 3, none⟩ = some (.int .i64 x.k) ∧ (((w.setCells g (i * 3) y.cells).setCells g (j * 3) x.cells).drew).heap[B]? = w.heap[B]? ∧ Fr (Foot bq B (some ⟨g, 0, none⟩)) w (((w.setCells g (i * 3) y.cells).setCells g (j * 3) x.cells).drew) ∧ (((w.setCells g (i * 3) y.cells).setCells g (j * 3) x.cells).drew).heap.size = w.heap.size := by
    rw [hx.out, hy.out]
    exact swap_facts H.out hi hj
  have hb2 : Hid ((((w.setCells g (i * 3) y.cells).setCells g (j * 3) x.cells).drew).heap[bq]? = some (.cells #[.slice (some ⟨g, 0, none⟩) n c, .map (some B)] 55 (0, 0))) := by
    exact swap_block H.out _ _
  go_enter Try.func75, Try.ntmps75
  go_wp2_with fail
  go_region
  change Exit.then _ _ _ _ (((w.setCells g (i * 3) y.cells).setCells g (j * 3) x.cells).drew)
  clear x0 x1 x2 f0 f1 f2 y0 y1 y2 k0 k1 k2
  generalize ((w.setCells g (i * 3) y.cells).setCells g (j * 3) x.cells).drew = w2 at S2 hb2 ⊢
  obtain ⟨R2, d0, d1, z1, z2, m2, F2, hs2⟩ := S2
  obtain ⟨f, M0, PL⟩ := H.out.map
  obtain ⟨o3, O3, E3⟩ := mapI_put (M0.of m2) y.k i
  have e3a := E3 w2 rfl
  have e3b : (Instr.mapUpdate 51 (.map (some B)) (.int .i64 y.k) (.int .i64 i)).run Try.prog w2.drew = .ok () (setBlock w2 B o3).drew := E3 w2.drew rfl
  replace R2 := Lib.hid R2
  replace m2 := Lib.hid m2
  replace M0 := Lib.hid M0
  replace PL := Lib.hid PL
  replace O3 := Lib.hid O3
  replace E3 := Lib.hid E3
  replace F2 := Lib.hid F2
  replace hs2 := Lib.hid hs2
  go_wp2_with fail
  go_region
  clear e3a e3b
  have hB2 : B < w2.heap.size := by rw [hs2.out]; exact H.out.lt.2
  have n3 : ∀ k, k ≠ B → (setBlock w2 B o3).drew.heap[k]? = w2.heap[k]? := fun k hk => heap_setBlock_ne hk
  have M3 : MapI (setBlock w2 B o3).drew B (upd f y.k i) := ⟨o3, heap_setBlock hB2, O3.out⟩
  have hqB : bq ≠ B := hne.out.1
  have hgB : g ≠ B := hne.out.2
  have d0' : (setBlock w2 B o3).drew.cell? ⟨bq, 0, none⟩ = some (.slice (some ⟨g, 0, none⟩) n c) := (World.cell?_of_block (w := w2) (a := ⟨bq, 0, none⟩) (n3 bq hqB)).trans d0
  have d1' : (setBlock w2 B o3).drew.cell? ⟨bq, 1, none⟩ = some (.map (some B)) := (World.cell?_of_block (w := w2) (a := ⟨bq, 1, none⟩) (n3 bq hqB)).trans d1
  have z2' : (setBlock w2 B o3).drew.cell? ⟨g, j * 3, none⟩ = some (.int .i64 x.k) := (World.cell?_of_block (w := w2) (a := ⟨g, j * 3, none⟩) (n3 g hgB)).trans z2
  have F3 : Hid (Fr (Foot bq B (some ⟨g, 0, none⟩)) w (setBlock w2 B o3).drew) := (F2.out.put (Or.inl (Or.inr (Or.inl rfl))) o3).drew
  have n3' := Lib.hid n3
  have hs3 : Hid ((setBlock w2 B o3).drew.heap.size = w2.heap.size) := by show (setBlock w2 B o3).heap.size = _; simp [setBlock]
  clear n3 d0 d1 z1 z2
  generalize (setBlock w2 B o3).drew = w3 at n3' M3 d0' d1' z2' F3 hs3 ⊢
  obtain ⟨o4, O4, E4⟩ := mapI_put M3 x.k j
  have e4a := E4 w3 rfl
  have e4b : (Instr.mapUpdate 51 (.map (some B)) (.int .i64 x.k) (.int .i64 j)).run Try.prog w3.drew = .ok () (setBlock w3 B o4).drew := E4 w3.drew rfl
  replace O4 := Lib.hid O4
  replace E4 := Lib.hid E4
  replace M3 := Lib.hid M3
  replace hqB := Lib.hid hqB
  replace hgB := Lib.hid hgB
  replace hB2 := Lib.hid hB2
  go_wp2_with fail
  go_region
  clear e4a e4b d0' d1' z2'
  go_end0
  have n4 : ∀ k, k ≠ B → (setBlock w3 B o4).drew.heap[k]? = w2.heap[k]? := fun k hk => (heap_setBlock_ne hk).trans (n3'.out k hk)
  refine ⟨rfl, ⟨(n4 bq hqB.out).trans hb2.out, own_blocks1 R2.out fun k hk => n4 k ?_, fun t ht => ?_, ⟨_, ⟨o4, heap_setBlock (by rw [hs3.out]; exact hB2.out), O4.out⟩, ?_⟩, H.out.lim, H.out.lo.1, H.out.lo.2.1, ?_⟩, (F3.out.put (Or.inl (Or.inr (Or.inl rfl))) o4).drew⟩
  · have := own_zero R2.out hk
    exact (H.out.ne.2 k 0 this).2
  · exact swq_ok H.out.ok hi hj t ht
  · have := places_swap PL.out hi hj
    rw [← hx.out, ← hy.out] at this
    exact this
  · show b ≤ (setBlock w3 B o4).heap.size
    have := H.out.lo.2.2
    have e5 : (setBlock w3 B o4).heap.size = w3.heap.size := by simp [setBlock]
    rw [e5, hs3.out, hs2.out]
    exact this
end Go.Proofs.Ytdjakljkcjadhaa.T9
