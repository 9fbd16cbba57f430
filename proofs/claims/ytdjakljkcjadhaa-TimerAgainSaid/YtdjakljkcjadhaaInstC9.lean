/-
  Cancel and All of a list of timers. No condition.
-/
import Derived.Test.YtdjakljkcjadhaaInstB9
namespace Go.Proofs.Ytdjakljkcjadhaa.T9
open Go.RowKit Go.Sort Go.Lib Go.Shelf

theorem tset_fn {w : World} {b bq : Nat} {D : Nat → Prop} {L : List TmV} {x : TmV} (h : TI w b bq D L) (hx : TmOk x) (hl : L.length < 1000) :
    Calls Try.prog 15 #[.pointer (some ⟨bq, 0, none⟩), x.val] w fun e w' => e = .returned (.bool (decide (x.k ∉ T9.keys L))) ∧ ∃ D', TI w' b bq D' (setL L x) ∧ Fr D w w' ∧ ∀ k, D' k → D k ∨ w.heap.size ≤ k := by
  by_cases hk : x.k ∈ keys L
  · refine (tset_there h hk).mono fun e w' ⟨h1, h2, h3⟩ => ⟨?_, D, ?_, Fr.of h2, fun _ h => Or.inl h⟩
    · rw [h1, decide_eq_false (by simp [hk])]
    · rw [show setL L x = L from if_pos hk]; exact h3
  · refine (tset_new h hx hl hk).mono fun e w' ⟨h1, D', h2⟩ => ⟨?_, D', ?_⟩
    · rw [h1, decide_eq_true hk]
    · rw [show setL L x = insL x L from if_neg hk]; exact h2

/-- What is left when one timer has gone. -/
theorem gone_is {n i : Nat} {Q R : Nat → TmV} {L : List TmV} (p : (lst Q (n + 1)).Perm L) (hk : (keys L).Nodup) (q : (lst Q (n + 1)).Perm (Q i :: lst R n)) : (lst R n).Perm (woL L (Q i).k) ∧ getL L (Q i).k = Q i ∧ (Q i).k ∈ keys L := by
  have pL := q.symm.trans p
  have hm : Q i ∈ L := pL.mem_iff.1 (List.mem_cons_self ..)
  have hkm : (Q i).k ∈ keys L := List.mem_map_of_mem hm
  have nd : (keys (Q i :: lst R n)).Nodup := by
    have : (keys (Q i :: lst R n)).Perm (keys L) := pL.map _
    rw [this.nodup_iff]; exact hk
  have nd2 : (Q i).k ∉ keys (lst R n) := (List.nodup_cons.1 nd).1
  refine ⟨?_, ?_, hkm⟩
  · have h1 : (woL (Q i :: lst R n) (Q i).k).Perm (woL L (Q i).k) := pL.filter _
    have h2 : woL (Q i :: lst R n) (Q i).k = lst R n := by
      unfold woL
      rw [List.filter_cons_of_neg (by simp)]
      exact wo_none nd2
    rwa [h2] at h1
  · obtain ⟨h3, h4⟩ := get_some hkm
    by_cases e : getL L (Q i).k = Q i
    · exact e
    · rcases List.mem_cons.1 (pL.mem_iff.2 h3) with h5 | h5
      · exact absurd h5 e
      · exact absurd (by rw [← h4]; exact List.mem_map_of_mem h5) nd2

theorem and_k {p q : Prop} (h : p) (f : p → q) : q := f h
theorem key_inj : ∀ {L : List TmV} {x y : TmV}, (keys L).Nodup → x ∈ L → y ∈ L → x.k = y.k → x = y
  | [], _, _, _, h, _, _ => by cases h
  | a :: L, x, y, hk, hx, hy, e => by
    have h := List.nodup_cons.1 (show (a.k :: keys L).Nodup from hk)
    rcases List.mem_cons.1 hx with rfl | h1 <;> rcases List.mem_cons.1 hy with rfl | h2
    · rfl
    · exact absurd (e ▸ List.mem_map_of_mem h2) h.1
    · exact absurd (e ▸ List.mem_map_of_mem h1) h.1
    · exact key_inj h.2 h1 h2 e

theorem TI.fr {w w' : World} {b bq : Nat} {D E : Nat → Prop} {L : List TmV} (h : TI w b bq D L) (f : Fr E w w') (hE : ∀ k, D k → ¬ E k) : TI w' b bq D L := by
  obtain ⟨n, Q, ⟨B, A, c, h1, rfl⟩, h2⟩ := h
  exact ⟨n, Q, ⟨B, A, c, h1.fr f hE, rfl⟩, h2⟩
theorem TI.lo {w : World} {b bq : Nat} {D : Nat → Prop} {L : List TmV} (h : TI w b bq D L) : ∀ k, D k → b ≤ k ∧ k < w.heap.size := by
  obtain ⟨n, Q, ⟨B, A, c, h1, rfl⟩, h2⟩ := h
  exact h1.foot_lt

set_option maxRecDepth 100000 in
set_option maxHeartbeats 4000000 in
theorem tcancel_fn {w : World} {b bq : Nat} {D : Nat → Prop} {L : List TmV} (id : Int) (h : TI w b bq D L) :
    Calls Try.prog 18 #[.pointer (some ⟨bq, 0, none⟩), .int .i64 id] w fun e w' => e = .returned (.tuple #[(getL L id).val, .bool (decide (id ∈ T9.keys L))]) ∧ ∃ D', TI w' b bq D' (woL L id) ∧ Fr D w w' ∧ ∀ k, D' k → D k ∨ w.heap.size ≤ k := by
  have H := Lib.hid h
  have K1 : Hid (Keep w (w.alloc (.cells #[.int .i64 0, .int .i64 0, .int .i64 0] 33))) := Keep.one _ _
  have hz0 : (w.alloc (.cells #[.int .i64 0, .int .i64 0, .int .i64 0] 33)).heap[w.heap.size]? = some (.cells #[.int .i64 0, .int .i64 0, .int .i64 0] 33 (0, 0)) := heap_alloc_new _ _
  obtain ⟨B, A, c, n, Q, f, h1, hD, h2, h3, hf, hP, hi⟩ := h.map id
  have srt : Hid (Srt L) := by obtain ⟨_, _, _, _, _, s, _⟩ := h; exact s
  have nd : Hid ((keys L).Nodup) := by obtain ⟨_, _, _, _, _, _, s⟩ := h; exact s
  have sz : Hid (∀ k, D k → k < w.heap.size) := fun k hk => (h.lo k hk).2
  have h1' := Lib.hid (h1.keep K1.out)
  have c1 := h1'.out.e1
  have ml := mapI_look2 (hf.of (Below.block K1.out B h1.lt.2)) id
  have hlim := h1.lim
  clear h1 h
  replace h3 := Lib.hid h3
  replace h2 := Lib.hid h2
  replace hD := Lib.hid hD
  replace hf := Lib.hid hf
  by_cases hk : id ∈ keys L
  · rw [decide_eq_true hk] at hi ⊢
    cases hv : f id with
    | none => rw [hv] at hi; cases hi
    | some v =>
      obtain ⟨j, hj, hkj, rfl⟩ := (hP id v).1 hv
      rw [hv] at ml
      simp only [Option.getD_some, Option.isSome_some] at ml
      obtain ⟨m, rfl⟩ : ∃ m, n = m + 1 := ⟨n - 1, by omega⟩
      have cR := heapremove_fn (heapC b bq) (D := D) ⟨B, A, c, h1'.out, hD.out⟩ h2.out j (by omega)
      have ta := Try.asTm
      obtain ⟨x, hx⟩ : ∃ x, x = Q j := ⟨_, rfl⟩
      rw [← hx] at cR
      have hg : ∀ R, (lst Q (m + 1)).Perm (x :: lst R m) → (lst R m).Perm (woL L id) := fun R q => by
        have := gone_is h3.out nd.out (by rw [← hx]; exact q)
        rw [← hkj]
        exact this.1
      have hgx : getL L id = x := by
        have hm : Q j ∈ L := h3.out.mem_iff.1 (lst_mem.2 ⟨j, by omega, rfl⟩)
        obtain ⟨g1, g2⟩ := get_some (L := L) (id := id) (by rw [← hkj]; exact List.mem_map_of_mem hm)
        rw [hx]
        exact key_inj nd.out g1 hm (by rw [hkj]; exact g2)
      rw [hgx]
      replace hg := Lib.hid hg
      replace hx := Lib.hid hx
      clear hgx hi hP hv hkj hk
      unfold TmV.val at cR ⊢
      replace cR := Lib.hid cR
      replace h1' := Lib.hid h1'
      obtain ⟨s0, hs0⟩ : ∃ s0, s0 = w.heap.size := ⟨_, rfl⟩
      go_enter Try.func18, Try.ntmps18
      go_wp2_with fail
      rw [← hs0] at hz0 ⊢
      replace hs0 := Lib.hid hs0
      generalize w.alloc (.cells #[.int .i64 0, .int .i64 0, .int .i64 0] 33) = w1 at *
      refine cR.out.mono ?_
      rintro e w3 ⟨rfl, R, H3, HQ, P3, F3⟩
      have n0 : ¬ D s0 := fun hd => by have := sz.out _ hd; have := hs0.out; omega
      have hz3 : w3.heap[s0]? = some (.cells #[.int .i64 0, .int .i64 0, .int .i64 0] 33 (0, 0)) := (F3.block s0 (by have := K1.out.size; exact (Array.getElem?_eq_some_iff.1 hz0).1) n0).trans hz0
      have z0 : w3.cell? ⟨s0, 0, none⟩ = some (.int .i64 0) := by rw [cell_of_row w3 _ _ _ _ _ hz3]; rfl
      have z1 : w3.cell? ⟨s0, 1, none⟩ = some (.int .i64 0) := by rw [cell_of_row w3 _ _ _ _ _ hz3]; rfl
      have z2 : w3.cell? ⟨s0, 2, none⟩ = some (.int .i64 0) := by rw [cell_of_row w3 _ _ _ _ _ hz3]; rfl
      have y0 : w3.frozen? ⟨s0, 0, none⟩ = false := frozen_of_row w3 _ _ _ _ hz3
      have y1 : w3.frozen? ⟨s0, 1, none⟩ = false := frozen_of_row w3 _ _ _ _ hz3
      have y2 : w3.frozen? ⟨s0, 2, none⟩ = false := frozen_of_row w3 _ _ _ _ hz3
      have T3 : Hid (TI w3 b bq D (woL L id)) := ⟨m, R, H3, HQ, hg.out R P3, wo_sorted srt.out, wo_keys nd.out⟩
      have F4 : Hid (Fr D w w3) := Fr.after K1.out F3
      have hsz3 : Hid (s0 < w3.heap.size) := (Array.getElem?_eq_some_iff.1 hz3).1
      replace n0 := Lib.hid n0
      replace H3 := Lib.hid H3
      replace HQ := Lib.hid HQ
      replace P3 := Lib.hid P3
      replace F3 := Lib.hid F3
      clear hz3 hz0 ml c1
      go_wp2
      refine bodyPost_ret (v := .tuple #[.agg #[.int .i64 x.k, .int .i64 x.t, .int .i64 x.a], .bool true]) (by simp [results, Try.results18, go_sem, *]) rfl ⟨rfl, D, ?_, ?_, fun _ h => Or.inl h⟩
      · refine T3.out.fr (E := fun k => k = s0) ?_ (fun k hk e => n0.out (e ▸ hk))
        repeat (refine Fr.set ?_ (by left; rfl) _)
        exact Fr.refl _ _
      · repeat (refine Fr.set ?_ (Or.inr (by have := hs0.out; show _ ≤ s0; omega)) _)
        exact F4.out
  · rw [decide_eq_false hk] at hi ⊢
    have hv : f id = none := by cases e : f id <;> simp_all
    rw [hv] at ml
    simp only [Option.getD_none, Option.isSome_none] at ml
    rw [get_none hk, wo_none hk]
    clear hi hP hv hlim
    replace hk := Lib.hid hk
    have hz0 := Lib.hid hz0
    go_enter Try.func18, Try.ntmps18
    go_wp2
    refine bodyPost_ret (v := .tuple #[.agg #[.int .i64 0, .int .i64 0, .int .i64 0], .bool false]) (by simp [results, Try.results18, go_sem, *]) rfl (and_k ?_ fun k => ⟨rfl, D, H.out.keep k, Fr.of k, fun _ h => Or.inl h⟩)
    repeat (refine Keep.set ?_ (by simp) _)
    exact K1.out
end Go.Proofs.Ytdjakljkcjadhaa.T9
