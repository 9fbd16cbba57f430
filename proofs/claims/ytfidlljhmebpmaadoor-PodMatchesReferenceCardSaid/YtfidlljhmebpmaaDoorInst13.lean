/-
  The landed store is what the laws ask for. Condition: errors.errorType holds its own (where Con says so).
-/
import Derived.Test.YtfidlljhmebpmaaDoorNil13
import Derived.Test.YtfidlljhmebpmaaDoorKeepsMath13
namespace Go.Proofs.YtfidlljhmebpmaaDoor.T13
open Go.RowKit Go.Sort Go.Lib V12

section
variable {w w1 : World} {s : Int} {q : Nat} {L : List PodV} {X : Nat → Prop}
theorem m_of {P : Nat → PodV} (e : (lst P L.length).map nm = L) (h : ∀ y ∈ L, y.m ≤ 1000) : ∀ j, j < L.length → (P j).m ≤ 1000 := fun j hj =>
  h (nm (P j)) (by rw [← e]; exact List.mem_map_of_mem (lst_mem.2 ⟨j, hj, rfl⟩))
theorem keys_of {P : Nat → PodV} (e : (lst P L.length).map nm = L) : keys L = keys (lst P L.length) := (congrArg keys e).symm.trans (keys_nm _)
theorem filter_nm {f : PodV → Bool} (hf : ∀ x, f (nm x) = f x) (M : List PodV) : (M.filter f).map nm = (M.map nm).filter f := by
  rw [List.filter_map]
  congr 1
  refine List.filter_congr fun x _ => ?_
  show f x = f (nm x)
  exact (hf x).symm
theorem got_of {w' : World} {e : Ending} {P : Nat → PodV} {f : PodV → Bool} (hf : ∀ x, f (nm x) = f x) (eL : (lst P L.length).map nm = L) (g : Got w w' e ((lst P L.length).filter f)) : ∃ v S, e = .returned v ∧ RowP w' w.heap.size v (L.filter f).length S ∧ (lst S (L.filter f).length).map nm = L.filter f ∧ Keep w w' := by
  obtain ⟨v, S, he, h1, h2, h3⟩ := g
  have e2 := filter_nm hf (lst P L.length)
  rw [eL] at e2
  have e3 : ((lst P L.length).filter f).length = (L.filter f).length := by rw [← e2, List.length_map]
  rw [e3] at h1 h2
  exact ⟨v, S, he, h1, h2.trans e2, h3⟩
theorem rb_own {r : PodV} {i : Nat} (h : rb r i) : (Value.slice r.A r.m r.c).ownBlock = some i := by
  obtain ⟨_, o, e⟩ := h
  rw [e]
  rfl
end
theorem newX0 (s : Int) (w w0 : World) (X : Nat → Prop) (k : Keep w w0) (hs : I64 s) (hX : ∀ i, X i → i < w0.heap.size) : Calls Tryd.prog 8 #[.int .i64 s] w0 fun e w' => ∃ q, e = .returned (.pointer (some ⟨q, 0, none⟩)) ∧ OSd w s q [] X w' ∧ Keep w0 w' := by
  refine (pdnew0 s w0 hs).mono ?_
  rintro e w' ⟨q, t, m, rfl, h, k1⟩
  refine ⟨q, rfl, ⟨t, m, none, 0, fun _ => zpod, ⟨h.hq, h.tb, RowP.nil _ _ _, Nat.le_trans k.size h.bq, Nat.le_trans k.size h.bt, Nat.le_trans k.size h.bm, h.lk⟩, rfl, k.trans k1, fun i hi => ⟨Nat.lt_of_lt_of_le (hX i hi) k1.size, fun hF => ?_⟩⟩, k1⟩
  have := (h.lt i hF).1
  have := hX i hi
  omega
theorem newX13 : NewX OSd := newX0
theorem con13 : Con OSd where
  kp := by
    rintro w s q L X w1 ⟨t, m, A, c, P, h, hL, k0, hX⟩
    exact k0
  keep := fun o k => o.keep k
  more := fun o k hZ => o.more k hZ
  less := fun o hZ => o.less hZ
  write := fun o k hs f => o.write k hs f
  grow := fun o k hs f hZ => o.grow k hs f hZ
  lt := by
    rintro w s q L X w1 ⟨t, m, A, c, P, h, hL, k0, hX⟩ i hi
    exact (hX i hi).1
  ok := by
    rintro w s q L X w1 ⟨t, m, A, c, P, h, hL, k0, hX⟩
    rw [← hL]
    exact h.lk
  new := fun s w w0 k hs => newX0 s w w0 _ k hs fun _ h => h.elim
  submit := by
    rintro w s q L X w1 x ⟨t, m, A, c, P, h, hL, k0, hX⟩ hg hx hm hl
    have hk := keys_of hL
    by_cases h1 : x.k ∈ keys L
    · have e : subC L s x = 6 := if_pos h1
      refine (pdsubmit_no h hg x 6 (addno_dup h (by rw [← hk]; exact h1) _)).mono ?_
      rintro e' w' ⟨rfl, k⟩
      rw [e]
      refine ⟨zpod, rfl, fun h => absurd h (by decide), fun _ => rfl, zpod_is _, zpod_req _ _, ?_, fun i hi => Below.block k i (hX i hi).1⟩
      unfold subL
      rw [e, if_neg (by decide)]
      refine OSd.more ⟨t, m, A, c, P, h, hL, k0, hX⟩ k ?_
      rintro i ⟨h0, _⟩
      exact absurd h0 (Nat.lt_irrefl 0)
    · by_cases h2 : s ≤ L.length
      · have e : subC L s x = 7 := by unfold subC; rw [if_neg h1, if_pos h2]
        refine (pdsubmit_no h hg x 7 (addno_full h (by rw [← hk]; exact h1) h2 _)).mono ?_
        rintro e' w' ⟨rfl, k⟩
        rw [e]
        refine ⟨zpod, rfl, fun h => absurd h (by decide), fun _ => rfl, zpod_is _, zpod_req _ _, ?_, fun i hi => Below.block k i (hX i hi).1⟩
        unfold subL
        rw [e, if_neg (by decide)]
        refine OSd.more ⟨t, m, A, c, P, h, hL, k0, hX⟩ k ?_
        rintro i ⟨h0, _⟩
        exact absurd h0 (Nat.lt_irrefl 0)
      · have e : subC L s x = 0 := by unfold subC; rw [if_neg h1, if_neg h2]
        refine (pdsubmit_new h x hx hm hl (by rw [← hk]; exact h1) (by omega) k0.size).mono ?_
        rintro e' w' ⟨B, d, B2, d2, z, A', c', rfl, ok, R, hz, S, hF, f⟩
        rw [e]
        have hlen : (L ++ [subP x L.length]).length = L.length + 1 := by rw [List.length_append]; rfl
        refine ⟨sbV x B2 d2 L.length, rfl, fun _ => rfl, fun h => absurd rfl h, R.is ok, own_base R hz, ?_, fun i hi => f.block i (hX i hi).1 (hX i hi).2⟩
        unfold subL
        rw [if_pos e]
        refine ⟨t, m, A', c', put P L.length (sbV x B d L.length), by rw [hlen]; exact S, ?_, Fr.low k0 f fun i hi => (h.lt i hi).1, ?_⟩
        · rw [hlen, lst_sub (nm_sbV x B d L.length), hL]
        · rw [hlen]
          rintro i (hi | hi)
          · refine ⟨Nat.lt_of_lt_of_le (hX i hi).1 f.size, fun hf => ?_⟩
            rcases (hF i hf).1 with h3 | h3
            · exact (hX i hi).2 h3
            · have := (hX i hi).1
              omega
          · have h3 := R.lt i (rb_own hi)
            exact ⟨h3.2, fun hf => by have := (hF i hf).2; omega⟩
  apply := by
    rintro w s q L X w1 id e nd dl ⟨t, m, A, c, P, h, hL, k0, hX⟩ hg hid he hnd hdl hm hl
    have hk := keys_of hL
    by_cases h1 : id ∈ keys L
    · obtain ⟨j, hj, rfl⟩ := key_at (by rw [← hk]; exact h1)
      have eg : (getL L (P j).k).h = (P j).h := by
        rw [← hL, ← get_nm, h.get hj]
        rfl
      by_cases h2 : nx (P j).h e = 0
      · have e8 : appC L (P j).k e = 8 := by unfold appC; rw [if_neg (not_not_intro h1), eg, if_pos h2]
        refine (pdapply_bad h hj e nd dl h2).mono ?_
        rintro e' w' ⟨rfl, k⟩
        rw [e8]
        refine ⟨zpod, rfl, fun h => absurd h (by decide), fun _ => rfl, zpod_is _, zpod_req _ _, ?_, fun i hi => Below.block k i (hX i hi).1⟩
        unfold appL
        rw [e8, if_neg (by decide)]
        refine OSd.more ⟨t, m, A, c, P, h, hL, k0, hX⟩ k ?_
        rintro i ⟨h0, _⟩
        exact absurd h0 (Nat.lt_irrefl 0)
      · have e0 : appC L (P j).k e = 0 := by unfold appC; rw [if_neg (not_not_intro h1), eg, if_neg h2]
        have ea := lst_app h hj (nd := nd) (dl := dl) h2
        rw [hL] at ea
        refine (pdapply_in h hj e nd dl hnd hdl h2 (m_of hL hm j hj)).mono ?_
        rintro e' w' ⟨B, d, rfl, R, ok, S, f⟩
        rw [e0]
        refine ⟨(appP (P j) e nd dl).at B d, rfl, fun _ => ?_, fun h => absurd rfl h, R.is ok, R, ?_, fun i hi => f.block i (hX i hi).1 fun h3 => (hX i hi).2 (Or.inr (Or.inr (Or.inr (Or.inl h3))))⟩
        · rw [← hL, ← get_nm, h.get hj]
          rfl
        · have hFE : ∀ i, FE q t m A c L.length (put P j (appP (P j) e nd dl)) i → FE q t m A c L.length P i := by
            rintro i (h3 | h3 | h3 | h3 | ⟨i2, hi2, h3⟩)
            · exact Or.inl h3
            · exact Or.inr (Or.inl h3)
            · exact Or.inr (Or.inr (Or.inl h3))
            · exact Or.inr (Or.inr (Or.inr (Or.inl h3)))
            · refine Or.inr (Or.inr (Or.inr (Or.inr ⟨i2, hi2, ?_⟩)))
              by_cases e3 : i2 = j
              · rw [e3, put_at] at h3
                rw [e3]
                exact h3
              · rw [put_ne _ _ _ e3] at h3
                exact h3
          refine ⟨t, m, A, c, put P j (appP (P j) e nd dl), by rw [appL_len]; exact S, by rw [appL_len]; exact ea.1, Fr.low k0 f fun i hi => (h.lt i (Or.inr (Or.inr (Or.inr (Or.inl hi))))).1, ?_⟩
          rw [appL_len]
          rintro i (hi | hi)
          · exact ⟨Nat.lt_of_lt_of_le (hX i hi).1 f.size, fun hf => (hX i hi).2 (hFE i hf)⟩
          · have h3 := R.lt i (rb_own hi)
            exact ⟨h3.2, fun hf => by have := (h.lt i (hFE i hf)).2; omega⟩
    · have e5 : appC L id e = 5 := if_pos h1
      refine (pdapply_out h (by rw [← hk]; exact h1) e nd dl).mono ?_
      rintro e' w' ⟨rfl, k⟩
      rw [e5]
      refine ⟨zpod, rfl, fun h => absurd h (by decide), fun _ => rfl, zpod_is _, zpod_req _ _, ?_, fun i hi => Below.block k i (hX i hi).1⟩
      unfold appL
      rw [e5, if_neg (by decide)]
      refine OSd.more ⟨t, m, A, c, P, h, hL, k0, hX⟩ k ?_
      rintro i ⟨h0, _⟩
      exact absurd h0 (Nat.lt_irrefl 0)
  get := by
    rintro w s q L X w1 id ⟨t, m, A, c, P, h, hL, k0, hX⟩ hid hm
    have hk := keys_of hL
    by_cases h1 : id ∈ keys L
    · rw [decide_eq_true h1]
      obtain ⟨j, hj, rfl⟩ := key_at (by rw [← hk]; exact h1)
      refine (pdget_in h hj (m_of hL hm j hj)).mono ?_
      rintro e' w' ⟨B, d, rfl, R, ok, k⟩
      refine ⟨_, rfl, ?_, R.is ok, R, k⟩
      rw [← hL, ← get_nm, h.get hj]
      rfl
    · rw [decide_eq_false h1, get_none h1]
      refine (pdget_out h (by rw [← hk]; exact h1)).mono ?_
      rintro e' w' ⟨rfl, k⟩
      exact ⟨zpod, rfl, rfl, zpod_is _, zpod_req _ _, k⟩
  all := by
    rintro w s q L X w1 ⟨t, m, A, c, P, h, hL, k0, hX⟩ hm hl
    refine (podall_fn h hl (m_of hL hm)).mono ?_
    rintro e' w' ⟨v, S, he, h1, h2, h3⟩
    rw [lst_len] at h1 h2
    exact ⟨v, S, he, h1, h2.trans hL, h3⟩
  on := by
    rintro w s q L X w1 nd ⟨t, m, A, c, P, h, hL, k0, hX⟩ hm hl
    exact (podon_fn h hl (m_of hL hm) nd).mono fun _ _ g => got_of (fun _ => rfl) hL g
  withP := by
    rintro w s q L X w1 p ⟨t, m, A, c, P, h, hL, k0, hX⟩ hm hl
    exact (podwith_fn h hl (m_of hL hm) p).mono fun _ _ g => got_of (fun _ => rfl) hL g
  count := by
    rintro w s q L X w1 p ⟨t, m, A, c, P, h, hL, k0, hX⟩ hm hl
    refine (podcount_fn h hl p).mono ?_
    rintro e' w' ⟨rfl, k⟩
    have e2 := filter_nm (f := withB p) (fun _ => rfl) (lst P L.length)
    rw [hL] at e2
    rw [← e2, List.length_map]
    exact ⟨rfl, k⟩
  len := by
    rintro w s q L X w1 ⟨t, m, A, c, P, h, hL, k0, hX⟩ _
    refine (pdlen_fn h).mono ?_
    rintro e' w' ⟨rfl, rfl⟩
    exact ⟨rfl, Keep.refl _⟩
  submitNil := fun x w _ _ => (pdsubmit_nil x w).mono fun _ _ ⟨he, k⟩ => ⟨zpod, he, rfl, k⟩
  allNil := fun w => (podall_nil w).mono fun _ _ ⟨he, k⟩ => ⟨none, 0, he, k⟩
end Go.Proofs.YtfidlljhmebpmaaDoor.T13
