/-
  The store's row with a field changed; phase.Next. No condition.
-/
import Derived.Test.YtfidlljhmebpmaaDoorAcc13
import Derived.Test.YtfidlljhmebpmaaDoorRun5
namespace Go.Proofs.YtfidlljhmebpmaaDoor.T13
open Go.RowKit Go.Sort Go.Lib V12

set_option maxRecDepth 100000 in
theorem nxt_nx (p e : Int) : nxt p e = nx p e := by
  by_cases h : (1 ≤ p ∧ p ≤ 4) ∧ (1 ≤ e ∧ e ≤ 5)
  · obtain ⟨⟨h1, h2⟩, h3, h4⟩ := h
    have hp : p = 1 ∨ p = 2 ∨ p = 3 ∨ p = 4 := by omega
    have he : e = 1 ∨ e = 2 ∨ e = 3 ∨ e = 4 ∨ e = 5 := by omega
    rcases hp with rfl | rfl | rfl | rfl <;> rcases he with rfl | rfl | rfl | rfl | rfl <;> decide
  · have h1 : look tab p e = none := look_not fun v hv => h (by
      have hall : ∀ x ∈ tab, (1 ≤ x.1 ∧ x.1 ≤ 4) ∧ (1 ≤ x.2.1 ∧ x.2.1 ≤ 5) := by decide
      exact hall _ hv)
    have h2 : nx p e = 0 := by
      unfold nx
      repeat' split
      all_goals first | rfl | (exfalso; omega)
    rw [h2]
    unfold nxt
    rw [h1]
    rfl
theorem pdnext_fn (p e : Int) (w : World) : Calls Tryd.prog 44 #[.int .i64 p, .int .i64 e] w fun r w' => r = .returned (.tuple #[.int .i64 (nx p e), .bool (decide (nx p e ≠ 0))]) ∧ Keep w w' := by
  rw [← nxt_nx]
  exact next_fn p e w
theorem podCs_set {P : Nat → PodV} {n j i : Nat} (hj : j < n) (hi : i < 9) {x : PodV} {u : Value} (hx : x.cells = (P j).cells.set i u) : podCs (put P j x) n = (podCs P n).set (j * 9 + i) u := by
  refine List.ext_getElem? fun t => ?_
  rw [List.getElem?_set]
  by_cases ht : t < n * 9
  · have h1 : t / 9 < n := by omega
    have h2 : t % 9 < 9 := Nat.mod_lt _ (by omega)
    have e1 := podCs_get (put P j x) n (t / 9) (t % 9) h1 h2
    have e2 := podCs_get P n (t / 9) (t % 9) h1 h2
    rw [show t / 9 * 9 + t % 9 = t by omega] at e1 e2
    rw [e1, e2, podCs_len]
    by_cases e : t / 9 = j
    · rw [e, put_at, hx, List.getElem?_set, cells9]
      by_cases e3 : i = t % 9
      · rw [if_pos e3, if_pos hi, if_pos (by omega), if_pos (by omega)]
      · rw [if_neg e3, if_neg (by omega)]
    · rw [put_ne _ _ _ e, if_neg (by omega)]
  · rw [List.getElem?_eq_none (by rw [podCs_len]; omega), podCs_len, if_neg (by omega), List.getElem?_eq_none (by rw [podCs_len]; omega)]
/-- One field of one pod. -/
theorem RowP.field {w : World} {b0 g c n j i : Nat} {P : Nat → PodV} (h : RowP w b0 (.slice (some ⟨g, 0, none⟩) n c) n P) (hj : j < n) (hi : i < 9) {x : PodV} {u : Value} (hx : x.cells = (P j).cells.set i u) (hr : x.A = (P j).A ∧ x.m = (P j).m ∧ x.c = (P j).c ∧ x.Z = (P j).Z) (ok : PodOk x) : RowP (w.setCell ⟨g, j * 9 + i, none⟩ u) b0 (.slice (some ⟨g, 0, none⟩) n c) n (put P j x) where
  row := by rw [podCs_set hj hi hx]; exact (h.row.stored (j * 9 + i) u).1
  own := fun t ht => by
    have key : ∀ s, s < n → Req (w.setCell ⟨g, j * 9 + i, none⟩ u) b0 (P s) := fun s hs => own_blocks1 (h.own s hs) fun k hk => Below.heap_setCell _ _ _ _ fun e => by
      have := typ_one (own_typ (h.own s hs) hk) (e ▸ own_typ h.row rfl)
      exact absurd this (by decide)
    by_cases e : t = j
    · subst e
      rw [put_at]
      have := key t hj
      unfold Req at this ⊢
      rw [hr.1, hr.2.1, hr.2.2.1, hr.2.2.2]
      exact this
    · rw [put_ne _ _ _ e]; exact key t ht
  ok := fun t ht => by
    by_cases e : t = j
    · subst e; rw [put_at]; exact ok
    · rw [put_ne _ _ _ e]; exact h.ok t ht
theorem put_twice (P : Nat → PodV) (j : Nat) (x y : PodV) : put (put P j x) j y = put P j y := by
  funext t
  unfold put
  split <;> rfl
/-- The pod's phase, node and deadline changed. -/
def chg (x : PodV) (h d t : Int) : PodV := { x with h := h, d := d, t := t }
theorem chg_ok {x : PodV} (o : PodOk x) {h d t : Int} (h1 : I64 h) (h2 : I64 d) (h3 : I64 t) : PodOk (chg x h d t) := ⟨o.small, o.range, o.nil, o.rng.1, o.rng.2.1, o.rng.2.2.1, o.rng.2.2.2.1, h1, h2, h3⟩
theorem RowP.chg6 {w : World} {b0 g c n j : Nat} {P : Nat → PodV} (h : RowP w b0 (.slice (some ⟨g, 0, none⟩) n c) n P) (hj : j < n) {a : Int} (ha : I64 a) : RowP (w.setCell ⟨g, j * 9 + 6, none⟩ (.int .i64 a)) b0 (.slice (some ⟨g, 0, none⟩) n c) n (put P j (chg (P j) a (P j).d (P j).t)) :=
  h.field hj (by omega) rfl ⟨rfl, rfl, rfl, rfl⟩ (chg_ok (h.ok j hj) ha (h.ok j hj).rng.2.2.2.2.2.1 (h.ok j hj).rng.2.2.2.2.2.2)
theorem RowP.chg7 {w : World} {b0 g c n j : Nat} {P : Nat → PodV} (h : RowP w b0 (.slice (some ⟨g, 0, none⟩) n c) n P) (hj : j < n) {a : Int} (ha : I64 a) : RowP (w.setCell ⟨g, j * 9 + 7, none⟩ (.int .i64 a)) b0 (.slice (some ⟨g, 0, none⟩) n c) n (put P j (chg (P j) (P j).h a (P j).t)) :=
  h.field hj (by omega) rfl ⟨rfl, rfl, rfl, rfl⟩ (chg_ok (h.ok j hj) (h.ok j hj).rng.2.2.2.2.1 ha (h.ok j hj).rng.2.2.2.2.2.2)
theorem RowP.chg8 {w : World} {b0 g c n j : Nat} {P : Nat → PodV} (h : RowP w b0 (.slice (some ⟨g, 0, none⟩) n c) n P) (hj : j < n) {a : Int} (ha : I64 a) : RowP (w.setCell ⟨g, j * 9 + 8, none⟩ (.int .i64 a)) b0 (.slice (some ⟨g, 0, none⟩) n c) n (put P j (chg (P j) (P j).h (P j).d a)) :=
  h.field hj (by omega) rfl ⟨rfl, rfl, rfl, rfl⟩ (chg_ok (h.ok j hj) (h.ok j hj).rng.2.2.2.2.1 (h.ok j hj).rng.2.2.2.2.2.1 ha)
/-- The three stores for all events but Evict, and Evict's. -/
theorem RowP.set3 {w : World} {b0 g c n j : Nat} {P : Nat → PodV} (h : RowP w b0 (.slice (some ⟨g, 0, none⟩) n c) n P) (hj : j < n) {a d : Int} (ha : I64 a) (hd : I64 d) : RowP (((w.setCell ⟨g, j * 9 + 6, none⟩ (.int .i64 a)).setCell ⟨g, j * 9 + 8, none⟩ (.int .i64 (-1))).setCell ⟨g, j * 9 + 7, none⟩ (.int .i64 d)) b0 (.slice (some ⟨g, 0, none⟩) n c) n (put P j (chg (P j) a d (-1))) := by
  have h1 := ((h.chg6 hj ha).chg8 hj (a := -1) (by unfold I64; omega)).chg7 hj hd
  simp only [put_at, put_twice] at h1
  exact h1
theorem RowP.setT {w : World} {b0 g c n j : Nat} {P : Nat → PodV} (h : RowP w b0 (.slice (some ⟨g, 0, none⟩) n c) n P) (hj : j < n) {a t : Int} (ha : I64 a) (ht : I64 t) : RowP (((w.setCell ⟨g, j * 9 + 6, none⟩ (.int .i64 a)).setCell ⟨g, j * 9 + 8, none⟩ (.int .i64 (-1))).setCell ⟨g, j * 9 + 8, none⟩ (.int .i64 t)) b0 (.slice (some ⟨g, 0, none⟩) n c) n (put P j (chg (P j) a (P j).d t)) := by
  have h1 := ((h.chg6 hj ha).chg8 hj (a := -1) (by unfold I64; omega)).chg8 hj ht
  simp only [put_at, put_twice] at h1
  exact h1
theorem fr_set3 {w : World} {D : Nat → Prop} {g i1 i2 i3 : Nat} {u1 u2 u3 : Value} (hD : D g) : Fr D w (((w.setCell ⟨g, i1, none⟩ u1).setCell ⟨g, i2, none⟩ u2).setCell ⟨g, i3, none⟩ u3) :=
  (((Fr.refl D w).set (by left; exact hD) u1).set (by left; exact hD) u2).set (by left; exact hD) u3
section
variable {w w' : World} {b0 : Nat} {s : Int} {q t m : Nat} {A : Option Addr} {c n : Nat} {P : Nat → PodV}
theorem lst_app (h : ST w b0 s q t m A c n P) {j : Nat} (hj : j < n) {e nd dl : Int} (hx : nx (P j).h e ≠ 0) : (lst (put P j (appP (P j) e nd dl)) n).map nm = appL ((lst P n).map nm) (P j).k e nd dl ∧ appC ((lst P n).map nm) (P j).k e = 0 := by
  have hc : appC ((lst P n).map nm) (P j).k e = 0 := by
    unfold appC
    rw [keys_nm, ← get_nm, h.get hj, if_neg (not_not_intro (key_in hj)), if_neg (show ¬ nx (nm (P j)).h e = 0 from hx)]
  refine ⟨?_, hc⟩
  unfold appL
  rw [if_pos hc]
  unfold lst
  rw [List.map_map, List.map_map, List.map_map]
  refine List.map_congr_left fun i hi => ?_
  show nm (put P j (appP (P j) e nd dl) i) = if (nm (P i)).k = (P j).k then appP (nm (P i)) e nd dl else nm (P i)
  by_cases e1 : i = j
  · rw [e1, put_at, nm_k, if_pos rfl, nm_app]
  · rw [put_ne _ _ _ e1, nm_k, if_neg fun e2 => e1 (h.uniq (List.mem_range.1 hi) hj e2)]
/-- The store behind a pod's change. -/
theorem ST.app (h : ST w b0 s q t m A c n P) {j : Nat} (hj : j < n) {e nd dl : Int} (hx : nx (P j).h e ≠ 0) (f : Fr (fun i => (Value.slice A n c).ownBlock = some i) w w') (hr : RowP w' b0 (.slice A n c) n (put P j (appP (P j) e nd dl))) : ST w' b0 s q t m A c n (put P j (appP (P j) e nd dl)) := by
  have nq : ¬ (Value.slice A n c).ownBlock = some q := fun e => absurd (typ_one (h.tg e) h.tq) (by decide)
  have nt : ¬ (Value.slice A n c).ownBlock = some t := fun e => absurd (typ_one (h.tg e) h.tt) (by decide)
  have nm' : ¬ (Value.slice A n c).ownBlock = some m := fun e => h.offT (h.tg e) rfl
  have ep : prs (put P j (appP (P j) e nd dl)) n = prs P n := prs_congr fun i hi => by
    by_cases e1 : i = j
    · rw [e1, put_at]; rfl
    · rw [put_ne _ _ _ e1]
  refine ⟨(f.block _ (lt_blk h.hq) nq).trans h.hq, ?_, hr, h.bq, h.bt, h.bm, ?_⟩
  · rw [ep]; exact h.tb.fr f nt nm'
  · rw [(lst_app h hj hx).1]
    exact appL_ok h.lk
end
end Go.Proofs.YtfidlljhmebpmaaDoor.T13
