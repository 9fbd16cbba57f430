/-
  The reference's Change. Conditions: at most 1000 nodes, sorted, each in order; at most 1000 amounts.
-/
import Derived.Test.YtokopegffeablaaGreatDoorAmtN12
import Derived.StillTailTactics
import Derived.Deep.CutBlock
namespace Go.Proofs.YtokopegffeablaaGreatDoor.T12
open Go.RowKit Go.Sort Go.Lib V12

/-- A usage that is changed as far as m. -/
def part (r : Bool) (U Z : Nat → Int) (m : Nat) : Nat → Int := fun t => if t < m then chU r U Z t else U t
theorem part_zero (r : Bool) (U Z : Nat → Int) : part r U Z 0 = U := funext fun _ => if_neg (Nat.not_lt_zero _)
theorem part_at (r : Bool) (U Z : Nat → Int) (m : Nat) : part r U Z m m = U m := if_neg (Nat.lt_irrefl _)
theorem part_set (r : Bool) (U Z : Nat → Int) {n m : Nat} (h : m < n) : (rowL n (part r U Z m)).set m (.int .i64 (chU r U Z m)) = rowL n (part r U Z (m + 1)) := by
  refine List.ext_getElem? fun j => ?_
  rw [List.getElem?_set]
  by_cases e : m = j
  · subst e
    simp [rowL, part, h]
  · rw [if_neg e]
    by_cases hj : j < n
    · have e2 : part r U Z m j = part r U Z (m + 1) j := by
        unfold part
        by_cases hm : j < m
        · rw [if_pos hm, if_pos (by omega)]
        · rw [if_neg hm, if_neg (by omega)]
      simp [rowL, hj, e2]
    · simp [rowL, hj]
theorem part_full (r : Bool) (U Z : Nat → Int) (n : Nat) : rowL n (part r U Z n) = rowL n (chU r U Z) :=
  List.map_congr_left fun k hk => by show Value.int _ (if k < n then _ else _) = _; rw [if_pos (List.mem_range.1 hk)]
theorem own_cellI {w : World} {base g n cap j : Nat} {D : Nat → Int} (h : w.ownsRow base 2 1 (.slice (some ⟨g, 0, none⟩) n cap) n (rowL n D)) (hj : j < n) : w.cell? ⟨g, j, none⟩ = some (.int .i64 (D j)) := by
  rw [h.cellAt j (by omega)]
  simp [rowL, hj]
/-- A row of nodes with another usage at i. -/
theorem celN_put {w : World} {g n i : Nat} {Q : Nat → RnV} {B : Option Addr} {m d : Nat} (U : Nat → Int) (h : ∀ j, j < n → CelN w g (0 + j * 3) (Q j)) (hi : i < n) : ∀ j, j < n →
    CelN (w.setCell ⟨g, i * 3 + 2, none⟩ (.slice B m d)) g (0 + j * 3) (put Q i ⟨(Q i).k, (Q i).A, (Q i).n, (Q i).c, (Q i).C, B, m, d, U⟩ j) := by
  intro j hj
  have c := h j hj
  have ci := h i hi
  rw [Nat.zero_add] at c ci ⊢
  by_cases e : j = i
  · subst e
    rw [put_at]
    refine ⟨?_, ?_, World.cell?_setCell_same _ _ _ (u := .slice (Q j).B (Q j).m (Q j).d) ci.e2⟩
    · rw [World.cell?_setCell_other (a := ⟨g, j * 3 + 2, none⟩) (b := ⟨g, j * 3, none⟩) (h := by simp)]
      exact ci.e0
    · rw [World.cell?_setCell_other (a := ⟨g, j * 3 + 2, none⟩) (b := ⟨g, j * 3 + 1, none⟩) (h := by simp)]
      exact ci.e1
  · rw [put_ne _ _ _ e]
    refine ⟨?_, ?_, ?_⟩
    · rw [World.cell?_setCell_other (a := ⟨g, i * 3 + 2, none⟩) (b := ⟨g, j * 3, none⟩) (h := by simp <;> omega)]
      exact c.e0
    · rw [World.cell?_setCell_other (a := ⟨g, i * 3 + 2, none⟩) (b := ⟨g, j * 3 + 1, none⟩) (h := by simp <;> omega)]
      exact c.e1
    · rw [World.cell?_setCell_other (a := ⟨g, i * 3 + 2, none⟩) (b := ⟨g, j * 3 + 2, none⟩) (h := by simp <;> omega)]
      exact c.e2
/-- The list with x in place of the one with its key. -/
theorem rep_put {P : Nat → RnV} {n i : Nat} {x : RnV} (hs : Srt (lst P n)) (hi : i < n) (hk : (P i).k = x.k) : ∀ j, j < n → put P i x j = row (repL (lst P n) x) j := by
  intro j hj
  have e1 : (repL (lst P n) x)[j]? = some (if (P j).k = x.k then x else P j) := by unfold repL; rw [List.getElem?_map, lst_get hj]; rfl
  unfold row
  rw [List.getD_eq_getElem?_getD, e1]
  show _ = if (P j).k = x.k then x else P j
  by_cases e : j = i
  · subst e
    rw [put_at, if_pos hk]
  · rw [put_ne _ _ _ e, if_neg]
    intro h2
    have hp := srt_keys.1 hs
    unfold keys at hp
    rw [List.pairwise_map] at hp
    have g : ∀ s t, s < t → t < n → (P s).k < (P t).k := fun s t h1 h3 => by
      have hq := List.pairwise_iff_getElem.1 hp s t (by rw [lst_len]; omega) (by rw [lst_len]; omega) h1
      have e1 := lst_get (Q := P) (n := n) (j := s) (by omega)
      have e2 := lst_get (Q := P) (n := n) (j := t) h3
      rw [List.getElem?_eq_getElem (by rw [lst_len]; omega)] at e1 e2
      rw [Option.some.inj e1, Option.some.inj e2] at hq
      exact hq
    rcases Nat.lt_or_gt_of_ne e with h3 | h3
    · have := g j i h3 hi
      omega
    · have := g i j h3 hj
      omega
theorem map_rep (x : RnV) (L : List RnV) : (repL L x).map node = G.rep NodeV.k (L.map node) (node x) := G.map_rep (ka := RnV.k) (kb := NodeV.k) node_k L x
theorem map_get (L : List RnV) (id : Int) : node (getL L id) = G.get NodeV.k zn (L.map node) id := G.map_get (ka := RnV.k) (kb := NodeV.k) node_k zp L id
/-- The end: the list behind a change. -/
theorem rch_end {w w3 : World} {d : Nat} {B : Option Addr} {cp : Nat} {l : List RnV} (h : RL w d B cp l) (hs : Srt l) {i : Nat} (hi : i < l.length) {A6 : Option Addr} {c6 : Nat} {U : Nat → Int} (k3 : Keep w w3) (ru : Rd w3 A6 d U) (nu : A6 = none → d = 0 ∧ c6 = 0)
    {base g2 cap2 : Nat} (hb : w.heap.size ≤ base) (ho : w3.ownsRow base 42 3 (.slice (some ⟨g2, 0, none⟩) l.length cap2) l.length (rnCs (row l) l.length)) (hoff : Off (fun k => k = g2) A6 d) :
    Keep w (w3.setCell ⟨g2, i * 3 + 2, none⟩ (.slice A6 d c6)) ∧ ∃ l', l'.length = l.length ∧ RL (w3.setCell ⟨g2, i * 3 + 2, none⟩ (.slice A6 d c6)) d (some ⟨g2, 0, none⟩) cap2 l' ∧ l'.map node = G.rep NodeV.k (l.map node) ⟨(row l i).k, (row l i).C, U⟩ := by
  obtain ⟨x, hx⟩ : ∃ x : RnV, x = ⟨(row l i).k, (row l i).A, (row l i).n, (row l i).c, (row l i).C, A6, d, c6, U⟩ := ⟨_, rfl⟩
  have hg : w.heap.size ≤ g2 := Nat.le_trans hb (ho.lt g2 rfl).1
  have KK : Keep w (w3.setCell ⟨g2, i * 3 + 2, none⟩ (.slice A6 d c6)) := Keep.set k3 hg _
  have hm : row l i ∈ l := by
    unfold row
    rw [List.getD_eq_getElem?_getD, List.getElem?_eq_getElem hi]
    exact List.getElem_mem hi
  have FS : Fr (fun k => k = g2) w3 (w3.setCell ⟨g2, i * 3 + 2, none⟩ (.slice A6 d c6)) := Fr.set (D := fun k => k = g2) (p := ⟨g2, i * 3 + 2, none⟩) (Fr.refl _ _) (by left; rfl) _
  have el : (repL l x).length = l.length := rep_len _ _
  have is0 := h.is _ hm
  have rl := lst_row l
  have isx : NIs (w3.setCell ⟨g2, i * 3 + 2, none⟩ (.slice A6 d c6)) d x := by
    rw [hx]
    refine ⟨is0.n, rfl, is0.rc.keep KK, ⟨ru.small, ru.range, fun hn => ?_⟩, is0.na, nu⟩
    obtain ⟨b, off, e, hc⟩ := ru.adr hn
    have := hoff b off e hn
    exact ⟨b, off, e, fun j hj => FS.cell (hc j hj) this⟩
  refine ⟨KK, repL l x, el, ⟨?_, ?_, Or.inr ⟨g2, 0, rfl⟩, fun y hy => ?_, fun b off e => (typ_own ho b off e).set _ _⟩, by rw [map_rep, hx]; rfl⟩
  · rw [el]
    refine ⟨by have := h.rd.small; omega, fun _ => ⟨g2, 0, rfl, fun j hj => ?_⟩, fun j hj => ?_⟩
    · have e1 := rep_put (P := row l) (n := l.length) (x := x) (i := i) (by rw [rl]; exact hs) hi (by rw [hx]) j hj
      rw [rl] at e1
      rw [← e1, hx]
      exact celN_put U (fun t ht => row_cel ho ht) hi j hj
    · refine row_ok (L := repL l x) (fun y hy => ?_) j (by rw [el]; exact hj)
      rcases rep_mem hy with hy | rfl
      · rw [← rl] at hy
        exact lst_ok h.rd.ok y hy
      · rw [hx]; exact ⟨(h.rd.ok i hi).k, trivial⟩
  · rw [el]; exact own_cap ho
  · rcases rep_mem hy with hy | rfl
    · exact (h.is y hy).keep KK
    · exact isx
set_option maxRecDepth 100000 in
set_option maxHeartbeats 16000000 in
theorem rch_none {w : World} {d : Nat} {B : Option Addr} {cp : Nat} {l : List RnV} (h : RL w d B cp l) (id : Int) (A : Option Addr) (n c : Nat) (Z : Nat → Int) (r : Bool) (hv : Rd w A n Z) (hk : id ∉ keys l) :
    Calls Tryz.prog 27 #[.slice B l.length cp, .int .i64 d, .int .i64 id, .slice A n c, .bool r] w fun e w' => ∃ B' c' l', e = .returned (.tuple #[.slice B' l'.length c', .int .i64 5, .int .i64 0]) ∧ Keep w w' ∧ RL w' d B' c' l' ∧ l'.map node = l.map node := by
  obtain ⟨N, hN⟩ : ∃ N, N = l.length := ⟨_, rfl⟩
  have cF := Lib.hid (rfind_fn B l.length cp (row l) id w h.rd)
  have cW := Lib.hid (rwrong_any A n c Z d w hv)
  have fk := find_iff (P := row l) (id := id) (n := l.length)
  rw [lst_row] at fk
  obtain ⟨f, hf⟩ : ∃ f, f = findN (row l) id l.length := ⟨_, rfl⟩
  rw [← hf] at cF fk
  have hin : f < 0 := by have := mt fk.1 hk; omega
  replace hf := Lib.hid hf
  replace fk := Lib.hid fk
  replace hk := Lib.hid hk
  have fin : Hid (RL w d B cp l) := h
  have H := Lib.hid hN
  clear h hv hN cW
  go_enter Tryz.func27, Tryz.ntmps27
  go_wp2_with fail
  refine cF.out.mono ?_
  rintro e w1 ⟨rfl, rfl⟩
  go_wp2
  go_ret3
  exact ⟨B, cp, l, rfl, Keep.refl _, fin.out, rfl⟩
set_option maxRecDepth 100000 in
set_option maxHeartbeats 16000000 in
theorem rch_wrong {w : World} {d : Nat} {B : Option Addr} {cp : Nat} {l : List RnV} (h : RL w d B cp l) (id : Int) (A : Option Addr) (n c : Nat) (Z : Nat → Int) (r : Bool) (hv : Rd w A n Z) (hk : id ∈ keys l) (hwq : 0 ≤ wrongOf n Z d) :
    Calls Tryz.prog 27 #[.slice B l.length cp, .int .i64 d, .int .i64 id, .slice A n c, .bool r] w fun e w' => ∃ B' c' l', e = .returned (.tuple #[.slice B' l'.length c', .int .i64 3, .int .i64 (wrongOf n Z d)]) ∧ Keep w w' ∧ RL w' d B' c' l' ∧ l'.map node = l.map node := by
  obtain ⟨N, hN⟩ : ∃ N, N = l.length := ⟨_, rfl⟩
  have cF := Lib.hid (rfind_fn B l.length cp (row l) id w h.rd)
  have cW := Lib.hid (rwrong_any A n c Z d w hv)
  have fk := find_iff (P := row l) (id := id) (n := l.length)
  rw [lst_row] at fk
  obtain ⟨f, hf⟩ : ∃ f, f = findN (row l) id l.length := ⟨_, rfl⟩
  rw [← hf] at cF fk
  have hin : ¬ f < 0 := by have := fk.2 hk; omega
  obtain ⟨wr0, hwr0⟩ : ∃ z, z = wrongOf n Z d := ⟨_, rfl⟩
  rw [← hwr0] at cW hwq ⊢
  replace hwr0 := Lib.hid hwr0
  replace hf := Lib.hid hf
  replace fk := Lib.hid fk
  replace hk := Lib.hid hk
  have fin : Hid (RL w d B cp l) := h
  have H := Lib.hid hN
  clear h hv hN
  go_enter Tryz.func27, Tryz.ntmps27
  go_wp2_with fail
  refine cF.out.mono ?_
  rintro e w1 ⟨rfl, rfl⟩
  go_wp2_with fail
  refine cW.out.mono ?_
  rintro e w1 ⟨rfl, rfl⟩
  go_wp2
  go_ret3
  exact ⟨B, cp, l, rfl, Keep.refl _, fin.out, rfl⟩
def cdOk (b : Bool) : Int := if b = true then 0 else 10
set_option maxRecDepth 100000 in
set_option maxHeartbeats 16000000 in
theorem rch_some {w : World} {d : Nat} {B : Option Addr} {cp : Nat} {l : List RnV} (h : RL w d B cp l) (id : Int) (A : Option Addr) (n c : Nat) (Z : Nat → Int) (r : Bool) (hv : Rd w A n Z) (hd : d ≤ 1000) (hl : l.length ≤ 1000) (hs : Srt l) (hok : ∀ x ∈ l, NodeOk d (node x)) (hk : id ∈ keys l) (hwq : ¬ 0 ≤ wrongOf n Z d) (ok : Bool) (hb : ok = chOk d (G.get NodeV.k zn (l.map node) id) r Z) :
    Calls Tryz.prog 27 #[.slice B l.length cp, .int .i64 d, .int .i64 id, .slice A n c, .bool r] w fun e w' => ∃ B' c' l', e = .returned (.tuple #[.slice B' l'.length c', .int .i64 (cdOk ok), .int .i64 0]) ∧ Keep w w' ∧ RL w' d B' c' l' ∧ l'.map node = (if ok = true then G.rep NodeV.k (l.map node) ⟨id, (G.get NodeV.k zn (l.map node) id).C, chU r (G.get NodeV.k zn (l.map node) id).U Z⟩ else l.map node) := by
  obtain ⟨N, hN⟩ : ∃ N, N = l.length := ⟨_, rfl⟩
  have cF := Lib.hid (rfind_fn B l.length cp (row l) id w h.rd)
  have cW := Lib.hid (rwrong_any A n c Z d w hv)
  have fk := find_iff (P := row l) (id := id) (n := l.length)
  rw [lst_row] at fk
  obtain ⟨rfl, hz⟩ := wrong_no hwq
  obtain ⟨i, hi, hf, hki, hget⟩ : ∃ i, i < l.length ∧ findN (row l) id l.length = (i : Int) ∧ (row l i).k = id ∧ getL l id = row l i := by
    rcases find_cases (row l) id l.length with ⟨_, h1⟩ | ⟨j, h1, h2, h3, _, h4⟩
    · rw [lst_row] at h1; exact absurd hk h1
    · rw [lst_row] at h4; exact ⟨j, h1, h2, h3, h4⟩
  rw [hf] at cF
  rw [← map_get, hget] at hb ⊢
  have hm : row l i ∈ l := by
    unfold row
    rw [List.getD_eq_getElem?_getD, List.getElem?_eq_getElem hi]
    exact List.getElem_mem hi
  have is0 := h.is _ hm
  have ok0 := hok _ hm
  have hin2 : Hid (∀ {w3 : World} {A6 : Option Addr} {c6 : Nat}, Keep w w3 → Rd w3 A6 n (chU r (row l i).U Z) → (A6 = none → n = 0 ∧ c6 = 0) → ∀ {base g2 cap2 : Nat}, w.heap.size ≤ base → w3.ownsRow base 42 3 (.slice (some ⟨g2, 0, none⟩) l.length cap2) l.length (rnCs (row l) l.length) → Off (fun k => k = g2) A6 n → Keep w (w3.setCell ⟨g2, i * 3 + 2, none⟩ (.slice A6 n c6)) ∧ ∃ l', l'.length = l.length ∧ RL (w3.setCell ⟨g2, i * 3 + 2, none⟩ (.slice A6 n c6)) n (some ⟨g2, 0, none⟩) cap2 l' ∧ l'.map node = G.rep NodeV.k (l.map node) ⟨(row l i).k, (row l i).C, chU r (row l i).U Z⟩) := fun k3 ru nu _ _ _ hb2 ho hoff => rch_end h hs hi k3 ru nu hb2 ho hoff
  have fin : Hid (RL w n B cp l) := h
  have RW : Hid (RdN w B l.length (row l)) := h.rd
  have hcap := h.cap
  rw [hki] at hin2
  obtain ⟨b, off, rfl⟩ : ∃ b off, B = some ⟨b, off, none⟩ := by
    obtain ⟨b, off, e, _⟩ := h.rd.adr (by omega)
    exact ⟨b, off, e⟩
  have CA : CelN w b (off + i * 3) (row l i) := by
    obtain ⟨b', off', e', ca⟩ := h.rd.adr (by omega)
    have e2 := Option.some.inj e'
    simp only [Addr.mk.injEq, and_true] at e2
    obtain ⟨rfl, rfl⟩ := e2
    exact ca i hi
  obtain ⟨M, hM⟩ : ∃ M, M = l.map node := ⟨_, rfl⟩
  obtain ⟨x, hx⟩ : ∃ x, x = row l i := ⟨_, rfl⟩
  rw [← hx] at CA is0 ok0 hin2 hb ⊢
  rw [← hM] at hin2 ⊢
  rw [← hN] at hin2 RW hcap hi hl cF ⊢
  have hnm := is0.m
  have hnn := is0.n
  have rc := Lib.hid is0.rc
  have ru := Lib.hid is0.ru
  have nb := Lib.hid is0.nb
  have lo := Lib.hid ok0.lo
  have hi' := Lib.hid ok0.hi
  have mx := Lib.hid ok0.max
  have HV := Lib.hid hv
  have HZ := Lib.hid hz
  have HB : Hid (ok = chOk n (node x) r Z) := hb
  have HN := Lib.hid hN
  have HM := Lib.hid hM
  replace hx := Lib.hid hx
  replace hf := Lib.hid hf
  replace fk := Lib.hid fk
  replace hki := Lib.hid hki
  replace hget := Lib.hid hget
  replace hs := Lib.hid hs
  replace hk := Lib.hid hk
  replace hok := Lib.hid hok
  replace hm := Lib.hid hm
  clear h is0 ok0 hv hz hb hN hM
  have x1 := CA.e1
  have x2 := CA.e2
  clear CA
  rw [hnm] at x2
  rw [hnn] at x1
  have hnb : Hid (x.B = none → n = 0 ∧ x.d = 0) := by rw [← hnm]; exact nb.out
  have hq1 := atN b off N cp i hi
  obtain ⟨U, hU⟩ : ∃ U, U = x.U := ⟨_, rfl⟩
  obtain ⟨C, hC⟩ : ∃ C, C = x.C := ⟨_, rfl⟩
  obtain ⟨xA, hxA⟩ : ∃ xA, xA = x.A := ⟨_, rfl⟩
  obtain ⟨xB, hxB⟩ : ∃ xB, xB = x.B := ⟨_, rfl⟩
  obtain ⟨xc, hxc⟩ : ∃ xc, xc = x.c := ⟨_, rfl⟩
  obtain ⟨xd, hxd⟩ : ∃ xd, xd = x.d := ⟨_, rfl⟩
  rw [← hxA, ← hxc] at x1
  rw [← hxB, ← hxd] at x2
  rw [← hxB, ← hxd] at hnb
  rw [← hU, ← hC] at hin2
  have ru' : Hid (Rd w xB n U) := by rw [hxB, hU]; exact ru.out
  have rc' : Hid (Rd w xA n C) := by rw [hxA, hC]; exact rc.out
  have lo' : Hid (∀ j, j < n → 0 ≤ U j) := by rw [hU]; exact lo.out
  have hi'' : Hid (∀ j, j < n → U j ≤ C j) := by rw [hU, hC]; exact hi'.out
  have mx' : Hid (∀ j, j < n → C j ≤ 1099511627776) := by rw [hC]; exact mx.out
  have HB' : Hid (ok = true ↔ ∀ j, j < n → 0 ≤ chU r U Z j ∧ chU r U Z j ≤ C j) := by
    have := chOk_iff (d := n) (x := node x) (r := r) (Z := Z)
    rw [← HB.out] at this
    rw [hU, hC]
    exact this
  have goalE : Hid ((if ok = true then G.rep NodeV.k M ⟨id, (node x).C, chU r (node x).U Z⟩ else M) = if ok = true then G.rep NodeV.k M ⟨id, C, chU r U Z⟩ else M) := by rw [hU, hC]; exact rfl
  rw [goalE.out]
  obtain ⟨LL, hLL⟩ : ∃ LL, LL = if ok = true then G.rep NodeV.k M ⟨id, C, chU r U Z⟩ else M := ⟨_, rfl⟩
  rw [← hLL]
  replace hLL := Lib.hid hLL
  have badE : Hid (∀ m, m < n → ¬ (0 ≤ chU r U Z m ∧ chU r U Z m ≤ C m) → ok = false ∧ LL = M) := fun m hm hno => by
    have e : ok = false := by
      cases ok
      · rfl
      · exact absurd (HB'.out.1 rfl m hm) hno
    refine ⟨e, ?_⟩
    rw [hLL.out, e]
    rfl
  have goodE : Hid ((∀ j, j < n → 0 ≤ chU r U Z j ∧ chU r U Z j ≤ C j) → ok = true ∧ LL = G.rep NodeV.k M ⟨id, C, chU r U Z⟩) := fun hj => by
    have e := HB'.out.2 hj
    refine ⟨e, ?_⟩
    rw [hLL.out, e]
    rfl
  clear goalE hLL HB' HB ru rc lo hi' mx nb
  replace hU := Lib.hid hU
  replace hC := Lib.hid hC
  replace hxA := Lib.hid hxA
  replace hxB := Lib.hid hxB
  replace hxc := Lib.hid hxc
  replace hxd := Lib.hid hxd
  replace hnm := Lib.hid hnm
  replace hnn := Lib.hid hnn
  obtain ⟨wr0, hwr0⟩ : ∃ z, z = wrongOf n Z n := ⟨_, rfl⟩
  rw [← hwr0] at cW hwq
  replace hwr0 := Lib.hid hwr0
  have hid0 : (0 : Int) ≤ (i : Int) := by omega
  have hbl := cell_lt x2
  go_enter Tryz.func27, Tryz.ntmps27
  go_wp2_with fail
  refine cF.out.mono ?_
  rintro e w1 ⟨rfl, rfl⟩
  clear cF
  go_wp2_with fail
  refine cW.out.mono ?_
  rintro e w1 ⟨rfl, rfl⟩
  clear cW
  go_wp2_with (at_builtin; refine wpl_amounts rfl _ _ rfl w1.heap.size (.slice (some ⟨w1.heap.size, 0, none⟩) 0 0) (by simp [Act.eval]) (own_none (Nat.le_refl _) (heap_alloc_new _ _)) xB n xd U (by simp [Act.eval]) (ru'.out.keep (Keep.one _ _)) hnb.out (by omega) (by simp) ?_; intro v3 w3 hr3 hg3; obtain ⟨A6, c6, hv6, nl6⟩ := own_form hr3; subst hv6; have K3 : Hid (Keep w1 w3) := keep_grown (Keep.one _ _) hg3 (fun q hq => by simp [Value.ownBlock] at hq; omega); replace hr3 := Lib.hid hr3; replace hg3 := Lib.hid hg3; replace nl6 := Lib.hid nl6)
  have hr4 : Hid (w3.ownsRow w1.heap.size 2 1 (.slice A6 n c6) n (rowL n (part r U Z 0))) := by rw [part_zero]; exact hr3.out
  have X1 := Lib.hid x1
  clear hr3 hg3 x1 x2 hbl
  go_loopg [16] n (fun gx s16 wr => ∃ m : Nat, s16 = .int .i64 m ∧ m ≤ n ∧ gx = n - m ∧ Hid (Keep w1 wr) ∧ Hid (wr.ownsRow w1.heap.size 2 1 (.slice A6 n c6) n (rowL n (part r U Z m))) ∧ Hid (∀ j, j < m → 0 ≤ chU r U Z j ∧ chU r U Z j ≤ C j))
  case atStart => exact ⟨0, rfl, Nat.zero_le _, rfl, K3, hr4, fun j h => absurd h (Nat.not_lt_zero _)⟩
  case round =>
    obtain ⟨m, rfl, hm, rfl, KQ, OQ, LQ⟩ := hrel
    by_cases hlt : m < n
    · obtain ⟨g, cap, e, _, _⟩ := OQ.out.form (by omega)
      simp only [Value.slice.injEq] at e
      obtain ⟨rfl, _, rfl⟩ := e
      have hg : Hid (w1.heap.size ≤ g) := (OQ.out.lt g rfl).1
      have c0 : wr.cell? ⟨g, m, none⟩ = some (.int .i64 (U m)) := by have := own_cellI OQ.out hlt; rwa [part_at] at this
      have f0 : wr.frozen? ⟨g, m, none⟩ = false := OQ.out.frozenAt m
      obtain ⟨b2, off2, e2, cv⟩ := (HV.out.keep KQ.out).adr (by omega)
      subst e2
      have c1 := cv m hlt
      clear cv
      have hu0 := lo'.out m hlt
      have hu1 : U m ≤ 1099511627776 := by have := hi''.out m hlt; have := mx'.out m hlt; omega
      obtain ⟨hz0, hz1⟩ := HZ.out m hlt
      obtain ⟨u, hu⟩ : ∃ u, u = U m := ⟨_, rfl⟩
      obtain ⟨z, hzz⟩ : ∃ z, z = Z m := ⟨_, rfl⟩
      rw [← hu] at c0 hu0 hu1
      rw [← hzz] at c1 hz0 hz1
      replace hu := Lib.hid hu
      replace hzz := Lib.hid hzz
      cases r with
      | true =>
        have ew : IntKind.i64.wrap (u - z) = u - z := by rw [IntKind.wrap_i64]; omega
        have ew2 : wrap64 (u - z) = u - z := by unfold wrap64; omega
        go_wp2_with fail
        go_still_tail 12, (by kernel_rfl)
        change wpList _ _ _ _ _ wr.drew
        have K5' : Hid (Keep w1 ((wr.setCell ⟨g, m, none⟩ (.int .i64 (u - z))).drew)) := ((KQ.out).set (by show _ ≤ g; exact hg.out) _).drew
        have O5' : Hid (((wr.setCell ⟨g, m, none⟩ (.int .i64 (u - z))).drew).ownsRow w1.heap.size 2 1 (.slice (some ⟨g, 0, none⟩) n c6) n (rowL n (part true U Z (m + 1)))) := by
          have h1 : wr.ownsRow w1.heap.size 2 1 (.slice (some ⟨g, 0, none⟩) n c6) n (rowL n (part true U Z m)) := OQ.out
          have h2 := (h1.stored m (.int .i64 (u - z))).1
          rw [hu.out, hzz.out] at h2 ⊢
          rw [← part_set true U Z hlt]
          exact h2
        go_wp2_with fail
        obtain ⟨w5, h5⟩ : ∃ w5, w5 = (wr.setCell ⟨g, m, none⟩ (.int .i64 (u - z))).drew := ⟨_, rfl⟩
        rw [← h5] at K5' O5' ⊢
        replace h5 := Lib.hid h5
        obtain ⟨q, hq⟩ : ∃ q, q = u - z := ⟨_, rfl⟩
        have hqq : Hid (q = chU true U Z m) := by rw [hq, hu.out, hzz.out]; rfl
        rw [← hq]
        replace hq := Lib.hid hq
        clear c0 c1 f0 ew ew2 hu0 hu1 hz0 hz1
        have hD : Hid (part true U Z (m + 1) m = q) := by rw [hqq.out]; exact if_pos (by omega)
        have d0 : w5.cell? ⟨g, m, none⟩ = some (.int .i64 q) := by have := own_cellI O5'.out hlt; rwa [hD.out] at this
        have y1 := K5'.out.cell X1.out
        obtain ⟨b3, off3, e3, c3⟩ := (rc'.out.keep K5'.out).adr (by omega)
        subst e3
        have d1 := c3 m hlt
        clear c3
        obtain ⟨v, hv⟩ : ∃ v, v = C m := ⟨_, rfl⟩
        rw [← hv] at d1
        replace hv := Lib.hid hv
        by_cases g1 : q < 0
        · go_quiet (fail)
          go_wp2
          obtain ⟨rfl, rfl⟩ := badE.out m hlt (by rw [← hqq.out, ← hv.out]; omega)
          obtain rfl := HN.out
          go_ret3
          exact ⟨_, _, l, rfl, K5'.out.drewN nq, fin.out.keep (K5'.out.drewN nq), HM.out.symm⟩
        · by_cases g2 : v < q
          · go_quiet (fail)
            go_wp2
            obtain ⟨rfl, rfl⟩ := badE.out m hlt (by rw [← hqq.out, ← hv.out]; omega)
            obtain rfl := HN.out
            go_ret3
            exact ⟨_, _, l, rfl, K5'.out.drewN nq, fin.out.keep (K5'.out.drewN nq), HM.out.symm⟩
          · go_quiet (fail)
            have L5 : Hid (∀ j, j < m + 1 → 0 ≤ chU true U Z j ∧ chU true U Z j ≤ C j) := fun j hj => by
              by_cases e : j = m
              · rw [e, ← hqq.out, ← hv.out]; omega
              · exact LQ.out j (by omega)
            have K6 : Hid (Keep w1 (w5.drewN nq)) := K5'.out.drewN nq
            have O6 : Hid ((w5.drewN nq).ownsRow w1.heap.size 2 1 (.slice (some ⟨g, 0, none⟩) n c6) n (rowL n (part true U Z (m + 1)))) := O5'.out
            clear d0 d1 y1
            go_wp2
            go_roundg (n - (m + 1))
            case measure => omega
            case rel => exact ⟨m + 1, by go_num, hlt, rfl, K6, O6, L5⟩
      | false =>
        have ew : IntKind.i64.wrap (u + z) = u + z := by rw [IntKind.wrap_i64]; omega
        have ew2 : wrap64 (u + z) = u + z := by unfold wrap64; omega
        go_wp2_with fail
        go_still_tail 12, (by kernel_rfl)
        change wpList _ _ _ _ _ wr.drew
        have K5' : Hid (Keep w1 ((wr.setCell ⟨g, m, none⟩ (.int .i64 (u + z))).drew)) := ((KQ.out).set (by show _ ≤ g; exact hg.out) _).drew
        have O5' : Hid (((wr.setCell ⟨g, m, none⟩ (.int .i64 (u + z))).drew).ownsRow w1.heap.size 2 1 (.slice (some ⟨g, 0, none⟩) n c6) n (rowL n (part false U Z (m + 1)))) := by
          have h1 : wr.ownsRow w1.heap.size 2 1 (.slice (some ⟨g, 0, none⟩) n c6) n (rowL n (part false U Z m)) := OQ.out
          have h2 := (h1.stored m (.int .i64 (u + z))).1
          rw [hu.out, hzz.out] at h2 ⊢
          rw [← part_set false U Z hlt]
          exact h2
        go_wp2_with fail
        obtain ⟨w5, h5⟩ : ∃ w5, w5 = (wr.setCell ⟨g, m, none⟩ (.int .i64 (u + z))).drew := ⟨_, rfl⟩
        rw [← h5] at K5' O5' ⊢
        replace h5 := Lib.hid h5
        obtain ⟨q, hq⟩ : ∃ q, q = u + z := ⟨_, rfl⟩
        have hqq : Hid (q = chU false U Z m) := by rw [hq, hu.out, hzz.out]; rfl
        rw [← hq]
        replace hq := Lib.hid hq
        clear c0 c1 f0 ew ew2 hu0 hu1 hz0 hz1
        have hD : Hid (part false U Z (m + 1) m = q) := by rw [hqq.out]; exact if_pos (by omega)
        have d0 : w5.cell? ⟨g, m, none⟩ = some (.int .i64 q) := by have := own_cellI O5'.out hlt; rwa [hD.out] at this
        have y1 := K5'.out.cell X1.out
        obtain ⟨b3, off3, e3, c3⟩ := (rc'.out.keep K5'.out).adr (by omega)
        subst e3
        have d1 := c3 m hlt
        clear c3
        obtain ⟨v, hv⟩ : ∃ v, v = C m := ⟨_, rfl⟩
        rw [← hv] at d1
        replace hv := Lib.hid hv
        by_cases g1 : q < 0
        · go_quiet (fail)
          go_wp2
          obtain ⟨rfl, rfl⟩ := badE.out m hlt (by rw [← hqq.out, ← hv.out]; omega)
          obtain rfl := HN.out
          go_ret3
          exact ⟨_, _, l, rfl, K5'.out.drewN nq, fin.out.keep (K5'.out.drewN nq), HM.out.symm⟩
        · by_cases g2 : v < q
          · go_quiet (fail)
            go_wp2
            obtain ⟨rfl, rfl⟩ := badE.out m hlt (by rw [← hqq.out, ← hv.out]; omega)
            obtain rfl := HN.out
            go_ret3
            exact ⟨_, _, l, rfl, K5'.out.drewN nq, fin.out.keep (K5'.out.drewN nq), HM.out.symm⟩
          · go_quiet (fail)
            have L5 : Hid (∀ j, j < m + 1 → 0 ≤ chU false U Z j ∧ chU false U Z j ≤ C j) := fun j hj => by
              by_cases e : j = m
              · rw [e, ← hqq.out, ← hv.out]; omega
              · exact LQ.out j (by omega)
            have K6 : Hid (Keep w1 (w5.drewN nq)) := K5'.out.drewN nq
            have O6 : Hid ((w5.drewN nq).ownsRow w1.heap.size 2 1 (.slice (some ⟨g, 0, none⟩) n c6) n (rowL n (part false U Z (m + 1)))) := O5'.out
            clear d0 d1 y1
            go_wp2
            go_roundg (n - (m + 1))
            case measure => omega
            case rel => exact ⟨m + 1, by go_num, hlt, rfl, K6, O6, L5⟩
    · obtain rfl : m = n := by omega
      obtain ⟨rfl, rfl⟩ := goodE.out LQ.out
      clear badE goodE
      have OF : Hid (wr.ownsRow w1.heap.size 2 1 (.slice A6 m c6) m (rowL m (chU r U Z))) := by rw [← part_full]; exact OQ.out
      have hbm : Hid (∀ j, j < m → -9223372036854775808 ≤ chU r U Z j ∧ chU r U Z j ≤ 9223372036854775807) := fun j hj => by
        have := LQ.out j hj
        have := mx'.out j hj
        omega
      clear OQ LQ
      have sz : Hid (w1.heap.size ≤ wr.heap.size) := KQ.out.size
      go_wp2_with (at_builtin; refine wpl_own Tryz.tyN12 rfl _ _ rfl wr.heap.size (.slice (some ⟨wr.heap.size, 0, none⟩) 0 0) 0 [] (by simp [Act.eval]) (own_empty (Nat.le_refl _) (heap_alloc_new _ _)) (.slice (some ⟨b, off, none⟩) N cp) N (rnCs (row l) N) (by simp [Act.eval]) (src_rd (RW.out.keep (KQ.out.trans (Keep.one _ _))) (fun h => by cases h)) (rnCs_one _ _) (by omega) (by simp) N (Nat.zero_add _) ?_; intro v5 w5 hr5 hg5; have K5 : Hid (Keep wr w5) := keep_grown (Keep.one _ _) hg5 (fun q hq => by simp [Value.ownBlock] at hq; omega); have F5 := hr5.form (by omega); obtain ⟨g5, cap5, e5, _, _⟩ := F5; subst e5; simp only [List.nil_append] at hr5; have hq5 := hr5.cellAt (i * 3 + 2) (by omega); rw [rnCs_get _ _ _ _ hi (by omega)] at hq5; have hf5 := hr5.frozenAt (i * 3 + 2); replace hr5 := Lib.hid hr5; replace hg5 := Lib.hid hg5)
      go_ret3
      obtain rfl := HN.out
      have RF : Rd wr A6 m (chU r U Z) := rd_own OF.out (by omega) hbm.out
      obtain ⟨k1, l', e1, R1, E1⟩ := hin2.out (KQ.out.trans K5.out) (RF.keep K5.out) nl6.out sz.out hr5.out (fun b' off' e hn hd => by
        obtain ⟨b2, off2, e2, c2⟩ := RF.adr hn
        rw [e] at e2
        have e3 := Option.some.inj e2
        simp only [Addr.mk.injEq, and_true] at e3
        have h1 := cell_lt (c2 0 hn)
        have h2 := (hr5.out.lt g5 rfl).1
        have h3 : b' = g5 := hd
        have h4 : b2 < wr.heap.size := h1
        omega)
      exact ⟨_, _, l', by rw [e1]; rfl, k1, R1, E1⟩
end Go.Proofs.YtokopegffeablaaGreatDoor.T12
