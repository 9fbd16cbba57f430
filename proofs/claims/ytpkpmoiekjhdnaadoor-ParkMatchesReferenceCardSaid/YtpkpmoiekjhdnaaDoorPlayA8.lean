/-
  The law's play: an Add on the lot and on the reference's lists. Conditions: at most 60 pods, at most 20 amounts a pod.
-/
import Derived.Test.YtpkpmoiekjhdnaaDoorSide8
namespace Go.Proofs.YtpkpmoiekjhdnaaDoor
open Go.RowKit Go.Sort Go.Lib Go.Shelf

theorem refadd {W0 : World} {D : Nat → Prop} {B : Option Addr} {m d : Nat} {S : Nat → PodV} {B2 : Option Addr} {d2 : Nat} {Z : Nat → Int} (T : Two W0 D B m d S B2 d2 Z) (hm : m ≤ 60) (x : PodV) (r : Int) (hx : PodIs W0 x) (hxr : ∀ a, x.A = some a → 0 < x.m → ¬ D a.block) (fx : OneF x) (hD : ∀ k, D k → k < W0.heap.size) :
    Calls Tryd.prog 25 #[.agg #[.slice B m d, .slice B2 m d2], x.val, .int .i64 r] W0 fun e w1 => ∃ B' m' d' S' B2' d2' Z' ok, e = .returned (.tuple #[.agg #[.slice B' m' d', .slice B2' m' d2'], .bool ok]) ∧ Keep W0 w1 ∧ Two w1 D B' m' d' S' B2' d2' Z' ∧ m' ≤ m + 1 ∧
      (ok = true → (1 ≤ r ∧ r ≤ 4 ∧ ¬ 0 ≤ findN S x.k m) ∧ prZ S' Z' m' = prZ S Z m ++ [(x, r)]) ∧ (ok = false → (r < 1 ∨ 4 < r ∨ 0 ≤ findN S x.k m) ∧ prZ S' Z' m' = prZ S Z m) := by
  by_cases hr : r < 1 ∨ 4 < r
  · refine (radd8_wrong B m d B2 m d2 x r W0 hr).mono fun e w1 ⟨he, k⟩ => ⟨B, m, d, S, B2, d2, Z, false, he, k, T.keep k, by omega, fun h => by (cases h), fun _ => ⟨?_, rfl⟩⟩
    rcases hr with h | h
    · exact Or.inl h
    · exact Or.inr (Or.inl h)
  by_cases hf : 0 ≤ findN S x.k m
  · exact (radd8_there B m d S B2 m d2 x r W0 T.src.rd (by omega) (by omega) hf).mono fun e w1 ⟨he, k⟩ => ⟨B, m, d, S, B2, d2, Z, false, he, k, T.keep k, by omega, fun h => by (cases h), fun _ => ⟨Or.inr (Or.inr hf), rfl⟩⟩
  have hk : ∀ j, j < m → (S j).k ≠ x.k := fun j hj e => hf (find_iff.2 ⟨j, hj, e⟩)
  refine (radd8_new B m d S B2 d2 Z x r W0 T.src.rd T.nil T.rs T.nil2 (by omega) (by omega) (by omega) hx hk).mono ?_
  rintro e w1 ⟨B', d', B2', d2', rfl, k, rd', rs', lo1, lo2, cap⟩
  refine ⟨B', m + 1, d', put S m x, B2', d2', putZ Z m r, true, rfl, k, ⟨⟨rd', fun b off e _ hd => ?_, fun j hj a ha h0 => ?_⟩, rs', fun a e h0 hd => ?_, fun e => ?_, fun e => ?_, cap, fun j hj => ?_⟩, Nat.le_refl _, fun _ => ⟨⟨by omega, by omega, hf⟩, prZ_put S Z m x r⟩, fun h => by cases h⟩
  · have := lo1 b off e
    have := hD b hd
    omega
  · by_cases e : j = m
    · rw [e, put_at] at ha h0
      exact hxr a ha h0
    · rw [put_ne _ _ _ e] at ha h0
      exact T.src.req j (by omega) a ha h0
  · obtain ⟨g, off, e2, _⟩ := rs'.adr h0
    rw [e] at e2
    obtain rfl := Option.some.inj e2
    have := lo2 g off e
    have := hD g hd
    omega
  · subst e
    obtain ⟨g, off, e2, _⟩ := rd'.adr (by omega)
    cases e2
  · subst e
    obtain ⟨g, off, e2, _⟩ := rs'.adr (by omega)
    cases e2
  · by_cases e : j = m
    · rw [e, put_at]; exact fx
    · rw [put_ne _ _ _ e]; exact T.few j (by omega)
theorem padd_fn {w : World} {b bl : Nat} {D : Nat → Prop} {L : List (PodV × Int)} (q : LInv w b b bl D L) (x : PodV) (hx : PodIs w x) (hm : x.m ≤ 1000) (hl : L.length < 1000) (r : Int) (ok : Bool) (h1 : ok = true → 1 ≤ r ∧ r ≤ 4 ∧ x.k ∉ keysE L) (h2 : ok = false → r < 1 ∨ 4 < r ∨ x.k ∈ keysE L) :
    Calls Tryd.prog 20 #[.pointer (some ⟨bl, 0, none⟩), x.val, .int .i64 r] w fun e w' => e = .returned (.bool ok) ∧ LInv w' b b bl D (if ok then L ++ [(nm x, r)] else L) ∧ Fr D w w' := by
  cases ok with
  | true =>
    obtain ⟨a1, a2, a3⟩ := h1 rfl
    exact padd_new q x r a1 a2 a3 hx hm hl
  | false =>
    have h := h2 rfl
    by_cases hr : r < 1 ∨ 4 < r
    · exact (padd_wrong bl x r w hr).mono fun e w' ⟨he, k⟩ => ⟨he, q.keep k, Fr.of k⟩
    · refine (padd_there q x r (by omega) (by omega) ?_).mono fun e w' ⟨he, k⟩ => ⟨he, q.keep k, Fr.of k⟩
      rcases h with h | h | h
      · exact absurd (Or.inl h) hr
      · exact absurd (Or.inr h) hr
      · exact h

set_option maxRecDepth 100000 in
set_option maxHeartbeats 8000000 in
theorem play_add {w : World} {b bl : Nat} {V D : Nat → Prop} {B : Option Addr} {m d : Nat} {S : Nat → PodV} {B2 : Option Addr} {d2 : Nat} {Z : Nat → Int} {L : List (PodV × Int)} (h : Side w b bl V D B m d S B2 d2 Z L) (hV : ∀ k, V k → k < w.heap.size) (hm : m ≤ 60) (x : PodV) (r : Int) (hx : PodIs w x) (hxr : ∀ a, x.A = some a → 0 < x.m → ¬ (D a.block ∨ V a.block)) (fx : OneF x) :
    Calls Tryd.prog 11 #[.pointer (some ⟨bl, 0, none⟩), .agg #[.slice B m d, .slice B2 m d2], .agg #[.int .i64 0, .int .i64 x.k, .int .i64 x.p, .bool x.f, .int .i64 x.g, .slice x.A x.m x.c, .int .i64 x.a, .int .i64 x.h, .int .i64 x.d, .int .i64 x.t, .int .i64 r]] w fun e w' => ∃ B' m' d' S' B2' d2' Z', e = .returned (.tuple #[.agg #[.slice B' m' d', .slice B2' m' d2'], .bool true]) ∧ m' ≤ m + 1 ∧ After w w' b bl V D B' m' d' S' B2' d2' Z' := by
  have mixed : Tryd.prog.follows .mixedOrders = true := by kernel_rfl
  obtain ⟨W0, hW0⟩ : ∃ W, W = ((w.alloc (.cells #[.slice B m d, .slice B2 m d2] 30)).alloc (.cells #[.int .i64 0, .int .i64 x.k, .int .i64 x.p, .bool x.f, .int .i64 x.g, .slice x.A x.m x.c, .int .i64 x.a, .int .i64 x.h, .int .i64 x.d, .int .i64 x.t, .int .i64 r] 37)).alloc (.cells #[.slice none 0 0, .slice none 0 0] 30) := ⟨_, rfl⟩
  have z1 : (w.alloc (.cells #[.slice B m d, .slice B2 m d2] 30)).heap.size = w.heap.size + 1 := by rw [World.size_alloc]
  have z2 : ((w.alloc (.cells #[.slice B m d, .slice B2 m d2] 30)).alloc (.cells #[.int .i64 0, .int .i64 x.k, .int .i64 x.p, .bool x.f, .int .i64 x.g, .slice x.A x.m x.c, .int .i64 x.a, .int .i64 x.h, .int .i64 x.d, .int .i64 x.t, .int .i64 r] 37)).heap.size = w.heap.size + 1 + 1 := by rw [World.size_alloc, z1]
  have K0 : Keep w W0 := by rw [hW0]; exact ((Keep.one _ _).alloc _).alloc _
  have z0 : W0.heap.size = w.heap.size + 1 + 1 + 1 := by rw [hW0, World.size_alloc, z2]
  have a1 : W0.heap[w.heap.size + 1]? = some (.cells #[.int .i64 0, .int .i64 x.k, .int .i64 x.p, .bool x.f, .int .i64 x.g, .slice x.A x.m x.c, .int .i64 x.a, .int .i64 x.h, .int .i64 x.d, .int .i64 x.t, .int .i64 r] 37 (0, 0)) := by
    rw [hW0, ← z1]
    exact (Keep.one _ _).block (heap_alloc_new _ _)
  have a2 : W0.heap[w.heap.size + 1 + 1]? = some (.cells #[.slice none 0 0, .slice none 0 0] 30 (0, 0)) := by
    rw [hW0, ← z2]
    exact heap_alloc_new _ _
  have ltD : ∀ k, D k → k < w.heap.size := fun k hk => (h.q.lo k hk).2
  have T0 : Two W0 (fun k => (D k ∨ V k) ∨ k = w.heap.size + 1 + 1) B m d S B2 d2 Z := (h.two.more (D' := fun k => (D k ∨ V k) ∨ k = w.heap.size + 1 + 1) fun k hk => by
    rcases hk with hk | hk
    · exact Or.inl hk
    · right; omega).keep K0
  have cR := refadd T0 hm x r (hx.keep K0) (fun a ha h0 hd => by
    rcases hd with hd | hd
    · exact hxr a ha h0 hd
    · obtain ⟨g, off, e2, hc⟩ := hx.rd.adr h0
      rw [ha] at e2
      obtain rfl := Option.some.inj e2
      have : g < w.heap.size := cell_lt (hc 0 h0)
      simp only at hd
      omega) fx (fun k hk => by
    rcases hk with (hk | hk) | hk
    · have := ltD k hk; omega
    · have := hV k hk; omega
    · omega)
  unfold PodV.val at cR
  replace cR := Lib.hid cR
  replace K0 := Lib.hid K0
  replace z1 := Lib.hid z1
  replace z2 := Lib.hid z2
  replace z0 := Lib.hid z0
  replace a1 := Lib.hid a1
  replace a2 := Lib.hid a2
  replace T0 := Lib.hid T0
  replace ltD := Lib.hid ltD
  replace hx := Lib.hid hx
  replace hxr := Lib.hid hxr
  replace hV := Lib.hid hV
  replace fx := Lib.hid fx
  have H := Lib.hid h
  clear h
  go_enter Tryd.func11, Tryd.ntmps11
  go_wp2_with fail
  rw [← hW0]
  replace hW0 := Lib.hid hW0
  refine cR.out.mono ?_
  rintro e w1 ⟨B', m', d', S', B2', d2', Z', ok, rfl, k1, T1, hm1, hok, hno⟩
  obtain ⟨W1, hW1⟩ : ∃ W, W = w1.alloc (.cells #[.slice B' m' d', .slice B2' m' d2'] 30) := ⟨_, rfl⟩
  have k1W : Keep w1 W1 := by rw [hW1]; exact Keep.one _ _
  have b8 : W1.heap[w1.heap.size]? = some (.cells #[.slice B' m' d', .slice B2' m' d2'] 30 (0, 0)) := by rw [hW1]; exact heap_alloc_new _ _
  have b5 := (k1.trans k1W).block a1.out
  have b6 := (k1.trans k1W).block a2.out
  have K1 : Hid (Keep w W1) := (K0.out.trans k1).trans k1W
  have z01 : w.heap.size + 1 + 1 < w1.heap.size := by have h1 : W0.heap.size ≤ w1.heap.size := k1.size; have := z0.out; omega
  have QW := H.out.q.keep K1.out
  have TW := T1.keep k1W
  have cA : Hid (∀ W, Keep W1 W → Calls Tryd.prog 20 #[.pointer (some ⟨bl, 0, none⟩), .agg #[.int .i64 x.k, .int .i64 x.p, .bool x.f, .int .i64 x.g, .slice x.A x.m x.c, .int .i64 x.a, .int .i64 x.h, .int .i64 x.d, .int .i64 x.t], .int .i64 r] W fun e w' => e = .returned (.bool ok) ∧ LInv w' b b bl D (if ok then L ++ [(nm x, r)] else L) ∧ Fr D W1 w') := fun W k =>
    (padd_fn (QW.keep k) x (hx.out.keep (K1.out.trans k)) (by have := fx.out.2.2; omega) (by have := H.out.len; omega) r ok (fun h => ⟨(hok h).1.1, (hok h).1.2.1, fun h2 => by have h3 := (hok h).1.2.2; have h4 := (H.out.find x.k).2 h2; omega⟩) (fun h => by
      rcases (hno h).1 with h1 | h1 | h1
      · exact Or.inl h1
      · exact Or.inr (Or.inl h1)
      · exact Or.inr (Or.inr ((H.out.find x.k).1 h1)))).mono fun e w' ⟨he, q, F⟩ => ⟨he, q, Fr.after k F⟩
  have SS : Hid (∀ W : World, W.heap[w.heap.size + 1]? = some (.cells #[.int .i64 0, .int .i64 x.k, .int .i64 x.p, .bool x.f, .int .i64 x.g, .slice x.A x.m x.c, .int .i64 x.a, .int .i64 x.h, .int .i64 x.d, .int .i64 x.t, .int .i64 r] 37 (0, 0)) → W.heap[w1.heap.size]? = some (.cells #[.slice B' m' d', .slice B2' m' d2'] 30 (0, 0)) → W.cell? ⟨w.heap.size + 1, 1, none⟩ = some (.int .i64 x.k) ∧ W.cell? ⟨w.heap.size + 1, 2, none⟩ = some (.int .i64 x.p) ∧ W.cell? ⟨w.heap.size + 1, 3, none⟩ = some (.bool x.f) ∧ W.cell? ⟨w.heap.size + 1, 4, none⟩ = some (.int .i64 x.g) ∧ W.cell? ⟨w.heap.size + 1, 5, none⟩ = some (.slice x.A x.m x.c) ∧ W.cell? ⟨w.heap.size + 1, 6, none⟩ = some (.int .i64 x.a) ∧ W.cell? ⟨w.heap.size + 1, 7, none⟩ = some (.int .i64 x.h) ∧ W.cell? ⟨w.heap.size + 1, 8, none⟩ = some (.int .i64 x.d) ∧ W.cell? ⟨w.heap.size + 1, 9, none⟩ = some (.int .i64 x.t) ∧ W.cell? ⟨w.heap.size + 1, 10, none⟩ = some (.int .i64 r) ∧ W.cell? ⟨w1.heap.size, 0, none⟩ = some (.slice B' m' d') ∧ W.cell? ⟨w1.heap.size, 1, none⟩ = some (.slice B2' m' d2')) := fun W h5 h8 => by
    refine ⟨?_, ?_, ?_, ?_, ?_, ?_, ?_, ?_, ?_, ?_, ?_, ?_⟩
    all_goals first | exact (cell_of_row _ _ _ _ _ _ h5).trans rfl | exact (cell_of_row _ _ _ _ _ _ h8).trans rfl
  obtain ⟨e1, e2, e3, e4, e5, e6, e7, e8, e9, e10, e11, e12⟩ := SS.out W1 b5 b8
  have n5 : ¬ D (w.heap.size + 1) := fun h => by have := ltD.out _ h; omega
  have n6 : ¬ D (w.heap.size + 1 + 1) := fun h => by have := ltD.out _ h; omega
  have n8 : ¬ D w1.heap.size := fun h => by have := ltD.out _ h; omega
  have POST : Hid (∀ w3 : World, LInv w3 b b bl D (if ok then L ++ [(nm x, r)] else L) → Fr D W1 w3 → w3.heap[w.heap.size + 1]? = some (.cells #[.int .i64 0, .int .i64 x.k, .int .i64 x.p, .bool x.f, .int .i64 x.g, .slice x.A x.m x.c, .int .i64 x.a, .int .i64 x.h, .int .i64 x.d, .int .i64 x.t, .int .i64 r] 37 (0, 0)) ∧ w3.heap[w1.heap.size]? = some (.cells #[.slice B' m' d', .slice B2' m' d2'] 30 (0, 0)) ∧
      w3.cell? ⟨w.heap.size + 1 + 1, 0, none⟩ = some (.slice none 0 0) ∧ w3.cell? ⟨w.heap.size + 1 + 1, 1, none⟩ = some (.slice none 0 0) ∧ w3.frozen? ⟨w.heap.size + 1 + 1, 0, none⟩ = false ∧ w3.frozen? ⟨w.heap.size + 1 + 1, 1, none⟩ = false ∧
      ∀ W : World, W = (w3.setCell ⟨w.heap.size + 1 + 1, 0, none⟩ (.slice B' m' d')).setCell ⟨w.heap.size + 1 + 1, 1, none⟩ (.slice B2' m' d2') → W.heap[w.heap.size + 1]? = some (.cells #[.int .i64 0, .int .i64 x.k, .int .i64 x.p, .bool x.f, .int .i64 x.g, .slice x.A x.m x.c, .int .i64 x.a, .int .i64 x.h, .int .i64 x.d, .int .i64 x.t, .int .i64 r] 37 (0, 0)) ∧ W.heap[w1.heap.size]? = some (.cells #[.slice B' m' d', .slice B2' m' d2'] 30 (0, 0)) ∧ After w W b bl V D B' m' d' S' B2' d2' Z') := fun w3 q3 F3 => by
    have l5 := (Array.getElem?_eq_some_iff.1 b5).1
    have l6 := (Array.getElem?_eq_some_iff.1 b6).1
    have l8 := (Array.getElem?_eq_some_iff.1 b8).1
    have h5 := (F3.block _ l5 n5).trans b5
    have h6 := (F3.block _ l6 n6).trans b6
    have h8 := (F3.block _ l8 n8).trans b8
    refine ⟨h5, h8, (cell_of_row _ _ _ _ _ _ h6).trans rfl, (cell_of_row _ _ _ _ _ _ h6).trans rfl, frozen_of_row _ _ _ _ _ h6, frozen_of_row _ _ _ _ _ h6, fun W hW => ?_⟩
    have FW : Fr (fun k => k = w.heap.size + 1 + 1) w3 W := by
      rw [hW]
      exact Fr.set (D := fun k => k = w.heap.size + 1 + 1) (p := ⟨w.heap.size + 1 + 1, 1, none⟩) (Fr.set (D := fun k => k = w.heap.size + 1 + 1) (p := ⟨w.heap.size + 1 + 1, 0, none⟩) (Fr.refl _ _) (Or.inl rfl) _) (Or.inl rfl) _
    have l53 := (Array.getElem?_eq_some_iff.1 h5).1
    have l83 := (Array.getElem?_eq_some_iff.1 h8).1
    refine ⟨(FW.block _ l53 (by omega)).trans h5, (FW.block _ l83 (by omega)).trans h8, (Fr.after K1.out F3).trans FW fun k hk => ?_, D, _, ⟨q3.other n6 ⟨_, _, h6⟩ (by decide) FW, ?_, ?_⟩, fun k hk => Or.inl hk⟩
    · right; omega
    · have F2 : Fr (fun k => (D k ∨ V k) ∨ k = w.heap.size + 1 + 1) W1 W := by
        have a : Fr (fun k => (D k ∨ V k) ∨ k = w.heap.size + 1 + 1) W1 w3 := (Fr.of (Keep.refl _)).trans F3 fun k hk => Or.inl (Or.inl (Or.inl hk))
        exact a.trans FW fun k hk => Or.inl (Or.inr hk)
      exact TW.fr F2 fun k hk => Or.inl (Or.inl hk)
    · cases ok with
      | true =>
        rw [(hok rfl).2, List.map_append]
        exact H.out.perm.append_right _
      | false =>
        rw [(hno rfl).2]
        exact H.out.perm
  replace hW1 := hW1
  replace k1 := Lib.hid k1
  replace T1 := Lib.hid T1
  replace hok := Lib.hid hok
  replace hno := Lib.hid hno
  replace k1W := Lib.hid k1W
  replace b8 := Lib.hid b8
  replace b5 := Lib.hid b5
  replace b6 := Lib.hid b6
  replace QW := Lib.hid QW
  replace TW := Lib.hid TW
  replace n5 := Lib.hid n5
  replace n6 := Lib.hid n6
  replace n8 := Lib.hid n8
  clear cR
  go_wp2_with fail
  rw [← hW1]
  replace hW1 := Lib.hid hW1
  go_region_held3 (fun w' => w'.cell? ⟨w.heap.size + 1, 1, none⟩ = some (.int .i64 x.k) ∧ w'.cell? ⟨w.heap.size + 1, 2, none⟩ = some (.int .i64 x.p) ∧ w'.cell? ⟨w.heap.size + 1, 3, none⟩ = some (.bool x.f) ∧ w'.cell? ⟨w.heap.size + 1, 4, none⟩ = some (.int .i64 x.g) ∧ w'.cell? ⟨w.heap.size + 1, 5, none⟩ = some (.slice x.A x.m x.c) ∧ w'.cell? ⟨w.heap.size + 1, 6, none⟩ = some (.int .i64 x.a) ∧ w'.cell? ⟨w.heap.size + 1, 7, none⟩ = some (.int .i64 x.h) ∧ w'.cell? ⟨w.heap.size + 1, 8, none⟩ = some (.int .i64 x.d) ∧ w'.cell? ⟨w.heap.size + 1, 9, none⟩ = some (.int .i64 x.t) ∧ w'.cell? ⟨w.heap.size + 1, 10, none⟩ = some (.int .i64 r) ∧ w'.cell? ⟨w1.heap.size, 0, none⟩ = some (.slice B' m' d') ∧ w'.cell? ⟨w1.heap.size, 1, none⟩ = some (.slice B2' m' d2'))
    (first
      | exact SS.out _ p5.out p8.out
      | exact SS.out _ h5.out h8.out
      | exact SS.out _ (Keep.block (w := W1) (by repeat (with_reducible first | exact Keep.refl W1 | apply Keep.alloc | apply Keep.drew | apply Keep.drewN)) b5.out) (Keep.block (w := W1) (by repeat (with_reducible first | exact Keep.refl W1 | apply Keep.alloc | apply Keep.drew | apply Keep.drewN)) b8.out))
    (first
      | (go_at_call 20
         refine (cA.out _ (by repeat (with_reducible first | exact Keep.refl W1 | apply Keep.alloc | apply Keep.drew | apply Keep.drewN))).mono ?_
         rintro e w3 ⟨rfl, q3, F3⟩
         obtain ⟨h5, h8, c60, c61, f60, f61, fin⟩ := POST.out w3 q3 F3
         have p5 := Lib.hid (fin _ rfl).1
         have p8 := Lib.hid (fin _ rfl).2.1
         replace h5 := Lib.hid h5
         replace h8 := Lib.hid h8
         replace q3 := Lib.hid q3
         replace F3 := Lib.hid F3
         replace fin := Lib.hid fin))
  all_goals
    go_wp2
    refine bodyPost_ret (v := .tuple #[.agg #[.slice B' m' d', .slice B2' m' d2'], .bool true]) (by simp [results, Tryd.results11, go_sem, *]) rfl ⟨B', m', d', S', B2', d2', Z', rfl, hm1, (fin.out _ rfl).2.2⟩
end Go.Proofs.YtpkpmoiekjhdnaaDoor
