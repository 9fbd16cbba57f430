/-
  The law's play: a Remove on the lot and on the reference's lists. Conditions: at most 60 pods, at most 20 amounts a pod.
-/
import Derived.Test.YtpkpmoiekjhdnaaDoorSide8
namespace Go.Proofs.YtpkpmoiekjhdnaaDoor
open Go.RowKit Go.Sort Go.Lib Go.Shelf

set_option maxRecDepth 100000 in
set_option maxHeartbeats 8000000 in
theorem play_remove {w : World} {b bl : Nat} {V D : Nat → Prop} {B : Option Addr} {m d : Nat} {S : Nat → PodV} {B2 : Option Addr} {d2 : Nat} {Z : Nat → Int} {L : List (PodV × Int)} (h : Side w b bl V D B m d S B2 d2 Z L) (hV : ∀ k, V k → k < w.heap.size) (hm : m ≤ 60) (x : PodV) (r : Int) :
    Calls Tryd.prog 11 #[.pointer (some ⟨bl, 0, none⟩), .agg #[.slice B m d, .slice B2 m d2], .agg #[.int .i64 1, .int .i64 x.k, .int .i64 x.p, .bool x.f, .int .i64 x.g, .slice x.A x.m x.c, .int .i64 x.a, .int .i64 x.h, .int .i64 x.d, .int .i64 x.t, .int .i64 r]] w fun e w' => ∃ B' m' d' S' B2' d2' Z', e = .returned (.tuple #[.agg #[.slice B' m' d', .slice B2' m' d2'], .bool true]) ∧ m' ≤ m + 1 ∧ After w w' b bl V D B' m' d' S' B2' d2' Z' := by
  obtain ⟨W0, hW0⟩ : ∃ W, W = ((w.alloc (.cells #[.slice B m d, .slice B2 m d2] 30)).alloc (.cells #[.int .i64 1, .int .i64 x.k, .int .i64 x.p, .bool x.f, .int .i64 x.g, .slice x.A x.m x.c, .int .i64 x.a, .int .i64 x.h, .int .i64 x.d, .int .i64 x.t, .int .i64 r] 37)).alloc (.cells #[.slice none 0 0, .slice none 0 0] 30) := ⟨_, rfl⟩
  have z1 : (w.alloc (.cells #[.slice B m d, .slice B2 m d2] 30)).heap.size = w.heap.size + 1 := by rw [World.size_alloc]
  have z2 : ((w.alloc (.cells #[.slice B m d, .slice B2 m d2] 30)).alloc (.cells #[.int .i64 1, .int .i64 x.k, .int .i64 x.p, .bool x.f, .int .i64 x.g, .slice x.A x.m x.c, .int .i64 x.a, .int .i64 x.h, .int .i64 x.d, .int .i64 x.t, .int .i64 r] 37)).heap.size = w.heap.size + 1 + 1 := by rw [World.size_alloc, z1]
  have K0 : Keep w W0 := by rw [hW0]; exact ((Keep.one _ _).alloc _).alloc _
  have z0 : W0.heap.size = w.heap.size + 1 + 1 + 1 := by rw [hW0, World.size_alloc, z2]
  have a0 : W0.heap[w.heap.size]? = some (.cells #[.slice B m d, .slice B2 m d2] 30 (0, 0)) := by
    rw [hW0]
    exact (Keep.one _ _).block ((Keep.one _ _).block (heap_alloc_new _ _))
  have a1 : W0.heap[w.heap.size + 1]? = some (.cells #[.int .i64 1, .int .i64 x.k, .int .i64 x.p, .bool x.f, .int .i64 x.g, .slice x.A x.m x.c, .int .i64 x.a, .int .i64 x.h, .int .i64 x.d, .int .i64 x.t, .int .i64 r] 37 (0, 0)) := by
    rw [hW0, ← z1]
    exact (Keep.one _ _).block (heap_alloc_new _ _)
  have a2 : W0.heap[w.heap.size + 1 + 1]? = some (.cells #[.slice none 0 0, .slice none 0 0] 30 (0, 0)) := by
    rw [hW0, ← z2]
    exact heap_alloc_new _ _
  have ltD : ∀ k, D k → k < w.heap.size := fun k hk => (h.q.lo k hk).2
  have cF := rfind_fn B m d S x.k W0 (h.two.src.rd.keep K0)
  replace cF := Lib.hid cF
  have K0 := Lib.hid K0
  replace z1 := Lib.hid z1
  replace z2 := Lib.hid z2
  replace z0 := Lib.hid z0
  replace a0 := Lib.hid a0
  replace a1 := Lib.hid a1
  replace a2 := Lib.hid a2
  replace ltD := Lib.hid ltD
  have H := Lib.hid h
  clear h
  replace hV := Lib.hid hV
  by_cases hf : 0 ≤ findN S x.k m
  · obtain ⟨j, hj, ej, hjk⟩ := find_lt hf
    rw [ej] at cF
    have hmem := (H.out.find x.k).1 hf
    obtain ⟨bp, off, hB, hc⟩ := (H.out.two.src.rd.keep K0.out).adr (by omega)
    have Y := hc j hj
    have Yi := H.out.two.src.rd.is j hj
    have Ya := H.out.at_ hj
    have q1 := pods_at bp off m d j hj
    obtain ⟨y, hy⟩ : ∃ y, y = S j := ⟨_, rfl⟩
    rw [← hy] at Y Yi Ya hjk
    subst hB
    clear hc ej
    replace hf := Lib.hid hf
    replace hy := Lib.hid hy
    replace hmem := Lib.hid hmem
    replace Yi := Lib.hid Yi
    replace Ya := Lib.hid Ya
    replace hjk := Lib.hid hjk
    have y0 := Y.e0; have y1 := Y.e1; have y2 := Y.e2; have y3 := Y.e3; have y4 := Y.e4; have y5 := Y.e5; have y6 := Y.e6; have y7 := Y.e7; have y8 := Y.e8
    have lb := cell_lt y0
    simp only at lb
    clear Y
    have o0 : W0.cell? ⟨w.heap.size, 0, none⟩ = some (.slice (some ⟨bp, off, none⟩) m d) := (cell_of_row _ _ _ _ _ _ a0.out).trans rfl
    have o1 : W0.cell? ⟨w.heap.size + 1, 1, none⟩ = some (.int .i64 x.k) := (cell_of_row _ _ _ _ _ _ a1.out).trans rfl
    have l0 := cell_lt o0
    have l1 := cell_lt o1
    simp only at l0 l1
    go_enter Tryd.func11, Tryd.ntmps11
    go_wp2_with fail
    rw [← hW0]
    replace hW0 := Lib.hid hW0
    refine cF.out.mono ?_
    rintro e w1 ⟨rfl, rfl⟩
    clear cF
    go_wp2_with fail
    have W1k : Keep W0 (W0.alloc (.cells #[.int .i64 y.k, .int .i64 y.p, .bool y.f, .int .i64 y.g, .slice y.A y.m y.c, .int .i64 y.a, .int .i64 y.h, .int .i64 y.d, .int .i64 y.t] 35)) := Keep.one _ _
    have w11 := heap_alloc_new W0 (.cells #[.int .i64 y.k, .int .i64 y.p, .bool y.f, .int .i64 y.g, .slice y.A y.m y.c, .int .i64 y.a, .int .i64 y.h, .int .i64 y.d, .int .i64 y.t] 35)
    have wz : (W0.alloc (.cells #[.int .i64 y.k, .int .i64 y.p, .bool y.f, .int .i64 y.g, .slice y.A y.m y.c, .int .i64 y.a, .int .i64 y.h, .int .i64 y.d, .int .i64 y.t] 35)).heap.size = W0.heap.size + 1 := World.size_alloc _ _
    generalize W0.alloc (.cells #[.int .i64 y.k, .int .i64 y.p, .bool y.f, .int .i64 y.g, .slice y.A y.m y.c, .int .i64 y.a, .int .i64 y.h, .int .i64 y.d, .int .i64 y.t] 35) = W1 at *
    have K1 : Keep w W1 := K0.out.trans W1k
    have b0 := W1k.block a0.out
    have b1 := W1k.block a1.out
    have b2 := W1k.block a2.out
    have cR := premove_fn (H.out.q.keep K1) x.k
    have T1 : Two W1 (fun k => (D k ∨ V k) ∨ k = w.heap.size + 1 + 1) (some ⟨bp, off, none⟩) m d S B2 d2 Z := (H.out.two.more (D' := fun k => (D k ∨ V k) ∨ k = w.heap.size + 1 + 1) fun k hk => by
      rcases hk with hk | hk
      · exact Or.inl hk
      · right; omega).keep K1
    unfold PodV.val at cR
    replace cR := Lib.hid cR
    replace K1 := Lib.hid K1
    replace T1 := Lib.hid T1
    replace b0 := Lib.hid b0
    replace b1 := Lib.hid b1
    replace b2 := Lib.hid b2
    replace w11 := Lib.hid w11
    replace wz := Lib.hid wz
    replace W1k := Lib.hid W1k
    refine cR.out.mono ?_
    rintro e w2 ⟨x', b', rfl, G⟩
    clear cR
    have n0 : ¬ D w.heap.size := fun h => by have := ltD.out _ h; omega
    have n1 : ¬ D (w.heap.size + 1) := fun h => by have := ltD.out _ h; omega
    have n2 : ¬ D (w.heap.size + 1 + 1) := fun h => by have := ltD.out _ h; omega
    have n11 : ¬ D W0.heap.size := fun h => by have := ltD.out _ h; have := z0.out; omega
    have c0 := (G.fr.block _ (Array.getElem?_eq_some_iff.1 b0.out).1 n0).trans b0.out
    have c1 := (G.fr.block _ (Array.getElem?_eq_some_iff.1 b1.out).1 n1).trans b1.out
    have c2 := (G.fr.block _ (Array.getElem?_eq_some_iff.1 b2.out).1 n2).trans b2.out
    have c11 := (G.fr.block _ (Array.getElem?_eq_some_iff.1 w11.out).1 n11).trans w11.out
    have F2 : Fr (fun k => (D k ∨ V k) ∨ k = w.heap.size + 1 + 1) W1 w2 := (Fr.of (Keep.refl _)).trans G.fr fun k hk => Or.inl (Or.inl (Or.inl hk))
    have T2 := T1.out.fr (D' := fun k => (D k ∨ V k) ∨ k = w.heap.size + 1 + 1) F2 fun k hk => Or.inl hk
    have hb' : b' = true := by
      cases b' with
      | true => rfl
      | false => exact absurd hmem.out (G.off rfl).1
    obtain ⟨hk', r', hr'⟩ := G.on hb'
    have sm : SameV x' y := same_nm (congrArg Prod.fst (key_one H.out.q.keys hr' Ya.out (by show x'.k = y.k; rw [hk', hjk.out])))
    have yi : PodIs w2 y := by have h1 := T2.src.rd.is j hj; rw [← hy.out] at h1; exact h1
    clear y0 y1 y2 y3 y4 y5 y6 y7 y8 lb q1 o0 o1 l0 l1
    replace hk' := Lib.hid hk'
    replace hr' := Lib.hid hr'
    subst hb'
    obtain ⟨W3, hW3⟩ : ∃ W, W = w2.alloc (.cells #[.int .i64 x'.k, .int .i64 x'.p, .bool x'.f, .int .i64 x'.g, .slice x'.A x'.m x'.c, .int .i64 x'.a, .int .i64 x'.h, .int .i64 x'.d, .int .i64 x'.t] 35) := ⟨_, rfl⟩
    have k3 : Keep w2 W3 := by rw [hW3]; exact Keep.one _ _
    have d12 : W3.heap[w2.heap.size]? = some (.cells #[.int .i64 x'.k, .int .i64 x'.p, .bool x'.f, .int .i64 x'.g, .slice x'.A x'.m x'.c, .int .i64 x'.a, .int .i64 x'.h, .int .i64 x'.d, .int .i64 x'.t] 35 (0, 0)) := by rw [hW3]; exact heap_alloc_new _ _
    have d0 := k3.block c0
    have d1 := k3.block c1
    have d2' := k3.block c2
    have d11 := k3.block c11
    have T3 := T2.keep k3
    have cM := rremove8_fn _ m d S _ d2 Z x.k W3 T3.src.rd T3.rs (by omega)
    have u0 : W3.cell? ⟨w.heap.size, 0, none⟩ = some (.slice (some ⟨bp, off, none⟩) m d) := (cell_of_row _ _ _ _ _ _ d0).trans rfl
    have u1 : W3.cell? ⟨w.heap.size, 1, none⟩ = some (.slice B2 m d2) := (cell_of_row _ _ _ _ _ _ d0).trans rfl
    have u2 : W3.cell? ⟨w.heap.size + 1, 1, none⟩ = some (.int .i64 x.k) := (cell_of_row _ _ _ _ _ _ d1).trans rfl
    replace cM := Lib.hid cM
    replace k3 := Lib.hid k3
    replace d12 := Lib.hid d12
    replace d0 := Lib.hid d0
    replace d1 := Lib.hid d1
    replace d2' := Lib.hid d2'
    replace d11 := Lib.hid d11
    replace T3 := Lib.hid T3
    replace T2 := Lib.hid T2
    replace F2 := Lib.hid F2
    replace c0 := Lib.hid c0
    replace c1 := Lib.hid c1
    replace c2 := Lib.hid c2
    replace c11 := Lib.hid c11
    replace G := Lib.hid G
    replace sm := Lib.hid sm
    replace yi := Lib.hid yi
    replace n0 := Lib.hid n0
    replace n1 := Lib.hid n1
    replace n2 := Lib.hid n2
    replace n11 := Lib.hid n11
    have hW3' := hW3
    rw [hW3] at u0 u1 u2
    replace hW3' := Lib.hid hW3'
    replace hW3 := Lib.hid hW3
    go_wp2_with fail
    rw [← hW3.out]
    refine cM.out.mono ?_
    rintro e w4 ⟨B', k', d', B2', d2'', T, Y, rfl, k4, rd4, rs4, eqT, lo1, lo2, nl1, nl2, cap⟩
    clear cM u0 u1 u2
    have e12 := k4.block d12.out
    have e11 := k4.block d11.out
    have e2 := k4.block d2'.out
    have X' := (cel_of (w := w4) (g := w2.heap.size) (o := 0) (x := x') fun i u hu => by rw [Nat.zero_add, cell_of_row w4 _ _ _ _ _ e12, List.getElem?_toArray]; exact hu)
    have Y' := (cel_of (w := w4) (g := W0.heap.size) (o := 0) (x := y) fun i u hu => by rw [Nat.zero_add, cell_of_row w4 _ _ _ _ _ e11, List.getElem?_toArray]; exact hu)
    have cS := rsamepod_fn x' y w4 sm.out (((G.out.req.is G.out.ok).keep k3.out).keep k4) (yi.out.keep (k3.out.trans k4))
    unfold PodV.val at cS
    have xx0 := X'.e0; have xx1 := X'.e1; have xx2 := X'.e2; have xx3 := X'.e3; have xx4 := X'.e4; have xx5 := X'.e5; have xx6 := X'.e6; have xx7 := X'.e7; have xx8 := X'.e8
    have yy0 := Y'.e0; have yy1 := Y'.e1; have yy2 := Y'.e2; have yy3 := Y'.e3; have yy4 := Y'.e4; have yy5 := Y'.e5; have yy6 := Y'.e6; have yy7 := Y'.e7; have yy8 := Y'.e8
    simp only [Nat.zero_add] at xx1 xx2 xx3 xx4 xx5 xx6 xx7 xx8 yy1 yy2 yy3 yy4 yy5 yy6 yy7 yy8
    clear X' Y'
    have sz4 : W3.heap.size ≤ w4.heap.size := k4.size
    have l26 := (Array.getElem?_eq_some_iff.1 d2'.out).1
    have POST : Hid (∀ w5 : World, Keep w4 w5 → w5.cell? ⟨w.heap.size + 1 + 1, 0, none⟩ = some (.slice none 0 0) ∧ w5.cell? ⟨w.heap.size + 1 + 1, 1, none⟩ = some (.slice none 0 0) ∧ w5.frozen? ⟨w.heap.size + 1 + 1, 0, none⟩ = false ∧ w5.frozen? ⟨w.heap.size + 1 + 1, 1, none⟩ = false ∧
        ∀ W : World, W = (w5.setCell ⟨w.heap.size + 1 + 1, 0, none⟩ (.slice B' k' d')).setCell ⟨w.heap.size + 1 + 1, 1, none⟩ (.slice B2' k' d2'') → k' ≤ m + 1 ∧ After w W b bl V D B' k' d' T B2' d2'' Y) := fun w5 k5 => by
      have e5 := k5.block e2
      refine ⟨(cell_of_row _ _ _ _ _ _ e5).trans rfl, (cell_of_row _ _ _ _ _ _ e5).trans rfl, frozen_of_row _ _ _ _ _ e5, frozen_of_row _ _ _ _ _ e5, fun W hW => ?_⟩
      have FW : Fr (fun k => k = w.heap.size + 1 + 1) w5 W := by
        rw [hW]
        exact Fr.set (D := fun k => k = w.heap.size + 1 + 1) (p := ⟨w.heap.size + 1 + 1, 1, none⟩) (Fr.set (D := fun k => k = w.heap.size + 1 + 1) (p := ⟨w.heap.size + 1 + 1, 0, none⟩) (Fr.refl _ _) (Or.inl rfl) _) (Or.inl rfl) _
      have from_ : ∀ t, t < k' → ∃ i, i < m ∧ S i = T t := fun t ht => by
        have h1 : (T t, Y t) ∈ prZ T Y k' := prZ_mem.2 ⟨t, ht, rfl⟩
        rw [eqT] at h1
        obtain ⟨i, hi, e⟩ := prZ_mem.1 (List.mem_filter.1 h1).1
        simp only [Prod.mk.injEq] at e
        exact ⟨i, hi, e.1⟩
      have hD2 : ∀ k, ((D k ∨ V k) ∨ k = w.heap.size + 1 + 1) → k < W3.heap.size := fun k hk => by
        rcases hk with (hk | hk) | hk
        · have := ltD.out k hk; omega
        · have := hV.out k hk; omega
        · omega
      have T4 : Two w4 (fun k => (D k ∨ V k) ∨ k = w.heap.size + 1 + 1) B' k' d' T B2' d2'' Y := ⟨⟨rd4, fun b off e _ hd => by
          have := lo1 b off e
          have := hD2 b hd
          omega, fun j hj a ha h0 => by
          obtain ⟨i, hi, e⟩ := from_ j hj
          rw [← e] at ha h0
          exact T3.out.src.req i hi a ha h0⟩, rs4, fun a e h0 hd => by
          obtain ⟨g, off, e3, _⟩ := rs4.adr h0
          rw [e] at e3
          obtain rfl := Option.some.inj e3
          have := lo2 g off e
          have := hD2 g hd
          omega, nl1, nl2, cap, fun j hj => by
          obtain ⟨i, hi, e⟩ := from_ j hj
          rw [← e]
          exact T3.out.few i hi⟩
      refine ⟨?_, ((Fr.after K1.out G.out.fr).keep ((k3.out.trans k4).trans k5)).trans FW fun k hk => Or.inr (by omega), D, _, ⟨(G.out.inv.keep ((k3.out.trans k4).trans k5)).other n2.out ⟨_, _, e5⟩ (by decide) FW, (T4.keep k5).fr ((Fr.refl (fun k => (D k ∨ V k) ∨ k = w.heap.size + 1 + 1) w5).trans FW fun k hk => Or.inl (Or.inr hk)) fun k hk => Or.inl (Or.inl hk), ?_⟩, fun k hk => Or.inl hk⟩
      · have h1 := congrArg List.length eqT
        rw [prZ_len] at h1
        have h2 := List.length_filter_le (fun y : PodV × Int => decide (y.1.k ≠ x.k)) (prZ S Z m)
        rw [prZ_len] at h2
        omega
      · rw [eqT]
        have h1 := H.out.perm.filter fun y => decide (y.1.k ≠ x.k)
        rw [List.filter_map] at h1
        exact h1
    replace cS := Lib.hid cS
    replace k4 := Lib.hid k4
    replace rd4 := Lib.hid rd4
    replace rs4 := Lib.hid rs4
    replace eqT := Lib.hid eqT
    replace lo1 := Lib.hid lo1
    replace lo2 := Lib.hid lo2
    replace nl1 := Lib.hid nl1
    replace nl2 := Lib.hid nl2
    replace e12 := Lib.hid e12
    replace e11 := Lib.hid e11
    replace e2 := Lib.hid e2
    replace sz4 := Lib.hid sz4
    replace l26 := Lib.hid l26
    go_wp2_with fail
    refine cS.out.mono ?_
    rintro e w5 ⟨rfl, g5⟩
    obtain ⟨c60, c61, f60, f61, fin⟩ := POST.out w5 (Gr.keep g5)
    replace g5 := Lib.hid g5
    replace fin := Lib.hid fin
    clear cS xx0 xx1 xx2 xx3 xx4 xx5 xx6 xx7 xx8 yy0 yy1 yy2 yy3 yy4 yy5 yy6 yy7 yy8
    go_wp2
    refine bodyPost_ret (v := .tuple #[.agg #[.slice B' k' d', .slice B2' k' d2''], .bool true]) (by simp [results, Tryd.results11, go_sem, *]) rfl ⟨B', k', d', T, B2', d2'', Y, rfl, (fin.out _ rfl).1, (fin.out _ rfl).2⟩
  · have hfn := find_neg hf
    rw [hfn] at cF
    have hmem := fun h => hf ((H.out.find x.k).2 h)
    have hmem := Lib.hid hmem
    replace hf := Lib.hid hf
    replace hfn := Lib.hid hfn
    have o0 : W0.cell? ⟨w.heap.size, 0, none⟩ = some (.slice B m d) := (cell_of_row _ _ _ _ _ _ a0.out).trans rfl
    have o1 : W0.cell? ⟨w.heap.size + 1, 1, none⟩ = some (.int .i64 x.k) := (cell_of_row _ _ _ _ _ _ a1.out).trans rfl
    have l0 := cell_lt o0
    have l1 := cell_lt o1
    simp only at l0 l1
    obtain ⟨y, hy⟩ : ∃ y, y = zpod := ⟨_, rfl⟩
    have ez : Obj.cells #[.int .i64 0, .int .i64 0, .bool false, .int .i64 0, .slice none 0 0, .int .i64 0, .int .i64 0, .int .i64 0, .int .i64 0] 35 = .cells #[.int .i64 y.k, .int .i64 y.p, .bool y.f, .int .i64 y.g, .slice y.A y.m y.c, .int .i64 y.a, .int .i64 y.h, .int .i64 y.d, .int .i64 y.t] 35 := by rw [hy]; rfl
    replace hy := Lib.hid hy
    replace ez := Lib.hid ez
    go_enter Tryd.func11, Tryd.ntmps11
    go_wp2_with fail
    rw [← hW0]
    replace hW0 := Lib.hid hW0
    refine cF.out.mono ?_
    rintro e w1 ⟨rfl, rfl⟩
    clear cF
    go_wp2_with fail
    rw [ez.out]
    have W1k : Keep W0 (W0.alloc (.cells #[.int .i64 y.k, .int .i64 y.p, .bool y.f, .int .i64 y.g, .slice y.A y.m y.c, .int .i64 y.a, .int .i64 y.h, .int .i64 y.d, .int .i64 y.t] 35)) := Keep.one _ _
    have w11 := heap_alloc_new W0 (.cells #[.int .i64 y.k, .int .i64 y.p, .bool y.f, .int .i64 y.g, .slice y.A y.m y.c, .int .i64 y.a, .int .i64 y.h, .int .i64 y.d, .int .i64 y.t] 35)
    have wz : (W0.alloc (.cells #[.int .i64 y.k, .int .i64 y.p, .bool y.f, .int .i64 y.g, .slice y.A y.m y.c, .int .i64 y.a, .int .i64 y.h, .int .i64 y.d, .int .i64 y.t] 35)).heap.size = W0.heap.size + 1 := World.size_alloc _ _
    generalize W0.alloc (.cells #[.int .i64 y.k, .int .i64 y.p, .bool y.f, .int .i64 y.g, .slice y.A y.m y.c, .int .i64 y.a, .int .i64 y.h, .int .i64 y.d, .int .i64 y.t] 35) = W1 at *
    have K1 : Keep w W1 := K0.out.trans W1k
    have b0 := W1k.block a0.out
    have b1 := W1k.block a1.out
    have b2 := W1k.block a2.out
    have cR := premove_fn (H.out.q.keep K1) x.k
    have T1 : Two W1 (fun k => (D k ∨ V k) ∨ k = w.heap.size + 1 + 1) B m d S B2 d2 Z := (H.out.two.more (D' := fun k => (D k ∨ V k) ∨ k = w.heap.size + 1 + 1) fun k hk => by
      rcases hk with hk | hk
      · exact Or.inl hk
      · right; omega).keep K1
    unfold PodV.val at cR
    replace cR := Lib.hid cR
    replace K1 := Lib.hid K1
    replace T1 := Lib.hid T1
    replace b0 := Lib.hid b0
    replace b1 := Lib.hid b1
    replace b2 := Lib.hid b2
    replace w11 := Lib.hid w11
    replace wz := Lib.hid wz
    replace W1k := Lib.hid W1k
    refine cR.out.mono ?_
    rintro e w2 ⟨x', b', rfl, G⟩
    clear cR
    have n0 : ¬ D w.heap.size := fun h => by have := ltD.out _ h; omega
    have n1 : ¬ D (w.heap.size + 1) := fun h => by have := ltD.out _ h; omega
    have n2 : ¬ D (w.heap.size + 1 + 1) := fun h => by have := ltD.out _ h; omega
    have n11 : ¬ D W0.heap.size := fun h => by have := ltD.out _ h; have := z0.out; omega
    have c0 := (G.fr.block _ (Array.getElem?_eq_some_iff.1 b0.out).1 n0).trans b0.out
    have c1 := (G.fr.block _ (Array.getElem?_eq_some_iff.1 b1.out).1 n1).trans b1.out
    have c2 := (G.fr.block _ (Array.getElem?_eq_some_iff.1 b2.out).1 n2).trans b2.out
    have c11 := (G.fr.block _ (Array.getElem?_eq_some_iff.1 w11.out).1 n11).trans w11.out
    have F2 : Fr (fun k => (D k ∨ V k) ∨ k = w.heap.size + 1 + 1) W1 w2 := (Fr.of (Keep.refl _)).trans G.fr fun k hk => Or.inl (Or.inl (Or.inl hk))
    have T2 := T1.out.fr (D' := fun k => (D k ∨ V k) ∨ k = w.heap.size + 1 + 1) F2 fun k hk => Or.inl hk
    have hb' : b' = false := by
      cases b' with
      | false => rfl
      | true =>
        obtain ⟨h1, r', h2⟩ := G.on rfl
        exact absurd (mem_keys.2 ⟨_, h2, h1⟩) hmem.out
    have sm : SameV x' y := by rw [hy.out, (G.off hb').2]; exact SameV.refl _
    have yi : PodIs w2 y := by rw [hy.out]; exact zpod_is _
    clear o0 o1 l0 l1
    subst hb'
    obtain ⟨W3, hW3⟩ : ∃ W, W = w2.alloc (.cells #[.int .i64 x'.k, .int .i64 x'.p, .bool x'.f, .int .i64 x'.g, .slice x'.A x'.m x'.c, .int .i64 x'.a, .int .i64 x'.h, .int .i64 x'.d, .int .i64 x'.t] 35) := ⟨_, rfl⟩
    have k3 : Keep w2 W3 := by rw [hW3]; exact Keep.one _ _
    have d12 : W3.heap[w2.heap.size]? = some (.cells #[.int .i64 x'.k, .int .i64 x'.p, .bool x'.f, .int .i64 x'.g, .slice x'.A x'.m x'.c, .int .i64 x'.a, .int .i64 x'.h, .int .i64 x'.d, .int .i64 x'.t] 35 (0, 0)) := by rw [hW3]; exact heap_alloc_new _ _
    have d0 := k3.block c0
    have d1 := k3.block c1
    have d2' := k3.block c2
    have d11 := k3.block c11
    have T3 := T2.keep k3
    have cM := rremove8_fn _ m d S _ d2 Z x.k W3 T3.src.rd T3.rs (by omega)
    have u0 : W3.cell? ⟨w.heap.size, 0, none⟩ = some (.slice B m d) := (cell_of_row _ _ _ _ _ _ d0).trans rfl
    have u1 : W3.cell? ⟨w.heap.size, 1, none⟩ = some (.slice B2 m d2) := (cell_of_row _ _ _ _ _ _ d0).trans rfl
    have u2 : W3.cell? ⟨w.heap.size + 1, 1, none⟩ = some (.int .i64 x.k) := (cell_of_row _ _ _ _ _ _ d1).trans rfl
    replace cM := Lib.hid cM
    replace k3 := Lib.hid k3
    replace d12 := Lib.hid d12
    replace d0 := Lib.hid d0
    replace d1 := Lib.hid d1
    replace d2' := Lib.hid d2'
    replace d11 := Lib.hid d11
    replace T3 := Lib.hid T3
    replace T2 := Lib.hid T2
    replace F2 := Lib.hid F2
    replace c0 := Lib.hid c0
    replace c1 := Lib.hid c1
    replace c2 := Lib.hid c2
    replace c11 := Lib.hid c11
    replace G := Lib.hid G
    replace sm := Lib.hid sm
    replace yi := Lib.hid yi
    replace n0 := Lib.hid n0
    replace n1 := Lib.hid n1
    replace n2 := Lib.hid n2
    replace n11 := Lib.hid n11
    have hW3' := hW3
    rw [hW3] at u0 u1 u2
    replace hW3' := Lib.hid hW3'
    replace hW3 := Lib.hid hW3
    go_wp2_with fail
    rw [← hW3.out]
    refine cM.out.mono ?_
    rintro e w4 ⟨B', k', d', B2', d2'', T, Y, rfl, k4, rd4, rs4, eqT, lo1, lo2, nl1, nl2, cap⟩
    clear cM u0 u1 u2
    have e12 := k4.block d12.out
    have e11 := k4.block d11.out
    have e2 := k4.block d2'.out
    have X' := (cel_of (w := w4) (g := w2.heap.size) (o := 0) (x := x') fun i u hu => by rw [Nat.zero_add, cell_of_row w4 _ _ _ _ _ e12, List.getElem?_toArray]; exact hu)
    have Y' := (cel_of (w := w4) (g := W0.heap.size) (o := 0) (x := y) fun i u hu => by rw [Nat.zero_add, cell_of_row w4 _ _ _ _ _ e11, List.getElem?_toArray]; exact hu)
    have cS := rsamepod_fn x' y w4 sm.out (((G.out.req.is G.out.ok).keep k3.out).keep k4) (yi.out.keep (k3.out.trans k4))
    unfold PodV.val at cS
    have xx0 := X'.e0; have xx1 := X'.e1; have xx2 := X'.e2; have xx3 := X'.e3; have xx4 := X'.e4; have xx5 := X'.e5; have xx6 := X'.e6; have xx7 := X'.e7; have xx8 := X'.e8
    have yy0 := Y'.e0; have yy1 := Y'.e1; have yy2 := Y'.e2; have yy3 := Y'.e3; have yy4 := Y'.e4; have yy5 := Y'.e5; have yy6 := Y'.e6; have yy7 := Y'.e7; have yy8 := Y'.e8
    simp only [Nat.zero_add] at xx1 xx2 xx3 xx4 xx5 xx6 xx7 xx8 yy1 yy2 yy3 yy4 yy5 yy6 yy7 yy8
    clear X' Y'
    have sz4 : W3.heap.size ≤ w4.heap.size := k4.size
    have l26 := (Array.getElem?_eq_some_iff.1 d2'.out).1
    have POST : Hid (∀ w5 : World, Keep w4 w5 → w5.cell? ⟨w.heap.size + 1 + 1, 0, none⟩ = some (.slice none 0 0) ∧ w5.cell? ⟨w.heap.size + 1 + 1, 1, none⟩ = some (.slice none 0 0) ∧ w5.frozen? ⟨w.heap.size + 1 + 1, 0, none⟩ = false ∧ w5.frozen? ⟨w.heap.size + 1 + 1, 1, none⟩ = false ∧
        ∀ W : World, W = (w5.setCell ⟨w.heap.size + 1 + 1, 0, none⟩ (.slice B' k' d')).setCell ⟨w.heap.size + 1 + 1, 1, none⟩ (.slice B2' k' d2'') → k' ≤ m + 1 ∧ After w W b bl V D B' k' d' T B2' d2'' Y) := fun w5 k5 => by
      have e5 := k5.block e2
      refine ⟨(cell_of_row _ _ _ _ _ _ e5).trans rfl, (cell_of_row _ _ _ _ _ _ e5).trans rfl, frozen_of_row _ _ _ _ _ e5, frozen_of_row _ _ _ _ _ e5, fun W hW => ?_⟩
      have FW : Fr (fun k => k = w.heap.size + 1 + 1) w5 W := by
        rw [hW]
        exact Fr.set (D := fun k => k = w.heap.size + 1 + 1) (p := ⟨w.heap.size + 1 + 1, 1, none⟩) (Fr.set (D := fun k => k = w.heap.size + 1 + 1) (p := ⟨w.heap.size + 1 + 1, 0, none⟩) (Fr.refl _ _) (Or.inl rfl) _) (Or.inl rfl) _
      have from_ : ∀ t, t < k' → ∃ i, i < m ∧ S i = T t := fun t ht => by
        have h1 : (T t, Y t) ∈ prZ T Y k' := prZ_mem.2 ⟨t, ht, rfl⟩
        rw [eqT] at h1
        obtain ⟨i, hi, e⟩ := prZ_mem.1 (List.mem_filter.1 h1).1
        simp only [Prod.mk.injEq] at e
        exact ⟨i, hi, e.1⟩
      have hD2 : ∀ k, ((D k ∨ V k) ∨ k = w.heap.size + 1 + 1) → k < W3.heap.size := fun k hk => by
        rcases hk with (hk | hk) | hk
        · have := ltD.out k hk; omega
        · have := hV.out k hk; omega
        · omega
      have T4 : Two w4 (fun k => (D k ∨ V k) ∨ k = w.heap.size + 1 + 1) B' k' d' T B2' d2'' Y := ⟨⟨rd4, fun b off e _ hd => by
          have := lo1 b off e
          have := hD2 b hd
          omega, fun j hj a ha h0 => by
          obtain ⟨i, hi, e⟩ := from_ j hj
          rw [← e] at ha h0
          exact T3.out.src.req i hi a ha h0⟩, rs4, fun a e h0 hd => by
          obtain ⟨g, off, e3, _⟩ := rs4.adr h0
          rw [e] at e3
          obtain rfl := Option.some.inj e3
          have := lo2 g off e
          have := hD2 g hd
          omega, nl1, nl2, cap, fun j hj => by
          obtain ⟨i, hi, e⟩ := from_ j hj
          rw [← e]
          exact T3.out.few i hi⟩
      refine ⟨?_, ((Fr.after K1.out G.out.fr).keep ((k3.out.trans k4).trans k5)).trans FW fun k hk => Or.inr (by omega), D, _, ⟨(G.out.inv.keep ((k3.out.trans k4).trans k5)).other n2.out ⟨_, _, e5⟩ (by decide) FW, (T4.keep k5).fr ((Fr.refl (fun k => (D k ∨ V k) ∨ k = w.heap.size + 1 + 1) w5).trans FW fun k hk => Or.inl (Or.inr hk)) fun k hk => Or.inl (Or.inl hk), ?_⟩, fun k hk => Or.inl hk⟩
      · have h1 := congrArg List.length eqT
        rw [prZ_len] at h1
        have h2 := List.length_filter_le (fun y : PodV × Int => decide (y.1.k ≠ x.k)) (prZ S Z m)
        rw [prZ_len] at h2
        omega
      · rw [eqT]
        have h1 := H.out.perm.filter fun y => decide (y.1.k ≠ x.k)
        rw [List.filter_map] at h1
        exact h1
    replace cS := Lib.hid cS
    replace k4 := Lib.hid k4
    replace rd4 := Lib.hid rd4
    replace rs4 := Lib.hid rs4
    replace eqT := Lib.hid eqT
    replace lo1 := Lib.hid lo1
    replace lo2 := Lib.hid lo2
    replace nl1 := Lib.hid nl1
    replace nl2 := Lib.hid nl2
    replace e12 := Lib.hid e12
    replace e11 := Lib.hid e11
    replace e2 := Lib.hid e2
    replace sz4 := Lib.hid sz4
    replace l26 := Lib.hid l26
    go_wp2_with fail
    refine cS.out.mono ?_
    rintro e w5 ⟨rfl, g5⟩
    obtain ⟨c60, c61, f60, f61, fin⟩ := POST.out w5 (Gr.keep g5)
    replace g5 := Lib.hid g5
    replace fin := Lib.hid fin
    clear cS xx0 xx1 xx2 xx3 xx4 xx5 xx6 xx7 xx8 yy0 yy1 yy2 yy3 yy4 yy5 yy6 yy7 yy8
    go_wp2
    refine bodyPost_ret (v := .tuple #[.agg #[.slice B' k' d', .slice B2' k' d2''], .bool true]) (by simp [results, Tryd.results11, go_sem, *]) rfl ⟨B', k', d', T, B2', d2'', Y, rfl, (fin.out _ rfl).1, (fin.out _ rfl).2⟩
end Go.Proofs.YtpkpmoiekjhdnaaDoor
