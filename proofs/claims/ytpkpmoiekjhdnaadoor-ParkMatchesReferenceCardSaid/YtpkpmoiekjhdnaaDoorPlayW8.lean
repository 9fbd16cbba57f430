/-
  The law's play: a Wake of the lot beside the reference's lists. Condition: at most 60 pods.
-/
import Derived.Test.YtpkpmoiekjhdnaaDoorSide8
namespace Go.Proofs.YtpkpmoiekjhdnaaDoor
open Go.RowKit Go.Sort Go.Lib Go.Shelf

set_option maxRecDepth 100000 in
set_option maxHeartbeats 8000000 in
theorem play_wake {w : World} {b bl : Nat} {V D : Nat → Prop} {B : Option Addr} {m d : Nat} {S : Nat → PodV} {B2 : Option Addr} {d2 : Nat} {Z : Nat → Int} {L : List (PodV × Int)} (h : Side w b bl V D B m d S B2 d2 Z L) (hm : m ≤ 60) (K : Int) (x : PodV) (r : Int) (hK0 : ¬ K = 0) (hK1 : ¬ K = 1) :
    Calls Tryd.prog 11 #[.pointer (some ⟨bl, 0, none⟩), .agg #[.slice B m d, .slice B2 m d2], .agg #[.int .i64 K, .int .i64 x.k, .int .i64 x.p, .bool x.f, .int .i64 x.g, .slice x.A x.m x.c, .int .i64 x.a, .int .i64 x.h, .int .i64 x.d, .int .i64 x.t, .int .i64 r]] w fun e w' => ∃ B' m' d' S' B2' d2' Z', e = .returned (.tuple #[.agg #[.slice B' m' d', .slice B2' m' d2'], .bool true]) ∧ m' ≤ m + 1 ∧ After w w' b bl V D B' m' d' S' B2' d2' Z' := by
  have mixed : Tryd.prog.follows .mixedOrders = true := by kernel_rfl
  obtain ⟨W0, hW0⟩ : ∃ W, W = ((w.alloc (.cells #[.slice B m d, .slice B2 m d2] 30)).alloc (.cells #[.int .i64 K, .int .i64 x.k, .int .i64 x.p, .bool x.f, .int .i64 x.g, .slice x.A x.m x.c, .int .i64 x.a, .int .i64 x.h, .int .i64 x.d, .int .i64 x.t, .int .i64 r] 37)).alloc (.cells #[.slice none 0 0, .slice none 0 0] 30) := ⟨_, rfl⟩
  have z1 : (w.alloc (.cells #[.slice B m d, .slice B2 m d2] 30)).heap.size = w.heap.size + 1 := by rw [World.size_alloc]
  have z2 : ((w.alloc (.cells #[.slice B m d, .slice B2 m d2] 30)).alloc (.cells #[.int .i64 K, .int .i64 x.k, .int .i64 x.p, .bool x.f, .int .i64 x.g, .slice x.A x.m x.c, .int .i64 x.a, .int .i64 x.h, .int .i64 x.d, .int .i64 x.t, .int .i64 r] 37)).heap.size = w.heap.size + 1 + 1 := by rw [World.size_alloc, z1]
  have K0 : Keep w W0 := by rw [hW0]; exact ((Keep.one _ _).alloc _).alloc _
  have a0 : W0.heap[w.heap.size]? = some (.cells #[.slice B m d, .slice B2 m d2] 30 (0, 0)) := by
    rw [hW0]
    exact (Keep.one _ _).block ((Keep.one _ _).block (heap_alloc_new _ _))
  have a2 : W0.heap[w.heap.size + 1 + 1]? = some (.cells #[.slice none 0 0, .slice none 0 0] 30 (0, 0)) := by
    rw [hW0, ← z2]
    exact heap_alloc_new _ _
  have ltD : ∀ k, D k → k < w.heap.size := fun k hk => (h.q.lo k hk).2
  have n0 : ¬ D w.heap.size := fun h => by have := ltD _ h; omega
  have n2 : ¬ D (w.heap.size + 1 + 1) := fun h => by have := ltD _ h; omega
  have l0 := (Array.getElem?_eq_some_iff.1 a0).1
  have l2 := (Array.getElem?_eq_some_iff.1 a2).1
  have hkeys := h.q.keys
  rw [← pods_keys] at hkeys
  have T0 := h.two.keep K0
  have cW : Hid (∀ W, Keep W0 W → Calls Tryd.prog 21 #[.pointer (some ⟨bl, 0, none⟩)] W fun e w2 => ∃ g S', e = .returned (.slice (some ⟨g, 0, none⟩) m m) ∧ Fr D W0 w2 ∧ (∃ D', LInv w2 b b bl D' [] ∧ ∀ k, D' k → D k ∨ W0.heap.size ≤ k) ∧ RdPods w2 (some ⟨g, 0, none⟩) m S' ∧ ((lst S' m).map nm).Perm (podsE L) ∧ ((lst S' m).map nm).Pairwise leP) := fun W k => by
    have h1 := pwake_fn ((h.q.keep K0).keep k)
    rw [h.len] at h1
    refine h1.mono ?_
    rintro e w2 ⟨g, S', rfl, Wk⟩
    obtain ⟨D', q, hd⟩ := Wk.inv
    have e1 := Wk.rd; have e2 := Wk.perm; have e3 := Wk.sort
    rw [h.len] at e1 e2 e3
    exact ⟨g, S', rfl, Fr.after k Wk.fr, ⟨D', q, fun k' hk' => (hd k' hk').imp id fun h => Nat.le_trans k.size h⟩, e1, e2, e3⟩
  have cL : Hid (∀ w2 W, Fr D W0 w2 → Keep w2 W → Calls Tryd.prog 14 #[.agg #[.slice B m d, .slice B2 m d2]] W fun e w' => ∃ B' d' T, e = .returned (.slice B' m d') ∧ Keep W w' ∧ RdPods w' B' m T ∧ ((lst T m).map nm).Perm (podsE L) ∧ ((lst T m).map nm).Pairwise leP) := fun w2 W F k => by
    have T2 : Two W (fun k => D k ∨ V k) B m d S B2 d2 Z := (T0.fr ((Fr.refl (fun k => D k ∨ V k) W0).trans F fun k hk => Or.inl (Or.inl hk)) fun k hk => Or.inl hk).keep k
    refine (rall8_fn B m d S (.slice B2 m d2) W T2.src.rd (by omega) (fun j hj => ⟨(T2.few j hj).1, (T2.few j hj).2.1⟩)).mono ?_
    rintro e w' ⟨B', d', T, rfl, k', rd', p', s'⟩
    exact ⟨B', d', T, rfl, k', rd', p'.trans h.pods, s'⟩
  have SS : Hid (∀ W : World, W.heap[w.heap.size]? = some (.cells #[.slice B m d, .slice B2 m d2] 30 (0, 0)) → W.cell? ⟨w.heap.size, 0, none⟩ = some (.slice B m d) ∧ W.cell? ⟨w.heap.size, 1, none⟩ = some (.slice B2 m d2)) := fun W h0 => ⟨(cell_of_row _ _ _ _ _ _ h0).trans rfl, (cell_of_row _ _ _ _ _ _ h0).trans rfl⟩
  have POST : Hid (∀ w2 w4 : World, Fr D W0 w2 → (∃ D', LInv w2 b b bl D' [] ∧ ∀ k, D' k → D k ∨ W0.heap.size ≤ k) → Keep w2 w4 → w4.heap[w.heap.size]? = some (.cells #[.slice B m d, .slice B2 m d2] 30 (0, 0)) ∧ w4.cell? ⟨w.heap.size + 1 + 1, 0, none⟩ = some (.slice none 0 0) ∧ w4.cell? ⟨w.heap.size + 1 + 1, 1, none⟩ = some (.slice none 0 0) ∧ w4.frozen? ⟨w.heap.size + 1 + 1, 0, none⟩ = false ∧ w4.frozen? ⟨w.heap.size + 1 + 1, 1, none⟩ = false ∧
      ∀ W : World, W = (w4.setCell ⟨w.heap.size + 1 + 1, 0, none⟩ (.slice none 0 0)).setCell ⟨w.heap.size + 1 + 1, 1, none⟩ (.slice none 0 0) → W.heap[w.heap.size]? = some (.cells #[.slice B m d, .slice B2 m d2] 30 (0, 0)) ∧ After w W b bl V D none 0 0 (fun _ => zpod) none 0 (fun _ => 0)) := fun w2 w4 F hq k => by
    have c0 := k.block ((F.block _ l0 n0).trans a0)
    have c2 := k.block ((F.block _ l2 n2).trans a2)
    refine ⟨c0, (cell_of_row _ _ _ _ _ _ c2).trans rfl, (cell_of_row _ _ _ _ _ _ c2).trans rfl, frozen_of_row _ _ _ _ _ c2, frozen_of_row _ _ _ _ _ c2, fun W hW => ?_⟩
    have FW : Fr (fun k => k = w.heap.size + 1 + 1) w4 W := by
      rw [hW]
      exact Fr.set (D := fun k => k = w.heap.size + 1 + 1) (p := ⟨w.heap.size + 1 + 1, 1, none⟩) (Fr.set (D := fun k => k = w.heap.size + 1 + 1) (p := ⟨w.heap.size + 1 + 1, 0, none⟩) (Fr.refl _ _) (Or.inl rfl) _) (Or.inl rfl) _
    have l4 := (Array.getElem?_eq_some_iff.1 c0).1
    obtain ⟨D', q, hd⟩ := hq
    have kz : w.heap.size ≤ W0.heap.size := K0.size
    have nD : ¬ D' (w.heap.size + 1 + 1) := fun h => by
      rcases hd _ h with h | h
      · exact n2 h
      · omega
    refine ⟨(FW.block _ l4 (by omega)).trans c0, (((Fr.after K0 F).keep k).trans FW fun k hk => Or.inr (by omega)), D', [], ⟨(q.keep k).other nD ⟨_, _, c2⟩ (by decide) FW, nil_two _ _, List.Perm.refl _⟩, fun k hk => (hd k hk).imp id fun h => Nat.le_trans kz h⟩
  replace K0 := Lib.hid K0
  replace z1 := Lib.hid z1
  replace z2 := Lib.hid z2
  replace a0 := Lib.hid a0
  replace a2 := Lib.hid a2
  replace ltD := Lib.hid ltD
  replace n0 := Lib.hid n0
  replace n2 := Lib.hid n2
  replace hkeys := Lib.hid hkeys
  replace T0 := Lib.hid T0
  obtain ⟨e1, e2⟩ := SS.out W0 a0.out
  have H := Lib.hid h
  clear h
  go_enter Tryd.func11, Tryd.ntmps11
  go_wp2_with fail
  rw [← hW0]
  replace hW0 := Lib.hid hW0
  go_region_held3 (fun w' => w'.cell? ⟨w.heap.size, 0, none⟩ = some (.slice B m d) ∧ w'.cell? ⟨w.heap.size, 1, none⟩ = some (.slice B2 m d2))
    (first
      | exact SS.out _ p5.out
      | exact SS.out _ h5.out
      | exact SS.out _ h4.out
      | exact SS.out _ h3.out
      | exact SS.out _ (Keep.block (w := W0) (by repeat (with_reducible first | exact Keep.refl W0 | apply Keep.alloc | apply Keep.drew | apply Keep.drewN)) a0.out))
    (first
      | (go_at_call 21
         refine (cW.out _ (by repeat (with_reducible first | exact Keep.refl W0 | apply Keep.alloc | apply Keep.drew | apply Keep.drewN))).mono ?_
         rintro e w2 ⟨g, S', rfl, F2, Q2, R2, P2, O2⟩
         obtain ⟨h3, _⟩ := POST.out w2 w2 F2 Q2 (Keep.refl _)
         replace h3 := Lib.hid h3
         replace F2 := Lib.hid F2
         replace Q2 := Lib.hid Q2
         replace R2 := Lib.hid R2
         replace P2 := Lib.hid P2
         replace O2 := Lib.hid O2)
      | (go_at_call 14
         refine (cL.out w2 _ F2.out (by repeat (with_reducible first | exact Keep.refl w2 | apply Keep.alloc | apply Keep.drew | apply Keep.drewN))).mono ?_
         rintro e w3 ⟨B', d', T, rfl, k3, R3, P3, O3⟩
         have k3' : Hid (Keep w2 w3) := Keep.trans (by repeat (with_reducible first | exact Keep.refl w2 | apply Keep.alloc | apply Keep.drew | apply Keep.drewN)) k3
         obtain ⟨h4, _⟩ := POST.out w2 w3 F2.out Q2.out k3'.out
         have cS := Lib.hid (fun W (k : Keep w3 W) => rsame6_fn (some ⟨g, 0, none⟩) B' m m d' S' T W ((R2.out.keep k3'.out).keep k) (R3.keep k) (both_same P2.out O2.out P3 O3 hkeys.out).2)
         replace h4 := Lib.hid h4
         replace k3 := Lib.hid k3
         replace R3 := Lib.hid R3
         replace P3 := Lib.hid P3
         replace O3 := Lib.hid O3)
      | (go_at_call 12
         refine (cS.out _ (by repeat (with_reducible first | exact Keep.refl w3 | apply Keep.alloc | apply Keep.drew | apply Keep.drewN))).mono ?_
         rintro e w5 ⟨rfl, k5⟩
         have k5' : Hid (Keep w2 w5) := k3'.out.trans (Keep.trans (by repeat (with_reducible first | exact Keep.refl w3 | apply Keep.alloc | apply Keep.drew | apply Keep.drewN)) k5)
         obtain ⟨h5, c60, c61, f60, f61, fin⟩ := POST.out w2 w5 F2.out Q2.out k5'.out
         have p5 := Lib.hid (fin _ rfl).1
         replace h5 := Lib.hid h5
         replace k5 := Lib.hid k5
         replace fin := Lib.hid fin))
  all_goals
    go_wp2
    refine bodyPost_ret (v := .tuple #[.agg #[.slice none 0 0, .slice none 0 0], .bool true]) (by simp [results, Tryd.results11, go_sem, *]) rfl ⟨none, 0, 0, _, none, 0, _, rfl, Nat.zero_le _, (fin.out _ rfl).2⟩
end Go.Proofs.YtpkpmoiekjhdnaaDoor
