/-
  The law's play: peek and remove. Conditions: as for a push.
-/
import Derived.Test.YtmmpmpdjcmilkaaPop_7
namespace Go.Proofs.Ytmmpmpdjcmilkaa
open Go.RowKit Go.Sort Go.Lib Go.Shelf

theorem keys_inj : ∀ {L : List PodV}, (L.map (·.k)).Nodup → ∀ {a b : PodV}, a ∈ L → b ∈ L → a.k = b.k → a = b
  | [], _, _, _, h, _, _ => by cases h
  | x :: r, hk, a, b, ha, hb, e => by
    rw [List.map_cons, List.nodup_cons] at hk
    have no : ∀ c ∈ r, c.k = x.k → False := fun c hc hcx => hk.1 (by rw [← hcx]; exact List.mem_map_of_mem hc)
    rcases List.mem_cons.1 ha with h1 | h1
    · rcases List.mem_cons.1 hb with h2 | h2
      · rw [h1, h2]
      · exact (no b h2 (by rw [← e, h1])).elim
    · rcases List.mem_cons.1 hb with h2 | h2
      · exact (no a h1 (by rw [e, h2])).elim
      · exact keys_inj hk.2 h1 h2 e

set_option maxRecDepth 100000 in
set_option maxHeartbeats 4000000 in
theorem play_peek {w : World} {b bq : Nat} {D : Nat → Prop} {B : Option Addr} {m d : Nat} {S : Nat → PodV} {L : List PodV} (h : Side w b bq D B m d S L) (hm : m ≤ 60) (x : PodV) (hx : PodIs w x) (hxr : ∀ a, x.A = some a → 0 < x.m → ¬ D a.block) (fx : OneF x) :
    Calls Try.prog 11 #[.pointer (some ⟨bq, 0, none⟩), .slice B m d, .agg #[.int .i64 2, .int .i64 x.k, .int .i64 x.p, .bool x.f, .int .i64 x.g, .slice x.A x.m x.c, .int .i64 x.a, .int .i64 x.h, .int .i64 x.d, .int .i64 x.t]] w fun e w' => ∃ B' m' d' S', e = .returned (.tuple #[.slice B' m' d', .bool true]) ∧ m' ≤ m + 1 ∧ After w w' b bq D B' m' d' S' := by
  have mixed : Try.prog.follows .mixedOrders = true := by kernel_rfl
  have H := Lib.hid h
  have hx := Lib.hid hx
  have hxr := Lib.hid hxr
  have fx := Lib.hid fx
  have hnilS := Lib.hid h.nil
  have ltD : Hid (∀ k, D k → k < w.heap.size) := fun k hk => (h.q.lo k hk).2
  clear h
  by_cases h0 : 0 < m
  · obtain ⟨g, off, rfl, C⟩ := first_at H.out h0
    obtain ⟨y, hy⟩ : ∃ y, y = S 0 := ⟨_, rfl⟩
    rw [← hy] at C
    replace hy := Lib.hid hy
    have q0 := pods_at g off m d 0 h0
    simp only [Nat.zero_mul, Nat.add_zero] at q0
    have h0z : (0 : Int) < (m : Int) := by omega
    have y0 := C.e0; have y1 := C.e1; have y2 := C.e2; have y3 := C.e3; have y4 := C.e4; have y5 := C.e5; have y6 := C.e6; have y7 := C.e7; have y8 := C.e8
    have gl := cell_lt y0
    clear C
    obtain ⟨W2, hW2⟩ : ∃ W, W = ((w.alloc (.cells #[.int .i64 2, .int .i64 x.k, .int .i64 x.p, .bool x.f, .int .i64 x.g, .slice x.A x.m x.c, .int .i64 x.a, .int .i64 x.h, .int .i64 x.d, .int .i64 x.t] 34)).alloc (.cells #[.int .i64 y.k, .int .i64 y.p, .bool y.f, .int .i64 y.g, .slice y.A y.m y.c, .int .i64 y.a, .int .i64 y.h, .int .i64 y.d, .int .i64 y.t] 32)) := ⟨_, rfl⟩
    have k2 : Keep w W2 := by rw [hW2]; exact (Keep.one _ _).alloc _
    have z2 : W2.heap.size = w.heap.size + 1 + 1 := by rw [hW2, World.size_alloc, World.size_alloc]
    have fy2 : W2.heap[w.heap.size + 1]? = some (.cells #[.int .i64 y.k, .int .i64 y.p, .bool y.f, .int .i64 y.g, .slice y.A y.m y.c, .int .i64 y.a, .int .i64 y.h, .int .i64 y.d, .int .i64 y.t] 32 (0, 0)) := by
      have := heap_alloc_new (w.alloc (.cells #[.int .i64 2, .int .i64 x.k, .int .i64 x.p, .bool x.f, .int .i64 x.g, .slice x.A x.m x.c, .int .i64 x.a, .int .i64 x.h, .int .i64 x.d, .int .i64 x.t] 34)) (.cells #[.int .i64 y.k, .int .i64 y.p, .bool y.f, .int .i64 y.g, .slice y.A y.m y.c, .int .i64 y.a, .int .i64 y.h, .int .i64 y.d, .int .i64 y.t] 32)
      rw [World.size_alloc] at this
      rw [hW2]
      exact this
    have H2 := H.out.keep k2
    have cO := qpeek_fn H2.q (H2.ne h0)
    unfold PodV.val at cO
    have yi : Hid (PodIs W2 y) := by rw [hy.out]; exact H2.src.rd.is 0 h0
    replace cO := Lib.hid cO
    replace z2 := Lib.hid z2
    replace fy2 := Lib.hid fy2
    replace k2 := Lib.hid k2
    replace H2 := Lib.hid H2
    go_enter Try.func11, Try.ntmps11
    go_wp2_with fail
    rw [← hW2]
    replace hW2 := Lib.hid hW2
    refine cO.out.mono ?_
    rintro e w5 ⟨u, rfl, ui, um, k5, rq5, ok5⟩
    have eu := H2.out.first h0 ui um
    have sm : Hid (SameV u y) := by rw [hy.out]; exact same_nm eu.symm
    clear cO y0 y1 y2 y3 y4 y5 y6 y7 y8
    have fy5 := k5.block fy2.out
    obtain ⟨W6, hW6⟩ : ∃ W, W = w5.alloc (.cells #[.int .i64 u.k, .int .i64 u.p, .bool u.f, .int .i64 u.g, .slice u.A u.m u.c, .int .i64 u.a, .int .i64 u.h, .int .i64 u.d, .int .i64 u.t] 32) := ⟨_, rfl⟩
    have k6 : Keep w5 W6 := by rw [hW6]; exact Keep.one _ _
    have fy6 := k6.block fy5
    have fu6 : W6.heap[w5.heap.size]? = some (.cells #[.int .i64 u.k, .int .i64 u.p, .bool u.f, .int .i64 u.g, .slice u.A u.m u.c, .int .i64 u.a, .int .i64 u.h, .int .i64 u.d, .int .i64 u.t] 32 (0, 0)) := by rw [hW6]; exact heap_alloc_new _ _
    have cS : Hid (∀ W, Keep W6 W → Calls Try.prog 26 #[.agg #[.int .i64 u.k, .int .i64 u.p, .bool u.f, .int .i64 u.g, .slice u.A u.m u.c, .int .i64 u.a, .int .i64 u.h, .int .i64 u.d, .int .i64 u.t], .bool true, .agg #[.int .i64 y.k, .int .i64 y.p, .bool y.f, .int .i64 y.g, .slice y.A y.m y.c, .int .i64 y.a, .int .i64 y.h, .int .i64 y.d, .int .i64 y.t], .bool true] W fun e w' => e = .returned (.bool true) ∧ Gr W w') := fun W k => same7_fn u y true W sm.out ((own_is rq5 ok5).keep (k6.trans k)) (yi.out.keep (k5.trans (k6.trans k)))
    have AF : Hid (∀ W, Keep W6 W → After w W b bq D (some ⟨g, off, none⟩) m d S) := fun W kW => ⟨Fr.of (k2.out.trans (k5.trans (k6.trans kW))), D, _, H2.out.keep (k5.trans (k6.trans kW)), fun k hk => Or.inl hk⟩
    have y0 : w5.cell? ⟨w.heap.size + 1, 0, none⟩ = some (.int .i64 y.k) := by rw [cell_of_row w5 _ _ _ _ _ fy5]; rfl
    have y1 : w5.cell? ⟨w.heap.size + 1, 1, none⟩ = some (.int .i64 y.p) := by rw [cell_of_row w5 _ _ _ _ _ fy5]; rfl
    have y2 : w5.cell? ⟨w.heap.size + 1, 2, none⟩ = some (.bool y.f) := by rw [cell_of_row w5 _ _ _ _ _ fy5]; rfl
    have y3 : w5.cell? ⟨w.heap.size + 1, 3, none⟩ = some (.int .i64 y.g) := by rw [cell_of_row w5 _ _ _ _ _ fy5]; rfl
    have y4 : w5.cell? ⟨w.heap.size + 1, 4, none⟩ = some (.slice y.A y.m y.c) := by rw [cell_of_row w5 _ _ _ _ _ fy5]; rfl
    have y5 : w5.cell? ⟨w.heap.size + 1, 5, none⟩ = some (.int .i64 y.a) := by rw [cell_of_row w5 _ _ _ _ _ fy5]; rfl
    have y6 : w5.cell? ⟨w.heap.size + 1, 6, none⟩ = some (.int .i64 y.h) := by rw [cell_of_row w5 _ _ _ _ _ fy5]; rfl
    have y7 : w5.cell? ⟨w.heap.size + 1, 7, none⟩ = some (.int .i64 y.d) := by rw [cell_of_row w5 _ _ _ _ _ fy5]; rfl
    have y8 : w5.cell? ⟨w.heap.size + 1, 8, none⟩ = some (.int .i64 y.t) := by rw [cell_of_row w5 _ _ _ _ _ fy5]; rfl
    have hl5 : w.heap.size + 1 < w5.heap.size := (Array.getElem?_eq_some_iff.1 fy5).1
    replace fy6 := Lib.hid fy6
    replace fu6 := Lib.hid fu6
    replace fy5 := Lib.hid fy5
    replace k6 := Lib.hid k6
    replace k5 := Lib.hid k5
    replace rq5 := Lib.hid rq5
    replace ok5 := Lib.hid ok5
    replace ui := Lib.hid ui
    replace um := Lib.hid um
    replace eu := Lib.hid eu
    go_wp2_with fail
    rw [← hW6]
    replace hW6 := Lib.hid hW6
    refine (cS.out _ (Keep.refl _)).mono ?_
    rintro e w7 ⟨rfl, g7⟩
    have K7 := g7.keep
    replace g7 := Lib.hid g7
    replace K7 := Lib.hid K7
    clear y0 y1 y2 y3 y4 y5 y6 y7 y8 cS
    go_wp2
    go_ret2
    exact ⟨_, m, d, S, rfl, by omega, AF.out _ K7.out⟩
  · have h0z : (m : Int) ≤ 0 := by omega
    obtain ⟨W2, hW2⟩ : ∃ W, W = ((w.alloc (.cells #[.int .i64 2, .int .i64 x.k, .int .i64 x.p, .bool x.f, .int .i64 x.g, .slice x.A x.m x.c, .int .i64 x.a, .int .i64 x.h, .int .i64 x.d, .int .i64 x.t] 34)).alloc (.cells #[.int .i64 0, .int .i64 0, .bool false, .int .i64 0, .slice none 0 0, .int .i64 0, .int .i64 0, .int .i64 0, .int .i64 0] 32)) := ⟨_, rfl⟩
    have k2 : Keep w W2 := by rw [hW2]; exact (Keep.one _ _).alloc _
    have z2 : W2.heap.size = w.heap.size + 1 + 1 := by rw [hW2, World.size_alloc, World.size_alloc]
    have fy2 : W2.heap[w.heap.size + 1]? = some (.cells #[.int .i64 0, .int .i64 0, .bool false, .int .i64 0, .slice none 0 0, .int .i64 0, .int .i64 0, .int .i64 0, .int .i64 0] 32 (0, 0)) := by
      have := heap_alloc_new (w.alloc (.cells #[.int .i64 2, .int .i64 x.k, .int .i64 x.p, .bool x.f, .int .i64 x.g, .slice x.A x.m x.c, .int .i64 x.a, .int .i64 x.h, .int .i64 x.d, .int .i64 x.t] 34)) (.cells #[.int .i64 0, .int .i64 0, .bool false, .int .i64 0, .slice none 0 0, .int .i64 0, .int .i64 0, .int .i64 0, .int .i64 0] 32)
      rw [World.size_alloc] at this
      rw [hW2]
      exact this
    have H2 := H.out.keep k2
    have eL := H.out.nil0 h0
    subst eL
    have cO := qpeek_none H2.q
    unfold zpod PodV.val at cO
    replace cO := Lib.hid cO
    replace z2 := Lib.hid z2
    replace fy2 := Lib.hid fy2
    replace k2 := Lib.hid k2
    replace H2 := Lib.hid H2
    go_enter Try.func11, Try.ntmps11
    go_wp2_with fail
    rw [← hW2]
    replace hW2 := Lib.hid hW2
    refine cO.out.mono ?_
    rintro e w5 ⟨rfl, k5⟩
    clear cO 
    have fy5 := k5.block fy2.out
    obtain ⟨W6, hW6⟩ : ∃ W, W = w5.alloc (.cells #[.int .i64 0, .int .i64 0, .bool false, .int .i64 0, .slice none 0 0, .int .i64 0, .int .i64 0, .int .i64 0, .int .i64 0] 32) := ⟨_, rfl⟩
    have k6 : Keep w5 W6 := by rw [hW6]; exact Keep.one _ _
    have fy6 := k6.block fy5
    have fu6 : W6.heap[w5.heap.size]? = some (.cells #[.int .i64 0, .int .i64 0, .bool false, .int .i64 0, .slice none 0 0, .int .i64 0, .int .i64 0, .int .i64 0, .int .i64 0] 32 (0, 0)) := by rw [hW6]; exact heap_alloc_new _ _
    have cS : Hid (∀ W, Keep W6 W → Calls Try.prog 26 #[.agg #[.int .i64 0, .int .i64 0, .bool false, .int .i64 0, .slice none 0 0, .int .i64 0, .int .i64 0, .int .i64 0, .int .i64 0], .bool false, .agg #[.int .i64 0, .int .i64 0, .bool false, .int .i64 0, .slice none 0 0, .int .i64 0, .int .i64 0, .int .i64 0, .int .i64 0], .bool false] W fun e w' => e = .returned (.bool true) ∧ Gr W w') := fun W _ => same7_fn zpod zpod false W (SameV.refl _) (zpod_is _) (zpod_is _)
    have AF : Hid (∀ W, Keep W6 W → After w W b bq D B m d S) := fun W kW => ⟨Fr.of (k2.out.trans (k5.trans (k6.trans kW))), D, _, H2.out.keep (k5.trans (k6.trans kW)), fun k hk => Or.inl hk⟩
    have y0 : w5.cell? ⟨w.heap.size + 1, 0, none⟩ = some (.int .i64 0) := by rw [cell_of_row w5 _ _ _ _ _ fy5]; rfl
    have y1 : w5.cell? ⟨w.heap.size + 1, 1, none⟩ = some (.int .i64 0) := by rw [cell_of_row w5 _ _ _ _ _ fy5]; rfl
    have y2 : w5.cell? ⟨w.heap.size + 1, 2, none⟩ = some (.bool false) := by rw [cell_of_row w5 _ _ _ _ _ fy5]; rfl
    have y3 : w5.cell? ⟨w.heap.size + 1, 3, none⟩ = some (.int .i64 0) := by rw [cell_of_row w5 _ _ _ _ _ fy5]; rfl
    have y4 : w5.cell? ⟨w.heap.size + 1, 4, none⟩ = some (.slice none 0 0) := by rw [cell_of_row w5 _ _ _ _ _ fy5]; rfl
    have y5 : w5.cell? ⟨w.heap.size + 1, 5, none⟩ = some (.int .i64 0) := by rw [cell_of_row w5 _ _ _ _ _ fy5]; rfl
    have y6 : w5.cell? ⟨w.heap.size + 1, 6, none⟩ = some (.int .i64 0) := by rw [cell_of_row w5 _ _ _ _ _ fy5]; rfl
    have y7 : w5.cell? ⟨w.heap.size + 1, 7, none⟩ = some (.int .i64 0) := by rw [cell_of_row w5 _ _ _ _ _ fy5]; rfl
    have y8 : w5.cell? ⟨w.heap.size + 1, 8, none⟩ = some (.int .i64 0) := by rw [cell_of_row w5 _ _ _ _ _ fy5]; rfl
    have hl5 : w.heap.size + 1 < w5.heap.size := (Array.getElem?_eq_some_iff.1 fy5).1
    replace fy6 := Lib.hid fy6
    replace fu6 := Lib.hid fu6
    replace fy5 := Lib.hid fy5
    replace k6 := Lib.hid k6
    replace k5 := Lib.hid k5
    go_wp2_with fail
    rw [← hW6]
    replace hW6 := Lib.hid hW6
    refine (cS.out _ (Keep.refl _)).mono ?_
    rintro e w7 ⟨rfl, g7⟩
    have K7 := g7.keep
    replace g7 := Lib.hid g7
    replace K7 := Lib.hid K7
    clear y0 y1 y2 y3 y4 y5 y6 y7 y8 cS
    go_wp2
    go_ret2
    exact ⟨_, m, d, S, rfl, by omega, AF.out _ K7.out⟩
set_option maxRecDepth 100000 in
set_option maxHeartbeats 4000000 in
theorem play_remove {w : World} {b bq : Nat} {D : Nat → Prop} {B : Option Addr} {m d : Nat} {S : Nat → PodV} {L : List PodV} (h : Side w b bq D B m d S L) (hm : m ≤ 60) (K : Int) (x : PodV) (hx : PodIs w x) (hxr : ∀ a, x.A = some a → 0 < x.m → ¬ D a.block) (fx : OneF x) (hK : K ≠ 0 ∧ K ≠ 1 ∧ K ≠ 2) :
    Calls Try.prog 11 #[.pointer (some ⟨bq, 0, none⟩), .slice B m d, .agg #[.int .i64 K, .int .i64 x.k, .int .i64 x.p, .bool x.f, .int .i64 x.g, .slice x.A x.m x.c, .int .i64 x.a, .int .i64 x.h, .int .i64 x.d, .int .i64 x.t]] w fun e w' => ∃ B' m' d' S', e = .returned (.tuple #[.slice B' m' d', .bool true]) ∧ m' ≤ m + 1 ∧ After w w' b bq D B' m' d' S' := by
  have mixed : Try.prog.follows .mixedOrders = true := by kernel_rfl
  have H := Lib.hid h
  have hx := Lib.hid hx
  have hxr := Lib.hid hxr
  have fx := Lib.hid fx
  have hnilS := Lib.hid h.nil
  have ltD : Hid (∀ k, D k → k < w.heap.size) := fun k hk => (h.q.lo k hk).2
  clear h
  obtain ⟨hK0, hK1, hK2⟩ := hK
  by_cases h0 : 0 < m
  · obtain ⟨g, off, rfl, C⟩ := first_at H.out h0
    obtain ⟨y, hy⟩ : ∃ y, y = S 0 := ⟨_, rfl⟩
    rw [← hy] at C
    replace hy := Lib.hid hy
    have q0 := pods_at g off m d 0 h0
    simp only [Nat.zero_mul, Nat.add_zero] at q0
    have h0z : (0 : Int) < (m : Int) := by omega
    have y0 := C.e0; have y1 := C.e1; have y2 := C.e2; have y3 := C.e3; have y4 := C.e4; have y5 := C.e5; have y6 := C.e6; have y7 := C.e7; have y8 := C.e8
    have gl := cell_lt y0
    clear C
    by_cases hin : x.k ∈ L.map (·.k)
    · obtain ⟨W2, hW2⟩ : ∃ W, W = ((w.alloc (.cells #[.int .i64 K, .int .i64 x.k, .int .i64 x.p, .bool x.f, .int .i64 x.g, .slice x.A x.m x.c, .int .i64 x.a, .int .i64 x.h, .int .i64 x.d, .int .i64 x.t] 34)).alloc (.cells #[.int .i64 y.k, .int .i64 y.p, .bool y.f, .int .i64 y.g, .slice y.A y.m y.c, .int .i64 y.a, .int .i64 y.h, .int .i64 y.d, .int .i64 y.t] 32)) := ⟨_, rfl⟩
      have k2 : Keep w W2 := by rw [hW2]; exact (Keep.one _ _).alloc _
      have z2 : W2.heap.size = w.heap.size + 1 + 1 := by rw [hW2, World.size_alloc, World.size_alloc]
      have fy2 : W2.heap[w.heap.size + 1]? = some (.cells #[.int .i64 y.k, .int .i64 y.p, .bool y.f, .int .i64 y.g, .slice y.A y.m y.c, .int .i64 y.a, .int .i64 y.h, .int .i64 y.d, .int .i64 y.t] 32 (0, 0)) := by
        have := heap_alloc_new (w.alloc (.cells #[.int .i64 K, .int .i64 x.k, .int .i64 x.p, .bool x.f, .int .i64 x.g, .slice x.A x.m x.c, .int .i64 x.a, .int .i64 x.h, .int .i64 x.d, .int .i64 x.t] 34)) (.cells #[.int .i64 y.k, .int .i64 y.p, .bool y.f, .int .i64 y.g, .slice y.A y.m y.c, .int .i64 y.a, .int .i64 y.h, .int .i64 y.d, .int .i64 y.t] 32)
        rw [World.size_alloc] at this
        rw [hW2]
        exact this
      have H2 := H.out.keep k2
      have cF := rfind_fn (some ⟨g, off, none⟩) m d S x.k W2 H2.src.rd
      have op2 : W2.heap[w.heap.size]? = some (.cells #[.int .i64 K, .int .i64 x.k, .int .i64 x.p, .bool x.f, .int .i64 x.g, .slice x.A x.m x.c, .int .i64 x.a, .int .i64 x.h, .int .i64 x.d, .int .i64 x.t] 34 (0, 0)) := by rw [hW2]; exact (Keep.one _ _).block (heap_alloc_new w _)
      obtain ⟨j, hjm, hfj, hjk⟩ := find_lt ((find_keys H.out.perm).2 hin)
      rw [hfj] at cF
      obtain ⟨z, hz⟩ : ∃ z, z = S j := ⟨_, rfl⟩
      have CZ : Cel9 W2 g (off + j * 9) z := by
        obtain ⟨b2, o2, e2, c2⟩ := H2.src.rd.adr h0
        simp only [Option.some.injEq, Addr.mk.injEq, and_true] at e2
        obtain ⟨rfl, rfl⟩ := e2
        rw [hz]
        exact c2 j hjm
      have qj := pods_at g off m d j hjm
      have z0 := CZ.e0; have z1 := CZ.e1; have z3 := CZ.e2; have z4 := CZ.e3; have z5 := CZ.e4; have z6 := CZ.e5; have z7 := CZ.e6; have z8 := CZ.e7; have z9 := CZ.e8
      clear CZ
      have iz : Hid (PodIs W2 z) := by rw [hz]; exact H2.src.rd.is j hjm
      have gl2 := cell_lt z0
      obtain ⟨W3, hW3⟩ : ∃ W, W = W2.alloc (.cells #[.int .i64 z.k, .int .i64 z.p, .bool z.f, .int .i64 z.g, .slice z.A z.m z.c, .int .i64 z.a, .int .i64 z.h, .int .i64 z.d, .int .i64 z.t] 32) := ⟨_, rfl⟩
      have fz3 : W3.heap[W2.heap.size]? = some (.cells #[.int .i64 z.k, .int .i64 z.p, .bool z.f, .int .i64 z.g, .slice z.A z.m z.c, .int .i64 z.a, .int .i64 z.h, .int .i64 z.d, .int .i64 z.t] 32 (0, 0)) := by rw [hW3]; exact heap_alloc_new _ _
      have k3 : Keep W2 W3 := by rw [hW3]; exact Keep.one _ _
      have cO := qremove_fn (H2.q.keep k3) x.k hin
      unfold PodV.val at cO
      replace hz := Lib.hid hz
      replace hfj := Lib.hid hfj
      replace hjk := Lib.hid hjk
      rw [hW2] at hW3
      have op3 := k3.block op2
      have o0 : W2.cell? ⟨w.heap.size, 0, none⟩ = some (.int .i64 K) := by rw [cell_of_row W2 _ _ _ _ _ op2]; rfl
      have o1 : W2.cell? ⟨w.heap.size, 1, none⟩ = some (.int .i64 x.k) := by rw [cell_of_row W2 _ _ _ _ _ op2]; rfl
      have o2 : W2.cell? ⟨w.heap.size, 2, none⟩ = some (.int .i64 x.p) := by rw [cell_of_row W2 _ _ _ _ _ op2]; rfl
      have o3 : W2.cell? ⟨w.heap.size, 3, none⟩ = some (.bool x.f) := by rw [cell_of_row W2 _ _ _ _ _ op2]; rfl
      have o4 : W2.cell? ⟨w.heap.size, 4, none⟩ = some (.int .i64 x.g) := by rw [cell_of_row W2 _ _ _ _ _ op2]; rfl
      have o5 : W2.cell? ⟨w.heap.size, 5, none⟩ = some (.slice x.A x.m x.c) := by rw [cell_of_row W2 _ _ _ _ _ op2]; rfl
      have o6 : W2.cell? ⟨w.heap.size, 6, none⟩ = some (.int .i64 x.a) := by rw [cell_of_row W2 _ _ _ _ _ op2]; rfl
      have o7 : W2.cell? ⟨w.heap.size, 7, none⟩ = some (.int .i64 x.h) := by rw [cell_of_row W2 _ _ _ _ _ op2]; rfl
      have o8 : W2.cell? ⟨w.heap.size, 8, none⟩ = some (.int .i64 x.d) := by rw [cell_of_row W2 _ _ _ _ _ op2]; rfl
      have o9 : W2.cell? ⟨w.heap.size, 9, none⟩ = some (.int .i64 x.t) := by rw [cell_of_row W2 _ _ _ _ _ op2]; rfl
      replace cO := Lib.hid cO
      replace cF := Lib.hid cF
      replace z2 := Lib.hid z2
      replace fy2 := Lib.hid fy2
      replace fz3 := Lib.hid fz3
      replace op2 := Lib.hid op2
      replace op3 := Lib.hid op3
      replace k2 := Lib.hid k2
      replace k3 := Lib.hid k3
      replace H2 := Lib.hid H2
      replace hin := Lib.hid hin
      go_enter Try.func11, Try.ntmps11
      go_wp2_with fail
      rw [← hW2]
      refine cF.out.mono ?_
      rintro e wf ⟨rfl, rfl⟩
      clear cF
      have o1b : w.heap.size < W2.heap.size := by rw [z2.out]; omega
      rw [← hW2] at hW3
      replace hW2 := Lib.hid hW2
      go_wp2_with fail
      rw [← hW3]
      replace hW3 := Lib.hid hW3
      replace o1b := Lib.hid o1b
      clear o0 o1 o2 o3 o4 o5 o6 o7 o8 o9 y0 y1 y2 y3 y4 y5 y6 y7 y8
      refine cO.out.mono ?_
      rintro e w5 ⟨u, rfl, ui, uk, ⟨F5, ⟨D5, L5, Q5, P5, N5⟩, rq5, ok5⟩⟩
      have hp5 : (L.filter (fun y => decide (y.k ≠ x.k))).Perm L5 := (drop_list P5 H.out.q.keys uk).2
      have sm : SameV u z := same_nm (keys_inj H.out.q.keys ui (H.out.perm.mem_iff.1 (List.mem_map_of_mem (lst_mem.2 ⟨j, hjm, hz.out.symm⟩))) (by
        show u.k = z.k
        rw [uk, hz.out, hjk.out]))
      clear z0 z1 z3 z4 z5 z6 z7 z8 z9 qj
      clear cO
      have lt2 : W2.heap.size < W3.heap.size := (Array.getElem?_eq_some_iff.1 fz3.out).1
      have op5 := (F5.block _ (Nat.lt_trans o1b.out lt2) (fun h => by have := ltD.out _ h; omega)).trans op3.out
      have fz5 := (F5.block _ lt2 (fun h => by have := ltD.out _ h; have := o1b.out; omega)).trans fz3.out
      obtain ⟨W6, hW6⟩ : ∃ W, W = w5.alloc (.cells #[.int .i64 u.k, .int .i64 u.p, .bool u.f, .int .i64 u.g, .slice u.A u.m u.c, .int .i64 u.a, .int .i64 u.h, .int .i64 u.d, .int .i64 u.t] 32) := ⟨_, rfl⟩
      have k6 : Keep w5 W6 := by rw [hW6]; exact Keep.one _ _
      have op6 := k6.block op5
      have fz6 := k6.block fz5
      have fu6 : W6.heap[w5.heap.size]? = some (.cells #[.int .i64 u.k, .int .i64 u.p, .bool u.f, .int .i64 u.g, .slice u.A u.m u.c, .int .i64 u.a, .int .i64 u.h, .int .i64 u.d, .int .i64 u.t] 32 (0, 0)) := by rw [hW6]; exact heap_alloc_new _ _
      have S5 : Src w5 D5 (some ⟨g, off, none⟩) m S := (H2.out.src.keep k3.out).fr F5 N5
      have S6 := S5.keep k6
      have iu6 : PodIs W6 u := (own_is rq5 ok5).keep k6
      have iz6 : PodIs W6 z := by rw [hz.out]; exact S6.rd.is j hjm
      have cS : Hid (∀ W, Keep W6 W → Calls Try.prog 26 #[.agg #[.int .i64 u.k, .int .i64 u.p, .bool u.f, .int .i64 u.g, .slice u.A u.m u.c, .int .i64 u.a, .int .i64 u.h, .int .i64 u.d, .int .i64 u.t], .bool true, .agg #[.int .i64 z.k, .int .i64 z.p, .bool z.f, .int .i64 z.g, .slice z.A z.m z.c, .int .i64 z.a, .int .i64 z.h, .int .i64 z.d, .int .i64 z.t], .bool true] W fun e w' => e = .returned (.bool true) ∧ Gr W w') := fun W k => same7_fn u z true W sm (iu6.keep k) (iz6.keep k)
      have cW : Hid (∀ W, Keep W6 W → Calls Try.prog 25 #[.slice (some ⟨g, off, none⟩) m d, .int .i64 x.k] W fun e w' => ∃ B7 m7 d7 T7, e = .returned (.slice B7 m7 d7) ∧ Keep W w' ∧ m7 ≤ m ∧ ∀ W', Keep w' W' → After w W' b bq D B7 m7 d7 T7) := fun W kW => by
        refine (rwithout_fn (some ⟨g, off, none⟩) m d S x.k W (S6.rd.keep kW) (by omega)).mono ?_
        rintro e w7 ⟨B7, m7, d7, T7, rfl, k7, R7, e7, low7, nil7, cap7⟩
        have h9 := wo_list e7 H.out.perm H.out.sort
        have fr7 : ∀ t, t < m7 → ∃ s, s < m ∧ S s = T7 t := fun t ht => by
          have h : T7 t ∈ (lst S m).filter (fun y => decide (y.k ≠ x.k)) := by rw [← e7]; exact lst_mem.2 ⟨t, ht, rfl⟩
          exact lst_mem.1 (List.mem_filter.1 h).1
        have hle : m7 ≤ m := by
          have h1 := congrArg List.length e7
          have h2 := List.length_filter_le (fun y : PodV => decide (y.k ≠ x.k)) (lst S m)
          rw [lst_len] at h1 h2
          omega
        refine ⟨B7, m7, d7, T7, rfl, k7, hle, fun W' kW' => ⟨((Fr.after (k2.out.trans k3.out) F5).keep (k6.trans (kW.trans (k7.trans kW')))), D5, L5, ⟨Q5.keep (k6.trans (kW.trans (k7.trans kW'))), ⟨R7.keep kW', fun bb oo e hp hd => ?_, fun t ht a ha hm2 => ?_⟩, h9.1.trans hp5, h9.2, nil7, cap7, fun t ht => ?_⟩, fun k hk => ?_⟩⟩
        · have h1 := low7 bb oo e
          have h2 := (Q5.lo bb hd).2
          have h3 := (k6.trans kW).size
          omega
        · obtain ⟨s, hs, e⟩ := fr7 t ht
          rw [← e] at ha hm2
          exact S5.req s hs a ha hm2
        · obtain ⟨s, hs, e⟩ := fr7 t ht
          rw [← e]
          exact H.out.few s hs
        · rcases N5 k hk with h | h
          · exact Or.inl h
          · right
            have := (k2.out.trans k3.out).size
            omega
      have o1 : W6.cell? ⟨w.heap.size, 1, none⟩ = some (.int .i64 x.k) := by rw [cell_of_row W6 _ _ _ _ _ op6]; rfl
      have z0 : W6.cell? ⟨W2.heap.size, 0, none⟩ = some (.int .i64 z.k) := by rw [cell_of_row W6 _ _ _ _ _ fz6]; rfl
      have z1 : W6.cell? ⟨W2.heap.size, 1, none⟩ = some (.int .i64 z.p) := by rw [cell_of_row W6 _ _ _ _ _ fz6]; rfl
      have z2 : W6.cell? ⟨W2.heap.size, 2, none⟩ = some (.bool z.f) := by rw [cell_of_row W6 _ _ _ _ _ fz6]; rfl
      have z3 : W6.cell? ⟨W2.heap.size, 3, none⟩ = some (.int .i64 z.g) := by rw [cell_of_row W6 _ _ _ _ _ fz6]; rfl
      have z4 : W6.cell? ⟨W2.heap.size, 4, none⟩ = some (.slice z.A z.m z.c) := by rw [cell_of_row W6 _ _ _ _ _ fz6]; rfl
      have z5 : W6.cell? ⟨W2.heap.size, 5, none⟩ = some (.int .i64 z.a) := by rw [cell_of_row W6 _ _ _ _ _ fz6]; rfl
      have z6 : W6.cell? ⟨W2.heap.size, 6, none⟩ = some (.int .i64 z.h) := by rw [cell_of_row W6 _ _ _ _ _ fz6]; rfl
      have z7 : W6.cell? ⟨W2.heap.size, 7, none⟩ = some (.int .i64 z.d) := by rw [cell_of_row W6 _ _ _ _ _ fz6]; rfl
      have z8 : W6.cell? ⟨W2.heap.size, 8, none⟩ = some (.int .i64 z.t) := by rw [cell_of_row W6 _ _ _ _ _ fz6]; rfl
      have u0 : W6.cell? ⟨w5.heap.size, 0, none⟩ = some (.int .i64 u.k) := by rw [cell_of_row W6 _ _ _ _ _ fu6]; rfl
      have u1 : W6.cell? ⟨w5.heap.size, 1, none⟩ = some (.int .i64 u.p) := by rw [cell_of_row W6 _ _ _ _ _ fu6]; rfl
      have u2 : W6.cell? ⟨w5.heap.size, 2, none⟩ = some (.bool u.f) := by rw [cell_of_row W6 _ _ _ _ _ fu6]; rfl
      have u3 : W6.cell? ⟨w5.heap.size, 3, none⟩ = some (.int .i64 u.g) := by rw [cell_of_row W6 _ _ _ _ _ fu6]; rfl
      have u4 : W6.cell? ⟨w5.heap.size, 4, none⟩ = some (.slice u.A u.m u.c) := by rw [cell_of_row W6 _ _ _ _ _ fu6]; rfl
      have u5 : W6.cell? ⟨w5.heap.size, 5, none⟩ = some (.int .i64 u.a) := by rw [cell_of_row W6 _ _ _ _ _ fu6]; rfl
      have u6 : W6.cell? ⟨w5.heap.size, 6, none⟩ = some (.int .i64 u.h) := by rw [cell_of_row W6 _ _ _ _ _ fu6]; rfl
      have u7 : W6.cell? ⟨w5.heap.size, 7, none⟩ = some (.int .i64 u.d) := by rw [cell_of_row W6 _ _ _ _ _ fu6]; rfl
      have u8 : W6.cell? ⟨w5.heap.size, 8, none⟩ = some (.int .i64 u.t) := by rw [cell_of_row W6 _ _ _ _ _ fu6]; rfl
      replace F5 := Lib.hid F5
      replace Q5 := Lib.hid Q5
      replace N5 := Lib.hid N5
      replace hp5 := Lib.hid hp5
      replace lt2 := Lib.hid lt2
      replace op5 := Lib.hid op5
      replace fz5 := Lib.hid fz5
      replace k6 := Lib.hid k6
      replace op6 := Lib.hid op6
      replace fz6 := Lib.hid fz6
      replace fu6 := Lib.hid fu6
      replace S5 := Lib.hid S5
      replace S6 := Lib.hid S6
      replace ui := Lib.hid ui
      replace uk := Lib.hid uk
      replace P5 := Lib.hid P5
      replace rq5 := Lib.hid rq5
      replace ok5 := Lib.hid ok5
      replace iu6 := Lib.hid iu6
      replace iz6 := Lib.hid iz6
      replace sm := Lib.hid sm
      go_wp2_with fail
      rw [← hW6]
      replace hW6 := Lib.hid hW6
      go_region_held3 (fun w' => w'.cell? ⟨w.heap.size, 1, none⟩ = some (.int .i64 x.k) ∧ w'.cell? ⟨W2.heap.size, 0, none⟩ = some (.int .i64 z.k) ∧ w'.cell? ⟨W2.heap.size, 1, none⟩ = some (.int .i64 z.p) ∧ w'.cell? ⟨W2.heap.size, 2, none⟩ = some (.bool z.f) ∧ w'.cell? ⟨W2.heap.size, 3, none⟩ = some (.int .i64 z.g) ∧ w'.cell? ⟨W2.heap.size, 4, none⟩ = some (.slice z.A z.m z.c) ∧ w'.cell? ⟨W2.heap.size, 5, none⟩ = some (.int .i64 z.a) ∧ w'.cell? ⟨W2.heap.size, 6, none⟩ = some (.int .i64 z.h) ∧ w'.cell? ⟨W2.heap.size, 7, none⟩ = some (.int .i64 z.d) ∧ w'.cell? ⟨W2.heap.size, 8, none⟩ = some (.int .i64 z.t) ∧ w'.cell? ⟨w5.heap.size, 0, none⟩ = some (.int .i64 u.k) ∧ w'.cell? ⟨w5.heap.size, 1, none⟩ = some (.int .i64 u.p) ∧ w'.cell? ⟨w5.heap.size, 2, none⟩ = some (.bool u.f) ∧ w'.cell? ⟨w5.heap.size, 3, none⟩ = some (.int .i64 u.g) ∧ w'.cell? ⟨w5.heap.size, 4, none⟩ = some (.slice u.A u.m u.c) ∧ w'.cell? ⟨w5.heap.size, 5, none⟩ = some (.int .i64 u.a) ∧ w'.cell? ⟨w5.heap.size, 6, none⟩ = some (.int .i64 u.h) ∧ w'.cell? ⟨w5.heap.size, 7, none⟩ = some (.int .i64 u.d) ∧ w'.cell? ⟨w5.heap.size, 8, none⟩ = some (.int .i64 u.t))
        ((refine (fun (KK : Keep W6 _) => ⟨KK.cell o1, KK.cell z0, KK.cell z1, KK.cell z2, KK.cell z3, KK.cell z4, KK.cell z5, KK.cell z6, KK.cell z7, KK.cell z8, KK.cell u0, KK.cell u1, KK.cell u2, KK.cell u3, KK.cell u4, KK.cell u5, KK.cell u6, KK.cell u7, KK.cell u8⟩) ?_; repeat (with_reducible first | exact Keep.refl W6 | apply Keep.alloc | apply Keep.drew | apply Keep.drewN | (refine Keep.trans ?_ k7.out) | (refine Keep.trans ?_ k8.out))))
        (first
          | (go_at_call 25; refine (cW.out _ (by repeat (with_reducible first | exact Keep.refl W6 | apply Keep.alloc | apply Keep.drew | apply Keep.drewN | (refine Keep.trans ?_ k7.out) | (refine Keep.trans ?_ k8.out)))).mono ?_; rintro e w7 ⟨B7, m7, d7, T7, rfl, k7, hle7, AF7⟩; replace k7 := Lib.hid k7; replace AF7 := Lib.hid AF7)
          | (go_at_call 26; refine (cS.out _ (by repeat (with_reducible first | exact Keep.refl W6 | apply Keep.alloc | apply Keep.drew | apply Keep.drewN | (refine Keep.trans ?_ k7.out) | (refine Keep.trans ?_ k8.out)))).mono ?_; rintro e w8 ⟨rfl, g8⟩; have k8 := Lib.hid g8.keep; replace g8 := Lib.hid g8))
      all_goals
        clear z0 z1 z2 z3 z4 z5 z6 z7 z8 u0 u1 u2 u3 u4 u5 u6 u7 u8 cS cW
        go_wp2
        go_ret2
        exact ⟨B7, m7, d7, T7, rfl, by omega, AF7.out _ (by repeat (with_reducible first | exact Keep.refl w7 | apply Keep.drew | apply Keep.drewN | (refine Keep.trans ?_ k8.out)))⟩
    · obtain ⟨W2, hW2⟩ : ∃ W, W = ((w.alloc (.cells #[.int .i64 K, .int .i64 x.k, .int .i64 x.p, .bool x.f, .int .i64 x.g, .slice x.A x.m x.c, .int .i64 x.a, .int .i64 x.h, .int .i64 x.d, .int .i64 x.t] 34)).alloc (.cells #[.int .i64 y.k, .int .i64 y.p, .bool y.f, .int .i64 y.g, .slice y.A y.m y.c, .int .i64 y.a, .int .i64 y.h, .int .i64 y.d, .int .i64 y.t] 32)) := ⟨_, rfl⟩
      have k2 : Keep w W2 := by rw [hW2]; exact (Keep.one _ _).alloc _
      have z2 : W2.heap.size = w.heap.size + 1 + 1 := by rw [hW2, World.size_alloc, World.size_alloc]
      have fy2 : W2.heap[w.heap.size + 1]? = some (.cells #[.int .i64 y.k, .int .i64 y.p, .bool y.f, .int .i64 y.g, .slice y.A y.m y.c, .int .i64 y.a, .int .i64 y.h, .int .i64 y.d, .int .i64 y.t] 32 (0, 0)) := by
        have := heap_alloc_new (w.alloc (.cells #[.int .i64 K, .int .i64 x.k, .int .i64 x.p, .bool x.f, .int .i64 x.g, .slice x.A x.m x.c, .int .i64 x.a, .int .i64 x.h, .int .i64 x.d, .int .i64 x.t] 34)) (.cells #[.int .i64 y.k, .int .i64 y.p, .bool y.f, .int .i64 y.g, .slice y.A y.m y.c, .int .i64 y.a, .int .i64 y.h, .int .i64 y.d, .int .i64 y.t] 32)
        rw [World.size_alloc] at this
        rw [hW2]
        exact this
      have H2 := H.out.keep k2
      have cF := rfind_fn (some ⟨g, off, none⟩) m d S x.k W2 H2.src.rd
      have op2 : W2.heap[w.heap.size]? = some (.cells #[.int .i64 K, .int .i64 x.k, .int .i64 x.p, .bool x.f, .int .i64 x.g, .slice x.A x.m x.c, .int .i64 x.a, .int .i64 x.h, .int .i64 x.d, .int .i64 x.t] 34 (0, 0)) := by rw [hW2]; exact (Keep.one _ _).block (heap_alloc_new w _)
      have hfj : findN S x.k m = -1 := find_neg (fun h => hin ((find_keys H.out.perm).1 h))
      rw [hfj] at cF
      obtain ⟨W3, hW3⟩ : ∃ W, W = W2.alloc (.cells #[.int .i64 0, .int .i64 0, .bool false, .int .i64 0, .slice none 0 0, .int .i64 0, .int .i64 0, .int .i64 0, .int .i64 0] 32) := ⟨_, rfl⟩
      have fz3 : W3.heap[W2.heap.size]? = some (.cells #[.int .i64 0, .int .i64 0, .bool false, .int .i64 0, .slice none 0 0, .int .i64 0, .int .i64 0, .int .i64 0, .int .i64 0] 32 (0, 0)) := by rw [hW3]; exact heap_alloc_new _ _
      have k3 : Keep W2 W3 := by rw [hW3]; exact Keep.one _ _
      have cO := qremove_none (H2.q.keep k3) x.k hin
      unfold zpod PodV.val at cO
      replace hfj := Lib.hid hfj
      rw [hW2] at hW3
      have op3 := k3.block op2
      have o0 : W2.cell? ⟨w.heap.size, 0, none⟩ = some (.int .i64 K) := by rw [cell_of_row W2 _ _ _ _ _ op2]; rfl
      have o1 : W2.cell? ⟨w.heap.size, 1, none⟩ = some (.int .i64 x.k) := by rw [cell_of_row W2 _ _ _ _ _ op2]; rfl
      have o2 : W2.cell? ⟨w.heap.size, 2, none⟩ = some (.int .i64 x.p) := by rw [cell_of_row W2 _ _ _ _ _ op2]; rfl
      have o3 : W2.cell? ⟨w.heap.size, 3, none⟩ = some (.bool x.f) := by rw [cell_of_row W2 _ _ _ _ _ op2]; rfl
      have o4 : W2.cell? ⟨w.heap.size, 4, none⟩ = some (.int .i64 x.g) := by rw [cell_of_row W2 _ _ _ _ _ op2]; rfl
      have o5 : W2.cell? ⟨w.heap.size, 5, none⟩ = some (.slice x.A x.m x.c) := by rw [cell_of_row W2 _ _ _ _ _ op2]; rfl
      have o6 : W2.cell? ⟨w.heap.size, 6, none⟩ = some (.int .i64 x.a) := by rw [cell_of_row W2 _ _ _ _ _ op2]; rfl
      have o7 : W2.cell? ⟨w.heap.size, 7, none⟩ = some (.int .i64 x.h) := by rw [cell_of_row W2 _ _ _ _ _ op2]; rfl
      have o8 : W2.cell? ⟨w.heap.size, 8, none⟩ = some (.int .i64 x.d) := by rw [cell_of_row W2 _ _ _ _ _ op2]; rfl
      have o9 : W2.cell? ⟨w.heap.size, 9, none⟩ = some (.int .i64 x.t) := by rw [cell_of_row W2 _ _ _ _ _ op2]; rfl
      replace cO := Lib.hid cO
      replace cF := Lib.hid cF
      replace z2 := Lib.hid z2
      replace fy2 := Lib.hid fy2
      replace fz3 := Lib.hid fz3
      replace op2 := Lib.hid op2
      replace op3 := Lib.hid op3
      replace k2 := Lib.hid k2
      replace k3 := Lib.hid k3
      replace H2 := Lib.hid H2
      replace hin := Lib.hid hin
      go_enter Try.func11, Try.ntmps11
      go_wp2_with fail
      rw [← hW2]
      refine cF.out.mono ?_
      rintro e wf ⟨rfl, rfl⟩
      clear cF
      have o1b : w.heap.size < W2.heap.size := by rw [z2.out]; omega
      rw [← hW2] at hW3
      replace hW2 := Lib.hid hW2
      go_wp2_with fail
      rw [← hW3]
      replace hW3 := Lib.hid hW3
      replace o1b := Lib.hid o1b
      clear o0 o1 o2 o3 o4 o5 o6 o7 o8 o9 y0 y1 y2 y3 y4 y5 y6 y7 y8
      refine cO.out.mono ?_
      rintro e w5 ⟨rfl, k5⟩
      obtain ⟨F5, D5, L5, Q5, N5, hp5⟩ : Fr D W3 w5 ∧ ∃ D5 L5, QInv w5 b b bq D5 L5 ∧ (∀ k, D5 k → D k ∨ W3.heap.size ≤ k) ∧ (L.filter (fun y => decide (y.k ≠ x.k))).Perm L5 := ⟨Fr.of k5, D, L, H2.out.q.keep (k3.out.trans k5), fun k hk => Or.inl hk, by rw [drop_none hin.out]⟩
      replace k5 := Lib.hid k5
      clear cO
      have lt2 : W2.heap.size < W3.heap.size := (Array.getElem?_eq_some_iff.1 fz3.out).1
      have op5 := (F5.block _ (Nat.lt_trans o1b.out lt2) (fun h => by have := ltD.out _ h; omega)).trans op3.out
      have fz5 := (F5.block _ lt2 (fun h => by have := ltD.out _ h; have := o1b.out; omega)).trans fz3.out
      obtain ⟨W6, hW6⟩ : ∃ W, W = w5.alloc (.cells #[.int .i64 0, .int .i64 0, .bool false, .int .i64 0, .slice none 0 0, .int .i64 0, .int .i64 0, .int .i64 0, .int .i64 0] 32) := ⟨_, rfl⟩
      have k6 : Keep w5 W6 := by rw [hW6]; exact Keep.one _ _
      have op6 := k6.block op5
      have fz6 := k6.block fz5
      have fu6 : W6.heap[w5.heap.size]? = some (.cells #[.int .i64 0, .int .i64 0, .bool false, .int .i64 0, .slice none 0 0, .int .i64 0, .int .i64 0, .int .i64 0, .int .i64 0] 32 (0, 0)) := by rw [hW6]; exact heap_alloc_new _ _
      have S5 : Src w5 D5 (some ⟨g, off, none⟩) m S := (H2.out.src.keep k3.out).fr F5 N5
      have S6 := S5.keep k6
      have cS : Hid (∀ W, Keep W6 W → Calls Try.prog 26 #[.agg #[.int .i64 0, .int .i64 0, .bool false, .int .i64 0, .slice none 0 0, .int .i64 0, .int .i64 0, .int .i64 0, .int .i64 0], .bool false, .agg #[.int .i64 0, .int .i64 0, .bool false, .int .i64 0, .slice none 0 0, .int .i64 0, .int .i64 0, .int .i64 0, .int .i64 0], .bool false] W fun e w' => e = .returned (.bool true) ∧ Gr W w') := fun W _ => same7_fn zpod zpod false W (SameV.refl _) (zpod_is _) (zpod_is _)
      have cW : Hid (∀ W, Keep W6 W → Calls Try.prog 25 #[.slice (some ⟨g, off, none⟩) m d, .int .i64 x.k] W fun e w' => ∃ B7 m7 d7 T7, e = .returned (.slice B7 m7 d7) ∧ Keep W w' ∧ m7 ≤ m ∧ ∀ W', Keep w' W' → After w W' b bq D B7 m7 d7 T7) := fun W kW => by
        refine (rwithout_fn (some ⟨g, off, none⟩) m d S x.k W (S6.rd.keep kW) (by omega)).mono ?_
        rintro e w7 ⟨B7, m7, d7, T7, rfl, k7, R7, e7, low7, nil7, cap7⟩
        have h9 := wo_list e7 H.out.perm H.out.sort
        have fr7 : ∀ t, t < m7 → ∃ s, s < m ∧ S s = T7 t := fun t ht => by
          have h : T7 t ∈ (lst S m).filter (fun y => decide (y.k ≠ x.k)) := by rw [← e7]; exact lst_mem.2 ⟨t, ht, rfl⟩
          exact lst_mem.1 (List.mem_filter.1 h).1
        have hle : m7 ≤ m := by
          have h1 := congrArg List.length e7
          have h2 := List.length_filter_le (fun y : PodV => decide (y.k ≠ x.k)) (lst S m)
          rw [lst_len] at h1 h2
          omega
        refine ⟨B7, m7, d7, T7, rfl, k7, hle, fun W' kW' => ⟨((Fr.after (k2.out.trans k3.out) F5).keep (k6.trans (kW.trans (k7.trans kW')))), D5, L5, ⟨Q5.keep (k6.trans (kW.trans (k7.trans kW'))), ⟨R7.keep kW', fun bb oo e hp hd => ?_, fun t ht a ha hm2 => ?_⟩, h9.1.trans hp5, h9.2, nil7, cap7, fun t ht => ?_⟩, fun k hk => ?_⟩⟩
        · have h1 := low7 bb oo e
          have h2 := (Q5.lo bb hd).2
          have h3 := (k6.trans kW).size
          omega
        · obtain ⟨s, hs, e⟩ := fr7 t ht
          rw [← e] at ha hm2
          exact S5.req s hs a ha hm2
        · obtain ⟨s, hs, e⟩ := fr7 t ht
          rw [← e]
          exact H.out.few s hs
        · rcases N5 k hk with h | h
          · exact Or.inl h
          · right
            have := (k2.out.trans k3.out).size
            omega
      have o1 : W6.cell? ⟨w.heap.size, 1, none⟩ = some (.int .i64 x.k) := by rw [cell_of_row W6 _ _ _ _ _ op6]; rfl
      have z0 : W6.cell? ⟨W2.heap.size, 0, none⟩ = some (.int .i64 0) := by rw [cell_of_row W6 _ _ _ _ _ fz6]; rfl
      have z1 : W6.cell? ⟨W2.heap.size, 1, none⟩ = some (.int .i64 0) := by rw [cell_of_row W6 _ _ _ _ _ fz6]; rfl
      have z2 : W6.cell? ⟨W2.heap.size, 2, none⟩ = some (.bool false) := by rw [cell_of_row W6 _ _ _ _ _ fz6]; rfl
      have z3 : W6.cell? ⟨W2.heap.size, 3, none⟩ = some (.int .i64 0) := by rw [cell_of_row W6 _ _ _ _ _ fz6]; rfl
      have z4 : W6.cell? ⟨W2.heap.size, 4, none⟩ = some (.slice none 0 0) := by rw [cell_of_row W6 _ _ _ _ _ fz6]; rfl
      have z5 : W6.cell? ⟨W2.heap.size, 5, none⟩ = some (.int .i64 0) := by rw [cell_of_row W6 _ _ _ _ _ fz6]; rfl
      have z6 : W6.cell? ⟨W2.heap.size, 6, none⟩ = some (.int .i64 0) := by rw [cell_of_row W6 _ _ _ _ _ fz6]; rfl
      have z7 : W6.cell? ⟨W2.heap.size, 7, none⟩ = some (.int .i64 0) := by rw [cell_of_row W6 _ _ _ _ _ fz6]; rfl
      have z8 : W6.cell? ⟨W2.heap.size, 8, none⟩ = some (.int .i64 0) := by rw [cell_of_row W6 _ _ _ _ _ fz6]; rfl
      have u0 : W6.cell? ⟨w5.heap.size, 0, none⟩ = some (.int .i64 0) := by rw [cell_of_row W6 _ _ _ _ _ fu6]; rfl
      have u1 : W6.cell? ⟨w5.heap.size, 1, none⟩ = some (.int .i64 0) := by rw [cell_of_row W6 _ _ _ _ _ fu6]; rfl
      have u2 : W6.cell? ⟨w5.heap.size, 2, none⟩ = some (.bool false) := by rw [cell_of_row W6 _ _ _ _ _ fu6]; rfl
      have u3 : W6.cell? ⟨w5.heap.size, 3, none⟩ = some (.int .i64 0) := by rw [cell_of_row W6 _ _ _ _ _ fu6]; rfl
      have u4 : W6.cell? ⟨w5.heap.size, 4, none⟩ = some (.slice none 0 0) := by rw [cell_of_row W6 _ _ _ _ _ fu6]; rfl
      have u5 : W6.cell? ⟨w5.heap.size, 5, none⟩ = some (.int .i64 0) := by rw [cell_of_row W6 _ _ _ _ _ fu6]; rfl
      have u6 : W6.cell? ⟨w5.heap.size, 6, none⟩ = some (.int .i64 0) := by rw [cell_of_row W6 _ _ _ _ _ fu6]; rfl
      have u7 : W6.cell? ⟨w5.heap.size, 7, none⟩ = some (.int .i64 0) := by rw [cell_of_row W6 _ _ _ _ _ fu6]; rfl
      have u8 : W6.cell? ⟨w5.heap.size, 8, none⟩ = some (.int .i64 0) := by rw [cell_of_row W6 _ _ _ _ _ fu6]; rfl
      replace F5 := Lib.hid F5
      replace Q5 := Lib.hid Q5
      replace N5 := Lib.hid N5
      replace hp5 := Lib.hid hp5
      replace lt2 := Lib.hid lt2
      replace op5 := Lib.hid op5
      replace fz5 := Lib.hid fz5
      replace k6 := Lib.hid k6
      replace op6 := Lib.hid op6
      replace fz6 := Lib.hid fz6
      replace fu6 := Lib.hid fu6
      replace S5 := Lib.hid S5
      replace S6 := Lib.hid S6
      go_wp2_with fail
      rw [← hW6]
      replace hW6 := Lib.hid hW6
      go_region_held3 (fun w' => w'.cell? ⟨w.heap.size, 1, none⟩ = some (.int .i64 x.k) ∧ w'.cell? ⟨W2.heap.size, 0, none⟩ = some (.int .i64 0) ∧ w'.cell? ⟨W2.heap.size, 1, none⟩ = some (.int .i64 0) ∧ w'.cell? ⟨W2.heap.size, 2, none⟩ = some (.bool false) ∧ w'.cell? ⟨W2.heap.size, 3, none⟩ = some (.int .i64 0) ∧ w'.cell? ⟨W2.heap.size, 4, none⟩ = some (.slice none 0 0) ∧ w'.cell? ⟨W2.heap.size, 5, none⟩ = some (.int .i64 0) ∧ w'.cell? ⟨W2.heap.size, 6, none⟩ = some (.int .i64 0) ∧ w'.cell? ⟨W2.heap.size, 7, none⟩ = some (.int .i64 0) ∧ w'.cell? ⟨W2.heap.size, 8, none⟩ = some (.int .i64 0) ∧ w'.cell? ⟨w5.heap.size, 0, none⟩ = some (.int .i64 0) ∧ w'.cell? ⟨w5.heap.size, 1, none⟩ = some (.int .i64 0) ∧ w'.cell? ⟨w5.heap.size, 2, none⟩ = some (.bool false) ∧ w'.cell? ⟨w5.heap.size, 3, none⟩ = some (.int .i64 0) ∧ w'.cell? ⟨w5.heap.size, 4, none⟩ = some (.slice none 0 0) ∧ w'.cell? ⟨w5.heap.size, 5, none⟩ = some (.int .i64 0) ∧ w'.cell? ⟨w5.heap.size, 6, none⟩ = some (.int .i64 0) ∧ w'.cell? ⟨w5.heap.size, 7, none⟩ = some (.int .i64 0) ∧ w'.cell? ⟨w5.heap.size, 8, none⟩ = some (.int .i64 0))
        ((refine (fun (KK : Keep W6 _) => ⟨KK.cell o1, KK.cell z0, KK.cell z1, KK.cell z2, KK.cell z3, KK.cell z4, KK.cell z5, KK.cell z6, KK.cell z7, KK.cell z8, KK.cell u0, KK.cell u1, KK.cell u2, KK.cell u3, KK.cell u4, KK.cell u5, KK.cell u6, KK.cell u7, KK.cell u8⟩) ?_; repeat (with_reducible first | exact Keep.refl W6 | apply Keep.alloc | apply Keep.drew | apply Keep.drewN | (refine Keep.trans ?_ k7.out) | (refine Keep.trans ?_ k8.out))))
        (first
          | (go_at_call 25; refine (cW.out _ (by repeat (with_reducible first | exact Keep.refl W6 | apply Keep.alloc | apply Keep.drew | apply Keep.drewN | (refine Keep.trans ?_ k7.out) | (refine Keep.trans ?_ k8.out)))).mono ?_; rintro e w7 ⟨B7, m7, d7, T7, rfl, k7, hle7, AF7⟩; replace k7 := Lib.hid k7; replace AF7 := Lib.hid AF7)
          | (go_at_call 26; refine (cS.out _ (by repeat (with_reducible first | exact Keep.refl W6 | apply Keep.alloc | apply Keep.drew | apply Keep.drewN | (refine Keep.trans ?_ k7.out) | (refine Keep.trans ?_ k8.out)))).mono ?_; rintro e w8 ⟨rfl, g8⟩; have k8 := Lib.hid g8.keep; replace g8 := Lib.hid g8))
      all_goals
        clear z0 z1 z2 z3 z4 z5 z6 z7 z8 u0 u1 u2 u3 u4 u5 u6 u7 u8 cS cW
        go_wp2
        go_ret2
        exact ⟨B7, m7, d7, T7, rfl, by omega, AF7.out _ (by repeat (with_reducible first | exact Keep.refl w7 | apply Keep.drew | apply Keep.drewN | (refine Keep.trans ?_ k8.out)))⟩
  · have h0z : (m : Int) ≤ 0 := by omega
    have hin : x.k ∉ L.map (·.k) := by
      rw [H.out.nil0 h0]
      simp
    obtain ⟨W2, hW2⟩ : ∃ W, W = ((w.alloc (.cells #[.int .i64 K, .int .i64 x.k, .int .i64 x.p, .bool x.f, .int .i64 x.g, .slice x.A x.m x.c, .int .i64 x.a, .int .i64 x.h, .int .i64 x.d, .int .i64 x.t] 34)).alloc (.cells #[.int .i64 0, .int .i64 0, .bool false, .int .i64 0, .slice none 0 0, .int .i64 0, .int .i64 0, .int .i64 0, .int .i64 0] 32)) := ⟨_, rfl⟩
    have k2 : Keep w W2 := by rw [hW2]; exact (Keep.one _ _).alloc _
    have z2 : W2.heap.size = w.heap.size + 1 + 1 := by rw [hW2, World.size_alloc, World.size_alloc]
    have fy2 : W2.heap[w.heap.size + 1]? = some (.cells #[.int .i64 0, .int .i64 0, .bool false, .int .i64 0, .slice none 0 0, .int .i64 0, .int .i64 0, .int .i64 0, .int .i64 0] 32 (0, 0)) := by
      have := heap_alloc_new (w.alloc (.cells #[.int .i64 K, .int .i64 x.k, .int .i64 x.p, .bool x.f, .int .i64 x.g, .slice x.A x.m x.c, .int .i64 x.a, .int .i64 x.h, .int .i64 x.d, .int .i64 x.t] 34)) (.cells #[.int .i64 0, .int .i64 0, .bool false, .int .i64 0, .slice none 0 0, .int .i64 0, .int .i64 0, .int .i64 0, .int .i64 0] 32)
      rw [World.size_alloc] at this
      rw [hW2]
      exact this
    have H2 := H.out.keep k2
    have cF := rfind_fn B m d S x.k W2 H2.src.rd
    have op2 : W2.heap[w.heap.size]? = some (.cells #[.int .i64 K, .int .i64 x.k, .int .i64 x.p, .bool x.f, .int .i64 x.g, .slice x.A x.m x.c, .int .i64 x.a, .int .i64 x.h, .int .i64 x.d, .int .i64 x.t] 34 (0, 0)) := by rw [hW2]; exact (Keep.one _ _).block (heap_alloc_new w _)
    have hfj : findN S x.k m = -1 := find_neg (fun h => hin ((find_keys H.out.perm).1 h))
    rw [hfj] at cF
    obtain ⟨W3, hW3⟩ : ∃ W, W = W2.alloc (.cells #[.int .i64 0, .int .i64 0, .bool false, .int .i64 0, .slice none 0 0, .int .i64 0, .int .i64 0, .int .i64 0, .int .i64 0] 32) := ⟨_, rfl⟩
    have fz3 : W3.heap[W2.heap.size]? = some (.cells #[.int .i64 0, .int .i64 0, .bool false, .int .i64 0, .slice none 0 0, .int .i64 0, .int .i64 0, .int .i64 0, .int .i64 0] 32 (0, 0)) := by rw [hW3]; exact heap_alloc_new _ _
    have k3 : Keep W2 W3 := by rw [hW3]; exact Keep.one _ _
    have cO := qremove_none (H2.q.keep k3) x.k hin
    unfold zpod PodV.val at cO
    replace hfj := Lib.hid hfj
    rw [hW2] at hW3
    have op3 := k3.block op2
    have o0 : W2.cell? ⟨w.heap.size, 0, none⟩ = some (.int .i64 K) := by rw [cell_of_row W2 _ _ _ _ _ op2]; rfl
    have o1 : W2.cell? ⟨w.heap.size, 1, none⟩ = some (.int .i64 x.k) := by rw [cell_of_row W2 _ _ _ _ _ op2]; rfl
    have o2 : W2.cell? ⟨w.heap.size, 2, none⟩ = some (.int .i64 x.p) := by rw [cell_of_row W2 _ _ _ _ _ op2]; rfl
    have o3 : W2.cell? ⟨w.heap.size, 3, none⟩ = some (.bool x.f) := by rw [cell_of_row W2 _ _ _ _ _ op2]; rfl
    have o4 : W2.cell? ⟨w.heap.size, 4, none⟩ = some (.int .i64 x.g) := by rw [cell_of_row W2 _ _ _ _ _ op2]; rfl
    have o5 : W2.cell? ⟨w.heap.size, 5, none⟩ = some (.slice x.A x.m x.c) := by rw [cell_of_row W2 _ _ _ _ _ op2]; rfl
    have o6 : W2.cell? ⟨w.heap.size, 6, none⟩ = some (.int .i64 x.a) := by rw [cell_of_row W2 _ _ _ _ _ op2]; rfl
    have o7 : W2.cell? ⟨w.heap.size, 7, none⟩ = some (.int .i64 x.h) := by rw [cell_of_row W2 _ _ _ _ _ op2]; rfl
    have o8 : W2.cell? ⟨w.heap.size, 8, none⟩ = some (.int .i64 x.d) := by rw [cell_of_row W2 _ _ _ _ _ op2]; rfl
    have o9 : W2.cell? ⟨w.heap.size, 9, none⟩ = some (.int .i64 x.t) := by rw [cell_of_row W2 _ _ _ _ _ op2]; rfl
    replace cO := Lib.hid cO
    replace cF := Lib.hid cF
    replace z2 := Lib.hid z2
    replace fy2 := Lib.hid fy2
    replace fz3 := Lib.hid fz3
    replace op2 := Lib.hid op2
    replace op3 := Lib.hid op3
    replace k2 := Lib.hid k2
    replace k3 := Lib.hid k3
    replace H2 := Lib.hid H2
    replace hin := Lib.hid hin
    go_enter Try.func11, Try.ntmps11
    go_wp2_with fail
    rw [← hW2]
    refine cF.out.mono ?_
    rintro e wf ⟨rfl, rfl⟩
    clear cF
    have o1b : w.heap.size < W2.heap.size := by rw [z2.out]; omega
    rw [← hW2] at hW3
    replace hW2 := Lib.hid hW2
    go_wp2_with fail
    rw [← hW3]
    replace hW3 := Lib.hid hW3
    replace o1b := Lib.hid o1b
    clear o0 o1 o2 o3 o4 o5 o6 o7 o8 o9 
    refine cO.out.mono ?_
    rintro e w5 ⟨rfl, k5⟩
    obtain ⟨F5, D5, L5, Q5, N5, hp5⟩ : Fr D W3 w5 ∧ ∃ D5 L5, QInv w5 b b bq D5 L5 ∧ (∀ k, D5 k → D k ∨ W3.heap.size ≤ k) ∧ (L.filter (fun y => decide (y.k ≠ x.k))).Perm L5 := ⟨Fr.of k5, D, L, H2.out.q.keep (k3.out.trans k5), fun k hk => Or.inl hk, by rw [drop_none hin.out]⟩
    replace k5 := Lib.hid k5
    clear cO
    have lt2 : W2.heap.size < W3.heap.size := (Array.getElem?_eq_some_iff.1 fz3.out).1
    have op5 := (F5.block _ (Nat.lt_trans o1b.out lt2) (fun h => by have := ltD.out _ h; omega)).trans op3.out
    have fz5 := (F5.block _ lt2 (fun h => by have := ltD.out _ h; have := o1b.out; omega)).trans fz3.out
    obtain ⟨W6, hW6⟩ : ∃ W, W = w5.alloc (.cells #[.int .i64 0, .int .i64 0, .bool false, .int .i64 0, .slice none 0 0, .int .i64 0, .int .i64 0, .int .i64 0, .int .i64 0] 32) := ⟨_, rfl⟩
    have k6 : Keep w5 W6 := by rw [hW6]; exact Keep.one _ _
    have op6 := k6.block op5
    have fz6 := k6.block fz5
    have fu6 : W6.heap[w5.heap.size]? = some (.cells #[.int .i64 0, .int .i64 0, .bool false, .int .i64 0, .slice none 0 0, .int .i64 0, .int .i64 0, .int .i64 0, .int .i64 0] 32 (0, 0)) := by rw [hW6]; exact heap_alloc_new _ _
    have S5 : Src w5 D5 B m S := (H2.out.src.keep k3.out).fr F5 N5
    have S6 := S5.keep k6
    have cS : Hid (∀ W, Keep W6 W → Calls Try.prog 26 #[.agg #[.int .i64 0, .int .i64 0, .bool false, .int .i64 0, .slice none 0 0, .int .i64 0, .int .i64 0, .int .i64 0, .int .i64 0], .bool false, .agg #[.int .i64 0, .int .i64 0, .bool false, .int .i64 0, .slice none 0 0, .int .i64 0, .int .i64 0, .int .i64 0, .int .i64 0], .bool false] W fun e w' => e = .returned (.bool true) ∧ Gr W w') := fun W _ => same7_fn zpod zpod false W (SameV.refl _) (zpod_is _) (zpod_is _)
    have cW : Hid (∀ W, Keep W6 W → Calls Try.prog 25 #[.slice B m d, .int .i64 x.k] W fun e w' => ∃ B7 m7 d7 T7, e = .returned (.slice B7 m7 d7) ∧ Keep W w' ∧ m7 ≤ m ∧ ∀ W', Keep w' W' → After w W' b bq D B7 m7 d7 T7) := fun W kW => by
      refine (rwithout_fn B m d S x.k W (S6.rd.keep kW) (by omega)).mono ?_
      rintro e w7 ⟨B7, m7, d7, T7, rfl, k7, R7, e7, low7, nil7, cap7⟩
      have h9 := wo_list e7 H.out.perm H.out.sort
      have fr7 : ∀ t, t < m7 → ∃ s, s < m ∧ S s = T7 t := fun t ht => by
        have h : T7 t ∈ (lst S m).filter (fun y => decide (y.k ≠ x.k)) := by rw [← e7]; exact lst_mem.2 ⟨t, ht, rfl⟩
        exact lst_mem.1 (List.mem_filter.1 h).1
      have hle : m7 ≤ m := by
        have h1 := congrArg List.length e7
        have h2 := List.length_filter_le (fun y : PodV => decide (y.k ≠ x.k)) (lst S m)
        rw [lst_len] at h1 h2
        omega
      refine ⟨B7, m7, d7, T7, rfl, k7, hle, fun W' kW' => ⟨((Fr.after (k2.out.trans k3.out) F5).keep (k6.trans (kW.trans (k7.trans kW')))), D5, L5, ⟨Q5.keep (k6.trans (kW.trans (k7.trans kW'))), ⟨R7.keep kW', fun bb oo e hp hd => ?_, fun t ht a ha hm2 => ?_⟩, h9.1.trans hp5, h9.2, nil7, cap7, fun t ht => ?_⟩, fun k hk => ?_⟩⟩
      · have h1 := low7 bb oo e
        have h2 := (Q5.lo bb hd).2
        have h3 := (k6.trans kW).size
        omega
      · obtain ⟨s, hs, e⟩ := fr7 t ht
        rw [← e] at ha hm2
        exact S5.req s hs a ha hm2
      · obtain ⟨s, hs, e⟩ := fr7 t ht
        rw [← e]
        exact H.out.few s hs
      · rcases N5 k hk with h | h
        · exact Or.inl h
        · right
          have := (k2.out.trans k3.out).size
          omega
    have o1 : W6.cell? ⟨w.heap.size, 1, none⟩ = some (.int .i64 x.k) := by rw [cell_of_row W6 _ _ _ _ _ op6]; rfl
    have z0 : W6.cell? ⟨W2.heap.size, 0, none⟩ = some (.int .i64 0) := by rw [cell_of_row W6 _ _ _ _ _ fz6]; rfl
    have z1 : W6.cell? ⟨W2.heap.size, 1, none⟩ = some (.int .i64 0) := by rw [cell_of_row W6 _ _ _ _ _ fz6]; rfl
    have z2 : W6.cell? ⟨W2.heap.size, 2, none⟩ = some (.bool false) := by rw [cell_of_row W6 _ _ _ _ _ fz6]; rfl
    have z3 : W6.cell? ⟨W2.heap.size, 3, none⟩ = some (.int .i64 0) := by rw [cell_of_row W6 _ _ _ _ _ fz6]; rfl
    have z4 : W6.cell? ⟨W2.heap.size, 4, none⟩ = some (.slice none 0 0) := by rw [cell_of_row W6 _ _ _ _ _ fz6]; rfl
    have z5 : W6.cell? ⟨W2.heap.size, 5, none⟩ = some (.int .i64 0) := by rw [cell_of_row W6 _ _ _ _ _ fz6]; rfl
    have z6 : W6.cell? ⟨W2.heap.size, 6, none⟩ = some (.int .i64 0) := by rw [cell_of_row W6 _ _ _ _ _ fz6]; rfl
    have z7 : W6.cell? ⟨W2.heap.size, 7, none⟩ = some (.int .i64 0) := by rw [cell_of_row W6 _ _ _ _ _ fz6]; rfl
    have z8 : W6.cell? ⟨W2.heap.size, 8, none⟩ = some (.int .i64 0) := by rw [cell_of_row W6 _ _ _ _ _ fz6]; rfl
    have u0 : W6.cell? ⟨w5.heap.size, 0, none⟩ = some (.int .i64 0) := by rw [cell_of_row W6 _ _ _ _ _ fu6]; rfl
    have u1 : W6.cell? ⟨w5.heap.size, 1, none⟩ = some (.int .i64 0) := by rw [cell_of_row W6 _ _ _ _ _ fu6]; rfl
    have u2 : W6.cell? ⟨w5.heap.size, 2, none⟩ = some (.bool false) := by rw [cell_of_row W6 _ _ _ _ _ fu6]; rfl
    have u3 : W6.cell? ⟨w5.heap.size, 3, none⟩ = some (.int .i64 0) := by rw [cell_of_row W6 _ _ _ _ _ fu6]; rfl
    have u4 : W6.cell? ⟨w5.heap.size, 4, none⟩ = some (.slice none 0 0) := by rw [cell_of_row W6 _ _ _ _ _ fu6]; rfl
    have u5 : W6.cell? ⟨w5.heap.size, 5, none⟩ = some (.int .i64 0) := by rw [cell_of_row W6 _ _ _ _ _ fu6]; rfl
    have u6 : W6.cell? ⟨w5.heap.size, 6, none⟩ = some (.int .i64 0) := by rw [cell_of_row W6 _ _ _ _ _ fu6]; rfl
    have u7 : W6.cell? ⟨w5.heap.size, 7, none⟩ = some (.int .i64 0) := by rw [cell_of_row W6 _ _ _ _ _ fu6]; rfl
    have u8 : W6.cell? ⟨w5.heap.size, 8, none⟩ = some (.int .i64 0) := by rw [cell_of_row W6 _ _ _ _ _ fu6]; rfl
    replace F5 := Lib.hid F5
    replace Q5 := Lib.hid Q5
    replace N5 := Lib.hid N5
    replace hp5 := Lib.hid hp5
    replace lt2 := Lib.hid lt2
    replace op5 := Lib.hid op5
    replace fz5 := Lib.hid fz5
    replace k6 := Lib.hid k6
    replace op6 := Lib.hid op6
    replace fz6 := Lib.hid fz6
    replace fu6 := Lib.hid fu6
    replace S5 := Lib.hid S5
    replace S6 := Lib.hid S6
    go_wp2_with fail
    rw [← hW6]
    replace hW6 := Lib.hid hW6
    go_region_held3 (fun w' => w'.cell? ⟨w.heap.size, 1, none⟩ = some (.int .i64 x.k) ∧ w'.cell? ⟨W2.heap.size, 0, none⟩ = some (.int .i64 0) ∧ w'.cell? ⟨W2.heap.size, 1, none⟩ = some (.int .i64 0) ∧ w'.cell? ⟨W2.heap.size, 2, none⟩ = some (.bool false) ∧ w'.cell? ⟨W2.heap.size, 3, none⟩ = some (.int .i64 0) ∧ w'.cell? ⟨W2.heap.size, 4, none⟩ = some (.slice none 0 0) ∧ w'.cell? ⟨W2.heap.size, 5, none⟩ = some (.int .i64 0) ∧ w'.cell? ⟨W2.heap.size, 6, none⟩ = some (.int .i64 0) ∧ w'.cell? ⟨W2.heap.size, 7, none⟩ = some (.int .i64 0) ∧ w'.cell? ⟨W2.heap.size, 8, none⟩ = some (.int .i64 0) ∧ w'.cell? ⟨w5.heap.size, 0, none⟩ = some (.int .i64 0) ∧ w'.cell? ⟨w5.heap.size, 1, none⟩ = some (.int .i64 0) ∧ w'.cell? ⟨w5.heap.size, 2, none⟩ = some (.bool false) ∧ w'.cell? ⟨w5.heap.size, 3, none⟩ = some (.int .i64 0) ∧ w'.cell? ⟨w5.heap.size, 4, none⟩ = some (.slice none 0 0) ∧ w'.cell? ⟨w5.heap.size, 5, none⟩ = some (.int .i64 0) ∧ w'.cell? ⟨w5.heap.size, 6, none⟩ = some (.int .i64 0) ∧ w'.cell? ⟨w5.heap.size, 7, none⟩ = some (.int .i64 0) ∧ w'.cell? ⟨w5.heap.size, 8, none⟩ = some (.int .i64 0))
      ((refine (fun (KK : Keep W6 _) => ⟨KK.cell o1, KK.cell z0, KK.cell z1, KK.cell z2, KK.cell z3, KK.cell z4, KK.cell z5, KK.cell z6, KK.cell z7, KK.cell z8, KK.cell u0, KK.cell u1, KK.cell u2, KK.cell u3, KK.cell u4, KK.cell u5, KK.cell u6, KK.cell u7, KK.cell u8⟩) ?_; repeat (with_reducible first | exact Keep.refl W6 | apply Keep.alloc | apply Keep.drew | apply Keep.drewN | (refine Keep.trans ?_ k7.out) | (refine Keep.trans ?_ k8.out))))
      (first
        | (go_at_call 25; refine (cW.out _ (by repeat (with_reducible first | exact Keep.refl W6 | apply Keep.alloc | apply Keep.drew | apply Keep.drewN | (refine Keep.trans ?_ k7.out) | (refine Keep.trans ?_ k8.out)))).mono ?_; rintro e w7 ⟨B7, m7, d7, T7, rfl, k7, hle7, AF7⟩; replace k7 := Lib.hid k7; replace AF7 := Lib.hid AF7)
        | (go_at_call 26; refine (cS.out _ (by repeat (with_reducible first | exact Keep.refl W6 | apply Keep.alloc | apply Keep.drew | apply Keep.drewN | (refine Keep.trans ?_ k7.out) | (refine Keep.trans ?_ k8.out)))).mono ?_; rintro e w8 ⟨rfl, g8⟩; have k8 := Lib.hid g8.keep; replace g8 := Lib.hid g8))
    all_goals
      clear z0 z1 z2 z3 z4 z5 z6 z7 z8 u0 u1 u2 u3 u4 u5 u6 u7 u8 cS cW
      go_wp2
      go_ret2
      exact ⟨B7, m7, d7, T7, rfl, by omega, AF7.out _ (by repeat (with_reducible first | exact Keep.refl w7 | apply Keep.drew | apply Keep.drewN | (refine Keep.trans ?_ k8.out)))⟩

end Go.Proofs.Ytmmpmpdjcmilkaa
