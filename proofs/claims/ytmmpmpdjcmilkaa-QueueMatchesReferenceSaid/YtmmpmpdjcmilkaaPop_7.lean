/-
  The law's play: pop and peek. Conditions: as for a push.
-/
import Derived.Test.YtmmpmpdjcmilkaaPlay7
import Derived.Deep.RegionWith
namespace Go.Proofs.Ytmmpmpdjcmilkaa
open Go.RowKit Go.Sort Go.Lib Go.Shelf

theorem lst_head (S : Nat → PodV) {m : Nat} (h : 0 < m) : lst S m = S 0 :: lst (fun j => S (j + 1)) (m - 1) := by
  obtain ⟨k, rfl⟩ : ∃ k, m = k + 1 := ⟨m - 1, by omega⟩
  unfold lst
  rw [List.range_succ_eq_map, List.map_cons, List.map_map, Nat.add_sub_cancel]
  rfl
theorem Side.first {w : World} {b bq : Nat} {D : Nat → Prop} {B : Option Addr} {m d : Nat} {S : Nat → PodV} {L : List PodV} (h : Side w b bq D B m d S L) (h0 : 0 < m) {x : PodV} (hx : nm x ∈ L) (hm : ∀ y ∈ L, befP y x = false) : nm (S 0) = nm x := by
  have p := h.perm
  have s := h.sort
  rw [lst_head S h0, List.map_cons] at p s
  exact min_head p s h.q.keys hx hm
theorem Side.ne {w : World} {b bq : Nat} {D : Nat → Prop} {B : Option Addr} {m d : Nat} {S : Nat → PodV} {L : List PodV} (h : Side w b bq D B m d S L) (h0 : 0 < m) : L ≠ [] := by
  rintro rfl
  have := h.len
  simp at this
  omega
theorem Side.nil0 {w : World} {b bq : Nat} {D : Nat → Prop} {B : Option Addr} {d : Nat} {m : Nat} {S : Nat → PodV} {L : List PodV} (h : Side w b bq D B m d S L) (h0 : ¬ 0 < m) : L = [] := by
  have := h.len
  exact List.length_eq_zero_iff.1 (by omega)

set_option maxRecDepth 100000 in
set_option maxHeartbeats 4000000 in
theorem play_pop {w : World} {b bq : Nat} {D : Nat → Prop} {B : Option Addr} {m d : Nat} {S : Nat → PodV} {L : List PodV} (h : Side w b bq D B m d S L) (hm : m ≤ 60) (x : PodV) (hx : PodIs w x) (hxr : ∀ a, x.A = some a → 0 < x.m → ¬ D a.block) (fx : OneF x) :
    Calls Try.prog 11 #[.pointer (some ⟨bq, 0, none⟩), .slice B m d, .agg #[.int .i64 1, .int .i64 x.k, .int .i64 x.p, .bool x.f, .int .i64 x.g, .slice x.A x.m x.c, .int .i64 x.a, .int .i64 x.h, .int .i64 x.d, .int .i64 x.t]] w fun e w' => ∃ B' m' d' S', e = .returned (.tuple #[.slice B' m' d', .bool true]) ∧ m' ≤ m + 1 ∧ After w w' b bq D B' m' d' S' := by
  have mixed : Try.prog.follows .mixedOrders = true := by kernel_rfl
  have H := Lib.hid h
  have hx := Lib.hid hx
  have hxr := Lib.hid hxr
  have fx := Lib.hid fx
  have hnilS := Lib.hid h.nil
  have ltD : Hid (∀ k, D k → k < w.heap.size) := fun k hk => (h.q.lo k hk).2
  clear h
  by_cases h0 : 0 < m
  · obtain ⟨g, off, rfl, C⟩ := first_at H.out h0
    obtain ⟨y, hy⟩ : ∃ y, y = S 0 := ⟨_, rfl⟩
    rw [← hy] at C
    replace hy := Lib.hid hy
    have q0 := pods_at g off m d 0 h0
    simp only [Nat.zero_mul, Nat.add_zero] at q0
    have h0z : (0 : Int) < (m : Int) := by omega
    have y0 := C.e0; have y1 := C.e1; have y2 := C.e2; have y3 := C.e3; have y4 := C.e4; have y5 := C.e5; have y6 := C.e6; have y7 := C.e7; have y8 := C.e8
    have gl := cell_lt y0
    clear C
    obtain ⟨W2, hW2⟩ : ∃ W, W = ((w.alloc (.cells #[.int .i64 1, .int .i64 x.k, .int .i64 x.p, .bool x.f, .int .i64 x.g, .slice x.A x.m x.c, .int .i64 x.a, .int .i64 x.h, .int .i64 x.d, .int .i64 x.t] 34)).alloc (.cells #[.int .i64 y.k, .int .i64 y.p, .bool y.f, .int .i64 y.g, .slice y.A y.m y.c, .int .i64 y.a, .int .i64 y.h, .int .i64 y.d, .int .i64 y.t] 32)) := ⟨_, rfl⟩
    have k2 : Keep w W2 := by rw [hW2]; exact (Keep.one _ _).alloc _
    have z2 : W2.heap.size = w.heap.size + 1 + 1 := by rw [hW2, World.size_alloc, World.size_alloc]
    have fy2 : W2.heap[w.heap.size + 1]? = some (.cells #[.int .i64 y.k, .int .i64 y.p, .bool y.f, .int .i64 y.g, .slice y.A y.m y.c, .int .i64 y.a, .int .i64 y.h, .int .i64 y.d, .int .i64 y.t] 32 (0, 0)) := by
      have := heap_alloc_new (w.alloc (.cells #[.int .i64 1, .int .i64 x.k, .int .i64 x.p, .bool x.f, .int .i64 x.g, .slice x.A x.m x.c, .int .i64 x.a, .int .i64 x.h, .int .i64 x.d, .int .i64 x.t] 34)) (.cells #[.int .i64 y.k, .int .i64 y.p, .bool y.f, .int .i64 y.g, .slice y.A y.m y.c, .int .i64 y.a, .int .i64 y.h, .int .i64 y.d, .int .i64 y.t] 32)
      rw [World.size_alloc] at this
      rw [hW2]
      exact this
    have H2 := H.out.keep k2
    have cO := qpop_fn H2.q (H2.ne h0)
    unfold PodV.val at cO
    have yi : Hid (PodIs W2 y) := by rw [hy.out]; exact H2.src.rd.is 0 h0
    replace cO := Lib.hid cO
    replace z2 := Lib.hid z2
    replace fy2 := Lib.hid fy2
    replace k2 := Lib.hid k2
    replace H2 := Lib.hid H2
    go_enter Try.func11, Try.ntmps11
    go_wp2_with fail
    rw [← hW2]
    replace hW2 := Lib.hid hW2
    refine cO.out.mono ?_
    rintro e w5 ⟨u, rfl, ui, um, ⟨F5, ⟨D5, L5, Q5, P5, N5⟩, rq5, ok5⟩⟩
    clear cO y0 y1 y2 y3 y4 y5 y6 y7 y8
    have eu := H2.out.first h0 ui um
    have sm : Hid (SameV u y) := by rw [hy.out]; exact same_nm eu.symm
    have nD : ¬ D (w.heap.size + 1) := fun h => by have := ltD.out _ h; omega
    have hl2 : w.heap.size + 1 < W2.heap.size := by rw [z2.out]; omega
    have fy5 := (F5.block _ hl2 nD).trans fy2.out
    obtain ⟨W6, hW6⟩ : ∃ W, W = w5.alloc (.cells #[.int .i64 u.k, .int .i64 u.p, .bool u.f, .int .i64 u.g, .slice u.A u.m u.c, .int .i64 u.a, .int .i64 u.h, .int .i64 u.d, .int .i64 u.t] 32) := ⟨_, rfl⟩
    have k6 : Keep w5 W6 := by rw [hW6]; exact Keep.one _ _
    have fy6 := k6.block fy5
    have fu6 : W6.heap[w5.heap.size]? = some (.cells #[.int .i64 u.k, .int .i64 u.p, .bool u.f, .int .i64 u.g, .slice u.A u.m u.c, .int .i64 u.a, .int .i64 u.h, .int .i64 u.d, .int .i64 u.t] 32 (0, 0)) := by rw [hW6]; exact heap_alloc_new _ _
    have iu6 : Hid (PodIs W6 u) := (own_is rq5 ok5).keep k6
    have iy6 : Hid (PodIs W6 y) := ((H2.out.src.fr F5 N5).keep k6).rd.is 0 h0 |> fun h => by rw [hy.out]; exact h
    have cS : ∀ (n : Nat) (os : Array Obj), Calls Try.prog 26 #[.agg #[.int .i64 u.k, .int .i64 u.p, .bool u.f, .int .i64 u.g, .slice u.A u.m u.c, .int .i64 u.a, .int .i64 u.h, .int .i64 u.d, .int .i64 u.t], .bool true, .agg #[.int .i64 y.k, .int .i64 y.p, .bool y.f, .int .i64 y.g, .slice y.A y.m y.c, .int .i64 y.a, .int .i64 y.h, .int .i64 y.d, .int .i64 y.t], .bool true] (grow (W6.drewN n) os) fun e w' => e = .returned (.bool true) ∧ ∃ q os', w' = grow ((grow (W6.drewN n) os).drewN q) os' := fun n os => same7_fn u y true _ sm.out (iu6.out.keep (Gr.keep ⟨n, os, rfl⟩)) (iy6.out.keep (Gr.keep ⟨n, os, rfl⟩))
    have AF : Hid (∀ W, Keep W6 W → ∀ B' d', ((B' = none → d' = 0) ∧ m - 1 ≤ d' ∧ (0 < m - 1 → B' = some ⟨g, off + 9, none⟩)) → After w W b bq D B' (m - 1) d' (fun j => S (j + 1))) := fun W kW B' d' hB => by
      have SF := H2.out.src.fr F5 N5
      refine ⟨(Fr.after k2.out F5).keep (k6.trans kW), D5, L5, ⟨Q5.keep (k6.trans kW), ⟨⟨by omega, fun hp => ?_, fun j hj => ((SF.keep (k6.trans kW)).rd.is (j + 1) (by omega))⟩, fun bb oo e hp hd => ?_, fun j hj a ha hm2 => (SF.keep (k6.trans kW)).req (j + 1) (by omega) a ha hm2⟩, ?_, ?_, fun e => ?_, hB.2.1, fun j hj => H.out.few (j + 1) (by omega)⟩, fun k hk => ?_⟩
      · obtain ⟨b2, o2, e2, c2⟩ := (SF.keep (k6.trans kW)).rd.adr h0
        simp only [Option.some.injEq, Addr.mk.injEq, and_true] at e2
        obtain ⟨rfl, rfl⟩ := e2
        refine ⟨g, off + 9, hB.2.2 hp, fun j hj => ?_⟩
        have := c2 (j + 1) (by omega)
        rw [show off + (j + 1) * 9 = off + 9 + j * 9 by omega] at this
        exact this
      · have e3 := hB.2.2 hp
        rw [e] at e3
        simp only [Option.some.injEq, Addr.mk.injEq, and_true] at e3
        rw [e3.1] at hd
        exact SF.row g off rfl h0 hd
      · have p := H.out.perm
        rw [lst_head S h0, List.map_cons, eu] at p
        exact (List.perm_cons _).1 (p.trans P5)
      · have s := H.out.sort
        rw [lst_head S h0, List.map_cons] at s
        exact (List.pairwise_cons.1 s).2
      · refine ⟨?_, hB.1 e⟩
        have h1 := hB.1 e
        have h2 := hB.2.1
        omega
      · rcases N5 k hk with h | h
        · exact Or.inl h
        · right; have := k2.out.size; omega
    have y0 : W6.cell? ⟨w.heap.size + 1, 0, none⟩ = some (.int .i64 y.k) := by rw [cell_of_row W6 _ _ _ _ _ fy6]; rfl
    have y1 : W6.cell? ⟨w.heap.size + 1, 1, none⟩ = some (.int .i64 y.p) := by rw [cell_of_row W6 _ _ _ _ _ fy6]; rfl
    have y2 : W6.cell? ⟨w.heap.size + 1, 2, none⟩ = some (.bool y.f) := by rw [cell_of_row W6 _ _ _ _ _ fy6]; rfl
    have y3 : W6.cell? ⟨w.heap.size + 1, 3, none⟩ = some (.int .i64 y.g) := by rw [cell_of_row W6 _ _ _ _ _ fy6]; rfl
    have y4 : W6.cell? ⟨w.heap.size + 1, 4, none⟩ = some (.slice y.A y.m y.c) := by rw [cell_of_row W6 _ _ _ _ _ fy6]; rfl
    have y5 : W6.cell? ⟨w.heap.size + 1, 5, none⟩ = some (.int .i64 y.a) := by rw [cell_of_row W6 _ _ _ _ _ fy6]; rfl
    have y6 : W6.cell? ⟨w.heap.size + 1, 6, none⟩ = some (.int .i64 y.h) := by rw [cell_of_row W6 _ _ _ _ _ fy6]; rfl
    have y7 : W6.cell? ⟨w.heap.size + 1, 7, none⟩ = some (.int .i64 y.d) := by rw [cell_of_row W6 _ _ _ _ _ fy6]; rfl
    have y8 : W6.cell? ⟨w.heap.size + 1, 8, none⟩ = some (.int .i64 y.t) := by rw [cell_of_row W6 _ _ _ _ _ fy6]; rfl
    have u0 : W6.cell? ⟨w5.heap.size, 0, none⟩ = some (.int .i64 u.k) := by rw [cell_of_row W6 _ _ _ _ _ fu6]; rfl
    have u1 : W6.cell? ⟨w5.heap.size, 1, none⟩ = some (.int .i64 u.p) := by rw [cell_of_row W6 _ _ _ _ _ fu6]; rfl
    have u2 : W6.cell? ⟨w5.heap.size, 2, none⟩ = some (.bool u.f) := by rw [cell_of_row W6 _ _ _ _ _ fu6]; rfl
    have u3 : W6.cell? ⟨w5.heap.size, 3, none⟩ = some (.int .i64 u.g) := by rw [cell_of_row W6 _ _ _ _ _ fu6]; rfl
    have u4 : W6.cell? ⟨w5.heap.size, 4, none⟩ = some (.slice u.A u.m u.c) := by rw [cell_of_row W6 _ _ _ _ _ fu6]; rfl
    have u5 : W6.cell? ⟨w5.heap.size, 5, none⟩ = some (.int .i64 u.a) := by rw [cell_of_row W6 _ _ _ _ _ fu6]; rfl
    have u6 : W6.cell? ⟨w5.heap.size, 6, none⟩ = some (.int .i64 u.h) := by rw [cell_of_row W6 _ _ _ _ _ fu6]; rfl
    have u7 : W6.cell? ⟨w5.heap.size, 7, none⟩ = some (.int .i64 u.d) := by rw [cell_of_row W6 _ _ _ _ _ fu6]; rfl
    have u8 : W6.cell? ⟨w5.heap.size, 8, none⟩ = some (.int .i64 u.t) := by rw [cell_of_row W6 _ _ _ _ _ fu6]; rfl
    replace fy6 := Lib.hid fy6
    replace fu6 := Lib.hid fu6
    replace fy5 := Lib.hid fy5
    replace nD := Lib.hid nD
    replace hl2 := Lib.hid hl2
    replace k6 := Lib.hid k6
    replace Q5 := Lib.hid Q5
    replace P5 := Lib.hid P5
    replace N5 := Lib.hid N5
    replace F5 := Lib.hid F5
    replace rq5 := Lib.hid rq5
    replace ok5 := Lib.hid ok5
    replace ui := Lib.hid ui
    replace um := Lib.hid um
    replace eu := Lib.hid eu
    have hmd := H.out.cap
    have hmdz : (1 : Int) ≤ (m : Int) := by omega
    have hmz : (1 : Int) ≤ (d : Int) := by omega
    have hmi : ¬ (m : Int) < 1 := by omega
    have hmin : min (1 : Int) (m : Int) = 1 := by omega
    have hm1 : ((m : Int) - 1).toNat = m - 1 := by omega
    have hd1 : ((d : Int) - 1).toNat = d - 1 := by omega
    replace hmd := Lib.hid hmd
    by_cases hd : d = 1
    · have hme : m = 1 := by have := hmd.out; omega
      go_wp2_with fail
      rw [← hW6]
      replace hW6 := Lib.hid hW6
      have gy0 := grows y0; have gu0 := grows u0
      have gy1 := grows y1; have gu1 := grows u1
      have gy2 := grows y2; have gu2 := grows u2
      have gy3 := grows y3; have gu3 := grows u3
      have gy4 := grows y4; have gu4 := grows u4
      have gy5 := grows y5; have gu5 := grows u5
      have gy6 := grows y6; have gu6 := grows u6
      have gy7 := grows y7; have gu7 := grows u7
      have gy8 := grows y8; have gu8 := grows u8
      clear y0 y1 y2 y3 y4 y5 y6 y7 y8 u0 u1 u2 u3 u4 u5 u6 u7 u8
      refine wp_region_quiet_grown (by assumption) (by kernel_rfl) ?_
      repeat (go_big_quiet_step (first | (go_at_call 26; with_reducible refine Calls.grown_of (cS _ _))))
      refine wpQuiet_nil ?_
      intro _ hw'
      obtain ⟨⟨nq, osq⟩, hw''⟩ := hw'
      subst hw''
      have K7 : Hid (Keep W6 (grow (W6.drewN nq) osq)) := Gr.keep ⟨nq, osq, rfl⟩
      generalize grow (W6.drewN nq) osq = w7 at K7 ⊢
      all_goals
        clear gy0 gy1 gy2 gy3 gy4 gy5 gy6 gy7 gy8 gu0 gu1 gu2 gu3 gu4 gu5 gu6 gu7 gu8 cS
        go_wp2
        go_ret2
        have e1 : m - 1 = 0 := by omega
        have af := AF.out _ K7.out (some ⟨g, off, none⟩) 0 ⟨fun _ => rfl, by omega, fun h => absurd h (by omega)⟩
        rw [e1] at af
        exact ⟨some ⟨g, off, none⟩, 0, 0, _, rfl, by omega, af⟩
    · have hdn : ¬ (d : Int) = 1 := by omega
      go_wp2_with fail
      rw [← hW6]
      replace hW6 := Lib.hid hW6
      have gy0 := grows y0; have gu0 := grows u0
      have gy1 := grows y1; have gu1 := grows u1
      have gy2 := grows y2; have gu2 := grows u2
      have gy3 := grows y3; have gu3 := grows u3
      have gy4 := grows y4; have gu4 := grows u4
      have gy5 := grows y5; have gu5 := grows u5
      have gy6 := grows y6; have gu6 := grows u6
      have gy7 := grows y7; have gu7 := grows u7
      have gy8 := grows y8; have gu8 := grows u8
      clear y0 y1 y2 y3 y4 y5 y6 y7 y8 u0 u1 u2 u3 u4 u5 u6 u7 u8
      refine wp_region_quiet_grown (by assumption) (by kernel_rfl) ?_
      repeat (go_big_quiet_step (first | (go_at_call 26; with_reducible refine Calls.grown_of (cS _ _))))
      refine wpQuiet_nil ?_
      intro _ hw'
      obtain ⟨⟨nq, osq⟩, hw''⟩ := hw'
      subst hw''
      have K7 : Hid (Keep W6 (grow (W6.drewN nq) osq)) := Gr.keep ⟨nq, osq, rfl⟩
      generalize grow (W6.drewN nq) osq = w7 at K7 ⊢
      all_goals
        clear gy0 gy1 gy2 gy3 gy4 gy5 gy6 gy7 gy8 gu0 gu1 gu2 gu3 gu4 gu5 gu6 gu7 gu8 cS
        go_wp2
        go_ret2
        exact ⟨some ⟨g, off + 9, none⟩, m - 1, d - 1, fun j => S (j + 1), rfl, by omega, AF.out _ K7.out _ _ ⟨(fun e => by cases e), by have := hmd.out; omega, fun _ => rfl⟩⟩
  · have h0z : (m : Int) ≤ 0 := by omega
    obtain ⟨W2, hW2⟩ : ∃ W, W = ((w.alloc (.cells #[.int .i64 1, .int .i64 x.k, .int .i64 x.p, .bool x.f, .int .i64 x.g, .slice x.A x.m x.c, .int .i64 x.a, .int .i64 x.h, .int .i64 x.d, .int .i64 x.t] 34)).alloc (.cells #[.int .i64 0, .int .i64 0, .bool false, .int .i64 0, .slice none 0 0, .int .i64 0, .int .i64 0, .int .i64 0, .int .i64 0] 32)) := ⟨_, rfl⟩
    have k2 : Keep w W2 := by rw [hW2]; exact (Keep.one _ _).alloc _
    have z2 : W2.heap.size = w.heap.size + 1 + 1 := by rw [hW2, World.size_alloc, World.size_alloc]
    have fy2 : W2.heap[w.heap.size + 1]? = some (.cells #[.int .i64 0, .int .i64 0, .bool false, .int .i64 0, .slice none 0 0, .int .i64 0, .int .i64 0, .int .i64 0, .int .i64 0] 32 (0, 0)) := by
      have := heap_alloc_new (w.alloc (.cells #[.int .i64 1, .int .i64 x.k, .int .i64 x.p, .bool x.f, .int .i64 x.g, .slice x.A x.m x.c, .int .i64 x.a, .int .i64 x.h, .int .i64 x.d, .int .i64 x.t] 34)) (.cells #[.int .i64 0, .int .i64 0, .bool false, .int .i64 0, .slice none 0 0, .int .i64 0, .int .i64 0, .int .i64 0, .int .i64 0] 32)
      rw [World.size_alloc] at this
      rw [hW2]
      exact this
    have H2 := H.out.keep k2
    have eL := H.out.nil0 h0
    subst eL
    have cO := qpop_none H2.q
    unfold zpod PodV.val at cO
    have hm0 : m = 0 := by omega
    replace cO := Lib.hid cO
    replace z2 := Lib.hid z2
    replace fy2 := Lib.hid fy2
    replace k2 := Lib.hid k2
    replace H2 := Lib.hid H2
    replace hm0 := Lib.hid hm0
    go_enter Try.func11, Try.ntmps11
    go_wp2_with fail
    rw [← hW2]
    replace hW2 := Lib.hid hW2
    refine cO.out.mono ?_
    rintro e w5 ⟨rfl, k5⟩
    clear cO
    have fy5 := k5.block fy2.out
    obtain ⟨W6, hW6⟩ : ∃ W, W = w5.alloc (.cells #[.int .i64 0, .int .i64 0, .bool false, .int .i64 0, .slice none 0 0, .int .i64 0, .int .i64 0, .int .i64 0, .int .i64 0] 32) := ⟨_, rfl⟩
    have k6 : Keep w5 W6 := by rw [hW6]; exact Keep.one _ _
    have fy6 := k6.block fy5
    have fu6 : W6.heap[w5.heap.size]? = some (.cells #[.int .i64 0, .int .i64 0, .bool false, .int .i64 0, .slice none 0 0, .int .i64 0, .int .i64 0, .int .i64 0, .int .i64 0] 32 (0, 0)) := by rw [hW6]; exact heap_alloc_new _ _
    have cS : ∀ (n : Nat) (os : Array Obj), Calls Try.prog 26 #[.agg #[.int .i64 0, .int .i64 0, .bool false, .int .i64 0, .slice none 0 0, .int .i64 0, .int .i64 0, .int .i64 0, .int .i64 0], .bool false, .agg #[.int .i64 0, .int .i64 0, .bool false, .int .i64 0, .slice none 0 0, .int .i64 0, .int .i64 0, .int .i64 0, .int .i64 0], .bool false] (grow (W6.drewN n) os) fun e w' => e = .returned (.bool true) ∧ ∃ q os', w' = grow ((grow (W6.drewN n) os).drewN q) os' := fun n os => same7_fn zpod zpod false _ (SameV.refl _) (zpod_is _) (zpod_is _)
    have AF : Hid (∀ W, Keep W6 W → After w W b bq D B m d S) := fun W kW => ⟨Fr.of (k2.out.trans (k5.trans (k6.trans kW))), D, [], H2.out.keep (k5.trans (k6.trans kW)), fun k hk => Or.inl hk⟩
    have y0 : W6.cell? ⟨w.heap.size + 1, 0, none⟩ = some (.int .i64 0) := by rw [cell_of_row W6 _ _ _ _ _ fy6]; rfl
    have y1 : W6.cell? ⟨w.heap.size + 1, 1, none⟩ = some (.int .i64 0) := by rw [cell_of_row W6 _ _ _ _ _ fy6]; rfl
    have y2 : W6.cell? ⟨w.heap.size + 1, 2, none⟩ = some (.bool false) := by rw [cell_of_row W6 _ _ _ _ _ fy6]; rfl
    have y3 : W6.cell? ⟨w.heap.size + 1, 3, none⟩ = some (.int .i64 0) := by rw [cell_of_row W6 _ _ _ _ _ fy6]; rfl
    have y4 : W6.cell? ⟨w.heap.size + 1, 4, none⟩ = some (.slice none 0 0) := by rw [cell_of_row W6 _ _ _ _ _ fy6]; rfl
    have y5 : W6.cell? ⟨w.heap.size + 1, 5, none⟩ = some (.int .i64 0) := by rw [cell_of_row W6 _ _ _ _ _ fy6]; rfl
    have y6 : W6.cell? ⟨w.heap.size + 1, 6, none⟩ = some (.int .i64 0) := by rw [cell_of_row W6 _ _ _ _ _ fy6]; rfl
    have y7 : W6.cell? ⟨w.heap.size + 1, 7, none⟩ = some (.int .i64 0) := by rw [cell_of_row W6 _ _ _ _ _ fy6]; rfl
    have y8 : W6.cell? ⟨w.heap.size + 1, 8, none⟩ = some (.int .i64 0) := by rw [cell_of_row W6 _ _ _ _ _ fy6]; rfl
    have u0 : W6.cell? ⟨w5.heap.size, 0, none⟩ = some (.int .i64 0) := by rw [cell_of_row W6 _ _ _ _ _ fu6]; rfl
    have u1 : W6.cell? ⟨w5.heap.size, 1, none⟩ = some (.int .i64 0) := by rw [cell_of_row W6 _ _ _ _ _ fu6]; rfl
    have u2 : W6.cell? ⟨w5.heap.size, 2, none⟩ = some (.bool false) := by rw [cell_of_row W6 _ _ _ _ _ fu6]; rfl
    have u3 : W6.cell? ⟨w5.heap.size, 3, none⟩ = some (.int .i64 0) := by rw [cell_of_row W6 _ _ _ _ _ fu6]; rfl
    have u4 : W6.cell? ⟨w5.heap.size, 4, none⟩ = some (.slice none 0 0) := by rw [cell_of_row W6 _ _ _ _ _ fu6]; rfl
    have u5 : W6.cell? ⟨w5.heap.size, 5, none⟩ = some (.int .i64 0) := by rw [cell_of_row W6 _ _ _ _ _ fu6]; rfl
    have u6 : W6.cell? ⟨w5.heap.size, 6, none⟩ = some (.int .i64 0) := by rw [cell_of_row W6 _ _ _ _ _ fu6]; rfl
    have u7 : W6.cell? ⟨w5.heap.size, 7, none⟩ = some (.int .i64 0) := by rw [cell_of_row W6 _ _ _ _ _ fu6]; rfl
    have u8 : W6.cell? ⟨w5.heap.size, 8, none⟩ = some (.int .i64 0) := by rw [cell_of_row W6 _ _ _ _ _ fu6]; rfl
    replace fy6 := Lib.hid fy6
    replace fu6 := Lib.hid fu6
    replace fy5 := Lib.hid fy5
    replace k6 := Lib.hid k6
    replace k5 := Lib.hid k5
    have gy0 := grows y0; have gu0 := grows u0
    have gy1 := grows y1; have gu1 := grows u1
    have gy2 := grows y2; have gu2 := grows u2
    have gy3 := grows y3; have gu3 := grows u3
    have gy4 := grows y4; have gu4 := grows u4
    have gy5 := grows y5; have gu5 := grows u5
    have gy6 := grows y6; have gu6 := grows u6
    have gy7 := grows y7; have gu7 := grows u7
    have gy8 := grows y8; have gu8 := grows u8
    clear y0 y1 y2 y3 y4 y5 y6 y7 y8 u0 u1 u2 u3 u4 u5 u6 u7 u8
    have hmi : (m : Int) < 1 := by omega
    have hmz : (m : Int) = 0 := by omega
    have hcap := H.out.cap
    have hdz : (0 : Int) ≤ (d : Int) := by omega
    by_cases hB : B = none
    · obtain ⟨_, hd0⟩ := H.out.nil hB
      subst hB
      subst hd0
      go_wp2_with fail
      rw [← hW6]
      replace hW6 := Lib.hid hW6
      refine wp_region_quiet_grown (by assumption) (by kernel_rfl) ?_
      repeat (go_big_quiet_step (first | (go_at_call 26; with_reducible refine Calls.grown_of (cS _ _))))
      refine wpQuiet_nil ?_
      intro _ hw'
      obtain ⟨⟨nq, osq⟩, hw''⟩ := hw'
      subst hw''
      have K7 : Hid (Keep W6 (grow (W6.drewN nq) osq)) := Gr.keep ⟨nq, osq, rfl⟩
      generalize grow (W6.drewN nq) osq = w7 at K7 ⊢
      clear gy0 gy1 gy2 gy3 gy4 gy5 gy6 gy7 gy8 gu0 gu1 gu2 gu3 gu4 gu5 gu6 gu7 gu8 cS
      go_wp2
      go_ret2
      exact ⟨_, m, _, S, by rw [hm0.out]; rfl, by omega, AF.out _ K7.out⟩
    · obtain ⟨a0, ha0⟩ : ∃ a, B = some a := Option.ne_none_iff_exists'.1 hB
      subst ha0
      by_cases hd : d = 0
      · subst hd
        go_wp2_with fail
        rw [← hW6]
        replace hW6 := Lib.hid hW6
        refine wp_region_quiet_grown (by assumption) (by kernel_rfl) ?_
        repeat (go_big_quiet_step (first | (go_at_call 26; with_reducible refine Calls.grown_of (cS _ _))))
        refine wpQuiet_nil ?_
        intro _ hw'
        obtain ⟨⟨nq, osq⟩, hw''⟩ := hw'
        subst hw''
        have K7 : Hid (Keep W6 (grow (W6.drewN nq) osq)) := Gr.keep ⟨nq, osq, rfl⟩
        generalize grow (W6.drewN nq) osq = w7 at K7 ⊢
        clear gy0 gy1 gy2 gy3 gy4 gy5 gy6 gy7 gy8 gu0 gu1 gu2 gu3 gu4 gu5 gu6 gu7 gu8 cS
        go_wp2
        go_ret2
        exact ⟨_, m, _, S, by rw [hm0.out]; rfl, by omega, AF.out _ K7.out⟩
      · have hdn : ¬ (d : Int) = 0 := by omega
        go_wp2_with fail
        rw [← hW6]
        replace hW6 := Lib.hid hW6
        refine wp_region_quiet_grown (by assumption) (by kernel_rfl) ?_
        repeat (go_big_quiet_step (first | (go_at_call 26; with_reducible refine Calls.grown_of (cS _ _))))
        refine wpQuiet_nil ?_
        intro _ hw'
        obtain ⟨⟨nq, osq⟩, hw''⟩ := hw'
        subst hw''
        have K7 : Hid (Keep W6 (grow (W6.drewN nq) osq)) := Gr.keep ⟨nq, osq, rfl⟩
        generalize grow (W6.drewN nq) osq = w7 at K7 ⊢
        clear gy0 gy1 gy2 gy3 gy4 gy5 gy6 gy7 gy8 gu0 gu1 gu2 gu3 gu4 gu5 gu6 gu7 gu8 cS
        go_wp2
        go_ret2
        exact ⟨_, m, _, S, by rw [hm0.out]; rfl, by omega, AF.out _ K7.out⟩

end Go.Proofs.Ytmmpmpdjcmilkaa
