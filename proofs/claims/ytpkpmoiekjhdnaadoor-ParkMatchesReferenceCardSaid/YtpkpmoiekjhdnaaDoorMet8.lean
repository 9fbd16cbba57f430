/-
  The methods New, Reason, Remove of a lot. No condition.
-/
import Derived.Test.YtpkpmoiekjhdnaaDoorLot8
import Derived.Maps.RangeWalk
namespace Go.Proofs.YtpkpmoiekjhdnaaDoor
open Go.RowKit Go.Sort Go.Lib Go.Shelf
open Go.ChangeMaps (setBlock)

set_option maxHeartbeats 1000000 in
theorem pnew_fn (w : World) : Calls Tryd.prog 8 #[] w fun e w' => ∃ bl, e = .returned (.pointer (some ⟨bl, 0, none⟩)) ∧ Keep w w' ∧ ∀ b1 w2, w.heap.size ≤ b1 → Keep w' w2 → b1 ≤ w2.heap.size → ∃ D, LInv w2 w.heap.size b1 bl D [] ∧ ∀ k, D k → k < w'.heap.size := by
  have hmm := @run_makeMap Tryd.prog
  go_enter Tryd.func8, Tryd.ntmps8
  go_wp2
  go_ret
  refine ⟨_, rfl, (Keep.one _ _).alloc _, fun b1 w2 hb k hl => ⟨Foot8 (w.heap.size + 1) w.heap.size, ⟨w.heap.size, [], ⟨?_, ?_, (fun y h => by cases h), by simp, (fun y h => by cases h), by omega, by omega, hb, hl⟩, List.Perm.refl _, rfl⟩, ?_⟩⟩
  · refine k.block ?_
    have := heap_alloc_new (w.alloc (.map #[] 0)) (.cells #[.map (some w.heap.size)] 55)
    rwa [World.size_alloc] at this
  · exact (MV.is_new w).of (Below.block ((Keep.one (w.alloc (.map #[] 0)) (.cells #[.map (some w.heap.size)] 55)).trans k) _ (by rw [World.size_alloc]; omega))
  · rintro k (h | h)
    · simp; omega
    · simp; omega

theorem at_of {E : List (PodV × Int)} {L : List (PodV × Int)} (hp : (E.map nmE).Perm L) {id r : Int} {b : Bool} (on : b = true → ∃ y ∈ L, y.1.k = id ∧ y.2 = r) (off : b = false → id ∉ keysE L ∧ r = 0) : ∃ x, At E id x r b := by
  cases b with
  | true =>
    obtain ⟨y, hy, e1, e2⟩ := on rfl
    obtain ⟨z, hz, rfl⟩ := List.mem_map.1 (hp.mem_iff.2 hy)
    have e2 : z.2 = r := e2
    exact ⟨z.1, fun _ => ⟨by rw [← e2]; exact hz, e1⟩, fun h => by cases h⟩
  | false =>
    obtain ⟨h1, h2⟩ := off rfl
    refine ⟨zpod, fun h => by (cases h), fun _ => ⟨?_, rfl, h2⟩⟩
    rw [← keys_nm, (keys_perm hp).mem_iff]
    exact h1

set_option maxHeartbeats 4000000 in
theorem preason_fn {w : World} {b0 b1 bl : Nat} {D : Nat → Prop} {L : List (PodV × Int)} (h : LInv w b0 b1 bl D L) (id r : Int) (b : Bool) (on : b = true → ∃ y ∈ L, y.1.k = id ∧ y.2 = r) (off : b = false → id ∉ keysE L ∧ r = 0) :
    Calls Tryd.prog 15 #[.pointer (some ⟨bl, 0, none⟩), .int .i64 id] w fun e w' => e = .returned (.tuple #[.int .i64 r, .bool b]) ∧ Keep w w' := by
  obtain ⟨B, E, h1, h2, rfl⟩ := h
  obtain ⟨x, a⟩ := at_of h2 on off
  have c0 := h1.e0
  have ml := look_at h1.map a
  unfold PodV.ent at ml
  clear h1 h2 a on off
  go_enter Tryd.func15, Tryd.ntmps15
  go_wp2
  go_ret2
  exact ⟨rfl, Keep.one _ _⟩

theorem del_prs (E : List (PodV × Int)) (id : Int) : (prs E).filter (fun x => decide (x.1 ≠ id)) = prs (E.filter fun y => decide (y.1.k ≠ id)) := by
  unfold prs
  rw [List.filter_map]
  rfl
/-- What Remove leaves. -/
structure Gone (w w' : World) (b0 b1 bl : Nat) (D : Nat → Prop) (L : List (PodV × Int)) (id : Int) (x : PodV) (b : Bool) : Prop where
  fr : Fr D w w'
  inv : LInv w' b0 b1 bl D (L.filter fun y => decide (y.1.k ≠ id))
  req : Req w' b1 x
  ok : PodOk x
  on : b = true → x.k = id ∧ ∃ r, (nm x, r) ∈ L
  off : b = false → id ∉ keysE L ∧ x = zpod
theorem gone_end {w w' : World} {b0 b1 bl B : Nat} {E L : List (PodV × Int)} {id r : Int} {x : PodV} {b : Bool} {o : Obj} (H : LMem w b0 b1 bl B E) (hp : (E.map nmE).Perm L) (a : At E id x r b) (hO : MV.Obj' o ((prs E).filter fun x => decide (x.1 ≠ id)))
    (hB : w'.heap[B]? = some o) (hs : ∀ k, k < w.heap.size → k ≠ B → w'.heap[k]? = w.heap[k]?) (F : Fr (Foot8 bl B) w w') : Gone w w' b0 b1 bl (Foot8 bl B) L id x b := by
  rw [del_prs] at hO
  refine ⟨F, ⟨B, _, H.put hO hB hs F.size (fun y hy => Or.inl (List.mem_filter.1 hy).1) (Nat.le_trans (List.length_filter_le _ _) H.lim), ?_, rfl⟩, ?_, ?_, fun hb => ?_, fun hb => ?_⟩
  · have h1 := hp.filter fun y => decide (y.1.k ≠ id)
    rw [List.filter_map] at h1
    exact h1
  · cases b with
    | true => exact H.req (fun k hk _ hn => hs k hk hn) (H.own _ (a.on rfl).1).1
    | false => rw [(a.off rfl).2.1]; exact zpod_req _ _
  · cases b with
    | true => exact (H.own _ (a.on rfl).1).2
    | false => rw [(a.off rfl).2.1]; exact zpod_ok
  · obtain ⟨h1, h2⟩ := a.on hb
    exact ⟨h2, r, hp.mem_iff.1 (List.mem_map.2 ⟨_, h1, rfl⟩)⟩
  · obtain ⟨h1, h2, _⟩ := a.off hb
    refine ⟨fun h3 => h1 ?_, h2⟩
    rw [← keys_nm, (keys_perm hp).mem_iff]
    exact h3

set_option maxRecDepth 100000 in
set_option maxHeartbeats 8000000 in
theorem premove_fn {w : World} {b0 b1 bl : Nat} {D : Nat → Prop} {L : List (PodV × Int)} (h : LInv w b0 b1 bl D L) (id : Int) :
    Calls Tryd.prog 26 #[.pointer (some ⟨bl, 0, none⟩), .int .i64 id] w fun e w' => ∃ x b, e = .returned (.tuple #[x.val, .bool b]) ∧ Gone w w' b0 b1 bl D L id x b := by
  obtain ⟨B, E, h1, h2, rfl⟩ := h
  obtain ⟨x, r, b, a⟩ := at_ex E id
  have K1 : Keep w (w.alloc (.cells #[.int .i64 0, .int .i64 0, .bool false, .int .i64 0, .slice none 0 0, .int .i64 0, .int .i64 0, .int .i64 0, .int .i64 0] 35)) := Keep.one _ _
  have kd1 := heap_alloc_new w (.cells #[.int .i64 0, .int .i64 0, .bool false, .int .i64 0, .slice none 0 0, .int .i64 0, .int .i64 0, .int .i64 0, .int .i64 0] 35)
  have sz1 : (w.alloc (.cells #[.int .i64 0, .int .i64 0, .bool false, .int .i64 0, .slice none 0 0, .int .i64 0, .int .i64 0, .int .i64 0, .int .i64 0] 35)).heap.size = w.heap.size + 1 := World.size_alloc _ _
  have H1 := h1.keep K1
  have c1 := H1.e0
  have ml1 := look_at H1.map a
  unfold PodV.ent at ml1
  have K2 : Keep w ((w.alloc (.cells #[.int .i64 0, .int .i64 0, .bool false, .int .i64 0, .slice none 0 0, .int .i64 0, .int .i64 0, .int .i64 0, .int .i64 0] 35)).alloc (.cells #[.int .i64 x.k, .int .i64 x.p, .bool x.f, .int .i64 x.g, .slice x.A x.m x.c, .int .i64 x.a, .int .i64 x.h, .int .i64 x.d, .int .i64 x.t, .int .i64 r] 62)) := K1.alloc _
  have kd2 := heap_alloc_new (w.alloc (.cells #[.int .i64 0, .int .i64 0, .bool false, .int .i64 0, .slice none 0 0, .int .i64 0, .int .i64 0, .int .i64 0, .int .i64 0] 35)) (.cells #[.int .i64 x.k, .int .i64 x.p, .bool x.f, .int .i64 x.g, .slice x.A x.m x.c, .int .i64 x.a, .int .i64 x.h, .int .i64 x.d, .int .i64 x.t, .int .i64 r] 62)
  have kd1 := (Keep.one _ (.cells #[.int .i64 x.k, .int .i64 x.p, .bool x.f, .int .i64 x.g, .slice x.A x.m x.c, .int .i64 x.a, .int .i64 x.h, .int .i64 x.d, .int .i64 x.t, .int .i64 r] 62)).block kd1
  have H2 := h1.keep K2
  have c2 := H2.e0
  have sz2 : ((w.alloc (.cells #[.int .i64 0, .int .i64 0, .bool false, .int .i64 0, .slice none 0 0, .int .i64 0, .int .i64 0, .int .i64 0, .int .i64 0] 35)).alloc (.cells #[.int .i64 x.k, .int .i64 x.p, .bool x.f, .int .i64 x.g, .slice x.A x.m x.c, .int .i64 x.a, .int .i64 x.h, .int .i64 x.d, .int .i64 x.t, .int .i64 r] 62)).heap.size = w.heap.size + 1 + 1 := by rw [World.size_alloc, World.size_alloc]
  rw [sz1] at kd2
  obtain ⟨o, O2, E2⟩ := MV.del (P := Tryd.prog) (tM := 53) (tK := 3) (tE := 62) (by kernel_rfl) (by kernel_rfl) H2.map id
  obtain ⟨W2, hW2⟩ : ∃ W, W = ((w.alloc (.cells #[.int .i64 0, .int .i64 0, .bool false, .int .i64 0, .slice none 0 0, .int .i64 0, .int .i64 0, .int .i64 0, .int .i64 0] 35)).alloc (.cells #[.int .i64 x.k, .int .i64 x.p, .bool x.f, .int .i64 x.g, .slice x.A x.m x.c, .int .i64 x.a, .int .i64 x.h, .int .i64 x.d, .int .i64 x.t, .int .i64 r] 62)) := ⟨_, rfl⟩
  rw [← hW2] at K2 kd1 kd2 E2 c2 sz2
  have hlt := h1.lt
  obtain ⟨w5, hw5⟩ : ∃ W, W = setBlock W2 B o := ⟨_, rfl⟩
  have E5 : ∀ ty, (Builtin.delete_ #[53, 3] ty #[.map (some B), .int .i64 id]).run Tryd.prog W2 = .ok (.tuple #[]) w5 := fun ty => by rw [hw5]; exact E2 W2 ty rfl
  rw [hW2] at E5
  have n5 : Hid (∀ k, k ≠ B → w5.heap[k]? = W2.heap[k]?) := fun k hk => by rw [hw5]; exact heap_setBlock_ne hk
  have b5 : Hid (w5.heap[B]? = some o) := by rw [hw5]; exact heap_setBlock (Nat.lt_of_lt_of_le hlt.2 K2.size)
  have F5 : Hid (Fr (Foot8 bl B) w w5) := by rw [hw5]; exact (Fr.of K2).put (Or.inl (Or.inr rfl)) o
  have nP : w.heap.size ≠ B := by have := hlt.2; omega
  have nE : w.heap.size + 1 ≠ B := by have := hlt.2; omega
  have d5 := (n5.out _ nP).trans kd1
  have e5 := (n5.out _ nE).trans kd2
  have r0 : w5.cell? ⟨w.heap.size, 0, none⟩ = some (.int .i64 0) := by rw [cell_of_row w5 _ _ _ _ _ d5]; rfl
  have r1 : w5.cell? ⟨w.heap.size, 1, none⟩ = some (.int .i64 0) := by rw [cell_of_row w5 _ _ _ _ _ d5]; rfl
  have r2 : w5.cell? ⟨w.heap.size, 2, none⟩ = some (.bool false) := by rw [cell_of_row w5 _ _ _ _ _ d5]; rfl
  have r3 : w5.cell? ⟨w.heap.size, 3, none⟩ = some (.int .i64 0) := by rw [cell_of_row w5 _ _ _ _ _ d5]; rfl
  have r4 : w5.cell? ⟨w.heap.size, 4, none⟩ = some (.slice none 0 0) := by rw [cell_of_row w5 _ _ _ _ _ d5]; rfl
  have r5 : w5.cell? ⟨w.heap.size, 5, none⟩ = some (.int .i64 0) := by rw [cell_of_row w5 _ _ _ _ _ d5]; rfl
  have r6 : w5.cell? ⟨w.heap.size, 6, none⟩ = some (.int .i64 0) := by rw [cell_of_row w5 _ _ _ _ _ d5]; rfl
  have r7 : w5.cell? ⟨w.heap.size, 7, none⟩ = some (.int .i64 0) := by rw [cell_of_row w5 _ _ _ _ _ d5]; rfl
  have r8 : w5.cell? ⟨w.heap.size, 8, none⟩ = some (.int .i64 0) := by rw [cell_of_row w5 _ _ _ _ _ d5]; rfl
  have g0 : w5.frozen? ⟨w.heap.size, 0, none⟩ = false := frozen_of_row w5 _ _ _ _ d5
  have g1 : w5.frozen? ⟨w.heap.size, 1, none⟩ = false := frozen_of_row w5 _ _ _ _ d5
  have g2 : w5.frozen? ⟨w.heap.size, 2, none⟩ = false := frozen_of_row w5 _ _ _ _ d5
  have g3 : w5.frozen? ⟨w.heap.size, 3, none⟩ = false := frozen_of_row w5 _ _ _ _ d5
  have g4 : w5.frozen? ⟨w.heap.size, 4, none⟩ = false := frozen_of_row w5 _ _ _ _ d5
  have g5 : w5.frozen? ⟨w.heap.size, 5, none⟩ = false := frozen_of_row w5 _ _ _ _ d5
  have g6 : w5.frozen? ⟨w.heap.size, 6, none⟩ = false := frozen_of_row w5 _ _ _ _ d5
  have g7 : w5.frozen? ⟨w.heap.size, 7, none⟩ = false := frozen_of_row w5 _ _ _ _ d5
  have g8 : w5.frozen? ⟨w.heap.size, 8, none⟩ = false := frozen_of_row w5 _ _ _ _ d5
  have x0 : w5.cell? ⟨w.heap.size + 1, 0, none⟩ = some (.int .i64 x.k) := by rw [cell_of_row w5 _ _ _ _ _ e5]; rfl
  have x1 : w5.cell? ⟨w.heap.size + 1, 1, none⟩ = some (.int .i64 x.p) := by rw [cell_of_row w5 _ _ _ _ _ e5]; rfl
  have x2 : w5.cell? ⟨w.heap.size + 1, 2, none⟩ = some (.bool x.f) := by rw [cell_of_row w5 _ _ _ _ _ e5]; rfl
  have x3 : w5.cell? ⟨w.heap.size + 1, 3, none⟩ = some (.int .i64 x.g) := by rw [cell_of_row w5 _ _ _ _ _ e5]; rfl
  have x4 : w5.cell? ⟨w.heap.size + 1, 4, none⟩ = some (.slice x.A x.m x.c) := by rw [cell_of_row w5 _ _ _ _ _ e5]; rfl
  have x5 : w5.cell? ⟨w.heap.size + 1, 5, none⟩ = some (.int .i64 x.a) := by rw [cell_of_row w5 _ _ _ _ _ e5]; rfl
  have x6 : w5.cell? ⟨w.heap.size + 1, 6, none⟩ = some (.int .i64 x.h) := by rw [cell_of_row w5 _ _ _ _ _ e5]; rfl
  have x7 : w5.cell? ⟨w.heap.size + 1, 7, none⟩ = some (.int .i64 x.d) := by rw [cell_of_row w5 _ _ _ _ _ e5]; rfl
  have x8 : w5.cell? ⟨w.heap.size + 1, 8, none⟩ = some (.int .i64 x.t) := by rw [cell_of_row w5 _ _ _ _ _ e5]; rfl
  have h1 := Lib.hid h1
  have h2 := Lib.hid h2
  have a := Lib.hid a
  replace K1 := Lib.hid K1
  replace K2 := Lib.hid K2
  replace kd1 := Lib.hid kd1
  replace kd2 := Lib.hid kd2
  replace H1 := Lib.hid H1
  replace H2 := Lib.hid H2
  replace O2 := Lib.hid O2
  replace E2 := Lib.hid E2
  replace E5 := Lib.hid E5
  replace sz1 := Lib.hid sz1
  replace sz2 := Lib.hid sz2
  replace hlt := Lib.hid hlt
  replace d5 := Lib.hid d5
  replace e5 := Lib.hid e5
  replace nP := Lib.hid nP
  replace nE := Lib.hid nE
  replace hw5 := Lib.hid hw5
  rw [hW2] at c2
  replace hW2 := Lib.hid hW2
  unfold PodV.val
  go_enter Tryd.func26, Tryd.ntmps26
  go_wp2_with (at_delete; refine MV.wpl_delete rfl (.tmp 23) (.tmp 24) 53 3 rfl rfl rfl (fun ty => E5.out ty) ?_)
  have fin : Hid (∀ W, W = w5.setCells w.heap.size 0 x.cells → Gone w W b0 b1 bl (Foot8 bl B) L id x b) := fun W hW => by
    have cg := cells_grown w.heap.size x.cells 0 w5
    have hk : ∀ k, k ≠ w.heap.size → k < w5.heap.size → W.heap[k]? = w5.heap[k]? := fun k hn hl => by rw [hW]; exact cg.1.block k hl (fun e => hn (Option.some.inj e))
    have h5 : w.heap.size + 1 < w5.heap.size := cell_lt x0
    refine gone_end h1.out h2.out a.out O2.out ((hk B (fun e => nP.out e.symm) (by have := hlt.out.2; omega)).trans b5.out) (fun k hl hn => (hk k (by omega) (by omega)).trans ((n5.out k hn).trans (Below.block K2.out k hl))) ?_
    rw [hW]
    refine F5.out.trans (Fr.grown (D := fun k => k = w.heap.size) cg.1 (fun g hg => Or.inl (Option.some.inj hg).symm)) ?_
    rintro i rfl
    exact Or.inr (Nat.le_refl _)
  go_wp2
  refine bodyPost_ret (v := .tuple #[.agg #[.int .i64 x.k, .int .i64 x.p, .bool x.f, .int .i64 x.g, .slice x.A x.m x.c, .int .i64 x.a, .int .i64 x.h, .int .i64 x.d, .int .i64 x.t], .bool b]) (by simp [results, Tryd.results26, go_sem, *]) rfl ⟨x, b, rfl, fin.out _ rfl⟩
end Go.Proofs.YtpkpmoiekjhdnaaDoor
