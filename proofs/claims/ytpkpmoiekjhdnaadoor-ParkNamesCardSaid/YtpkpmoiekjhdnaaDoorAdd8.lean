/-
  Add of a lot. Conditions: fewer than 1000 pods; at most 1000 amounts.
-/
import Derived.Test.YtpkpmoiekjhdnaaDoorLot8
namespace Go.Proofs.YtpkpmoiekjhdnaaDoor
open Go.RowKit Go.Sort Go.Lib Go.Shelf
open Go.ChangeMaps (setBlock)

set_option maxHeartbeats 2000000 in
theorem padd_nil (x : PodV) (r : Int) (w : World) : Calls Tryd.prog 20 #[.pointer none, x.val, .int .i64 r] w fun e w' => e = .returned (.bool false) ∧ Keep w w' := by
  unfold PodV.val
  go_enter Tryd.func20, Tryd.ntmps20
  go_wp2
  go_ret
  exact ⟨rfl, Keep.one _ _⟩
set_option maxHeartbeats 2000000 in
theorem padd_wrong (bl : Nat) (x : PodV) (r : Int) (w : World) (hr : r < 1 ∨ 4 < r) : Calls Tryd.prog 20 #[.pointer (some ⟨bl, 0, none⟩), x.val, .int .i64 r] w fun e w' => e = .returned (.bool false) ∧ Keep w w' := by
  unfold PodV.val
  rcases hr with hr | hr
  · go_enter Tryd.func20, Tryd.ntmps20
    go_wp2
    go_ret
    exact ⟨rfl, Keep.one _ _⟩
  · have hr1 : ¬ r < 1 := by omega
    go_enter Tryd.func20, Tryd.ntmps20
    go_wp2
    go_ret
    exact ⟨rfl, Keep.one _ _⟩
set_option maxRecDepth 100000 in
set_option maxHeartbeats 8000000 in
theorem padd_there {w : World} {b0 b1 bl : Nat} {D : Nat → Prop} {L : List (PodV × Int)} (h : LInv w b0 b1 bl D L) (x : PodV) (r : Int) (h1 : 1 ≤ r) (h4 : r ≤ 4) (hk : x.k ∈ keysE L) :
    Calls Tryd.prog 20 #[.pointer (some ⟨bl, 0, none⟩), x.val, .int .i64 r] w fun e w' => e = .returned (.bool false) ∧ Keep w w' := by
  have mixed : Tryd.prog.follows .mixedOrders = true := by kernel_rfl
  unfold PodV.val
  have H := h.keep (Keep.one w (.cells #[.int .i64 x.k, .int .i64 x.p, .bool x.f, .int .i64 x.g, .slice x.A x.m x.c, .int .i64 x.a, .int .i64 x.h, .int .i64 x.d, .int .i64 x.t] 35))
  obtain ⟨B, E, M, hp, rfl⟩ := H
  obtain ⟨y, q, b, a⟩ := at_ex E x.k
  have hb : b = true := by
    cases b with
    | true => rfl
    | false => exact absurd (by rw [← keys_nm, (keys_perm hp).mem_iff]; exact hk) (a.off rfl).1
  subst hb
  have c0 := M.e0
  have ml := look_at M.map a
  have mld := look_at (M.map.of (w' := (w.alloc (.cells #[.int .i64 x.k, .int .i64 x.p, .bool x.f, .int .i64 x.g, .slice x.A x.m x.c, .int .i64 x.a, .int .i64 x.h, .int .i64 x.d, .int .i64 x.t] 35)).drew) rfl) a
  unfold PodV.ent at ml mld
  have x0 := (Cel9.new w x 35 _ rfl).e0
  have hr1 : ¬ r < 1 := by omega
  have hr4 : ¬ 4 < r := by omega
  obtain ⟨W, hW⟩ : ∃ W, W = w.alloc (.cells #[.int .i64 x.k, .int .i64 x.p, .bool x.f, .int .i64 x.g, .slice x.A x.m x.c, .int .i64 x.a, .int .i64 x.h, .int .i64 x.d, .int .i64 x.t] 35) := ⟨_, rfl⟩
  have KW : Hid (Keep w W) := by rw [hW]; exact Keep.one _ _
  rw [← hW] at c0 ml mld x0
  have MZ : MV.Is (W.alloc (.cells #[.int .i64 0, .int .i64 0, .bool false, .int .i64 0, .slice none 0 0, .int .i64 0, .int .i64 0, .int .i64 0, .int .i64 0, .int .i64 0] 62)).drew B (prs E) := by
    rw [hW]
    exact (M.keep (Keep.one _ _)).map
  have mlz := look_at MZ a
  unfold PodV.ent at mlz
  have lx := cell_lt x0
  have lc := cell_lt c0
  simp only at lx lc
  clear M MZ hp a hk h
  go_enter Tryd.func20, Tryd.ntmps20
  go_wp2_with fail
  rw [← hW]
  replace hW := Lib.hid hW
  go_region
  all_goals
    go_wp2
    go_ret
    exact ⟨rfl, (KW.out.trans (Keep.one _ _)).drew⟩

theorem add_end {w w' : World} {b0 b1 bl B : Nat} {E : List (PodV × Int)} {x : PodV} {r : Int} {A : Option Addr} {c : Nat} {o : Obj} (H : LMem w b0 b1 bl B E) (hl : E.length < 1000) (hm : x.m ≤ 1000) (hO : MV.Obj' o (prs E ++ [(x.k, (x.at A c).ent r)]))
    (hB : w'.heap[B]? = some o) (hs : ∀ k, k < w.heap.size → k ≠ B → w'.heap[k]? = w.heap[k]?) (hz : w.heap.size ≤ w'.heap.size) (hr : Req w' b1 (x.at A c)) (ho : PodOk (x.at A c)) : LMem w' b0 b1 bl B (E ++ [(x.at A c, r)]) := by
  have e : prs E ++ [(x.k, (x.at A c).ent r)] = prs (E ++ [(x.at A c, r)]) := by unfold prs; rw [List.map_append]; rfl
  rw [e] at hO
  refine H.put hO hB hs hz (fun y hy => ?_) (by rw [List.length_append]; simp; omega)
  rcases List.mem_append.1 hy with h | h
  · exact Or.inl h
  · rw [List.mem_singleton.1 h]
    exact Or.inr ⟨hr, ho, hm⟩
set_option maxRecDepth 100000 in
set_option maxHeartbeats 8000000 in
theorem padd_mem {w : World} {b0 b1 bl B : Nat} {E : List (PodV × Int)} (M : LMem w b0 b1 bl B E) (x : PodV) (r : Int) (h1 : 1 ≤ r) (h4 : r ≤ 4) (hkE : x.k ∉ keysE E) (hx : PodIs w x) (hm : x.m ≤ 1000) (hl : E.length < 1000) :
    Calls Tryd.prog 20 #[.pointer (some ⟨bl, 0, none⟩), x.val, .int .i64 r] w fun e w' => e = .returned (.bool true) ∧ ∃ A c, LMem w' b0 b1 bl B (E ++ [(x.at A c, r)]) ∧ Req w' w.heap.size (x.at A c) ∧ Fr (Foot8 bl B) w w' := by
  have mixed : Tryd.prog.follows .mixedOrders = true := by kernel_rfl
  unfold PodV.val
  obtain ⟨W, hW⟩ : ∃ W, W = w.alloc (.cells #[.int .i64 x.k, .int .i64 x.p, .bool x.f, .int .i64 x.g, .slice x.A x.m x.c, .int .i64 x.a, .int .i64 x.h, .int .i64 x.d, .int .i64 x.t] 35) := ⟨_, rfl⟩
  have KW : Keep w W := by rw [hW]; exact Keep.one _ _
  have MW := M.keep KW
  have vW : W.heap[w.heap.size]? = some (.cells #[.int .i64 x.k, .int .i64 x.p, .bool x.f, .int .i64 x.g, .slice x.A x.m x.c, .int .i64 x.a, .int .i64 x.h, .int .i64 x.d, .int .i64 x.t] 35 (0, 0)) := by rw [hW]; exact heap_alloc_new _ _
  have a : At E x.k zpod 0 false := ⟨fun h => by (cases h), fun _ => ⟨hkE, rfl, rfl⟩⟩
  have c0 := MW.e0
  have ml := look_at MW.map a
  have mld := look_at (MW.map.of (w' := W.drew) rfl) a
  have mlz := look_at ((MW.keep (Keep.one W (.cells #[.int .i64 0, .int .i64 0, .bool false, .int .i64 0, .slice none 0 0, .int .i64 0, .int .i64 0, .int .i64 0, .int .i64 0, .int .i64 0] 62))).map.of (w' := (W.alloc (.cells #[.int .i64 0, .int .i64 0, .bool false, .int .i64 0, .slice none 0 0, .int .i64 0, .int .i64 0, .int .i64 0, .int .i64 0, .int .i64 0] 62)).drew) rfl) a
  unfold PodV.ent zpod at ml mld mlz
  have x0 : W.cell? ⟨w.heap.size, 0, none⟩ = some (.int .i64 x.k) := by rw [cell_of_row W _ _ _ _ _ vW]; rfl
  have hr1 : ¬ r < 1 := by omega
  have hr4 : ¬ 4 < r := by omega
  have lx := cell_lt x0
  have lc := cell_lt c0
  simp only at lx lc
  have nB : w.heap.size ≠ B := by have := M.lt.2; omega
  obtain ⟨W3, hW3⟩ : ∃ W3, W3 = (W.alloc (.cells #[.int .i64 0, .int .i64 0, .bool false, .int .i64 0, .slice none 0 0, .int .i64 0, .int .i64 0, .int .i64 0, .int .i64 0, .int .i64 0] 62)).drew := ⟨_, rfl⟩
  have KW3 : Keep W W3 := by rw [hW3]; exact (Keep.one _ _).drew
  have K3 := KW.trans KW3
  have M3 := M.keep K3
  have v3 := KW3.block vW
  have cC := sclone_own x.A x.m x.c x.Z W3 (hx.rd.keep K3) hx.nil (by omega)
  have okx := Lib.hid hx.ok
  replace cC := Lib.hid cC
  replace M := Lib.hid M
  replace MW := Lib.hid MW
  replace M3 := Lib.hid M3
  replace v3 := Lib.hid v3
  replace vW := Lib.hid vW
  replace KW := Lib.hid KW
  replace KW3 := Lib.hid KW3
  replace K3 := Lib.hid K3
  replace hkE := Lib.hid hkE
  replace hx := Lib.hid hx
  replace nB := Lib.hid nB
  clear a
  go_enter Tryd.func20, Tryd.ntmps20
  go_wp2_with fail
  rw [← hW]
  replace hW := Lib.hid hW
  go_region
  all_goals
    rw [← hW3]
    replace hW3 := Lib.hid hW3
    clear ml mld mlz c0 lc
    have x4 : W3.cell? ⟨w.heap.size, 4, none⟩ = some (.slice x.A x.m x.c) := by rw [cell_of_row W3 _ _ _ _ _ v3.out]; rfl
    go_wp2_with fail
    refine cC.out.mono ?_
    rintro e w4 ⟨A', c', rfl, k4, ow4⟩
    have v4 := k4.block v3.out
    have x4 : w4.cell? ⟨w.heap.size, 4, none⟩ = some (.slice x.A x.m x.c) := by rw [cell_of_row w4 _ _ _ _ _ v4]; rfl
    have g4 : w4.frozen? ⟨w.heap.size, 4, none⟩ = false := frozen_of_row w4 _ _ _ _ v4
    obtain ⟨w5, hw5⟩ : ∃ w5, w5 = w4.setCell ⟨w.heap.size, 4, none⟩ (.slice A' x.m c') := ⟨_, rfl⟩
    have K5 : Hid (Keep w w5) := by rw [hw5]; exact (K3.out.trans k4).set (Nat.le_refl _) _
    have M5 := M.out.keep K5.out
    have v5 : w5.heap[w.heap.size]? = some (.cells #[.int .i64 x.k, .int .i64 x.p, .bool x.f, .int .i64 x.g, .slice A' x.m c', .int .i64 x.a, .int .i64 x.h, .int .i64 x.d, .int .i64 x.t] 35 (0, 0)) := by rw [hw5]; exact heap_setCell_same w4 w.heap.size 4 _ _ (.slice A' x.m c') v4
    have rq5 : Hid (Req w5 w.heap.size (x.at A' c')) := by
      have h1 : Req w4 W3.heap.size (x.at A' c') := ow4
      refine own_base (base := W3.heap.size) (own_blocks1 h1 fun g hg => ?_) K3.out.size
      rw [hw5]
      refine Below.heap_setCell w4 _ _ g fun e => ?_
      have := (h1.lt g hg).1
      have := KW3.out.size
      simp only at e
      omega
    have nil' : A' = none → x.m = 0 ∧ c' = 0 := fun e => by
      obtain ⟨A2, c2, e2, h0⟩ := own_form ow4
      simp only [Value.slice.injEq, true_and] at e2
      obtain ⟨rfl, rfl⟩ := e2
      exact h0 e
    have ok5 : Hid (PodOk (x.at A' c')) := ⟨okx.out.small, okx.out.range, nil', okx.out.rng⟩
    obtain ⟨o, O5, E5⟩ := MV.put_new (P := Tryd.prog) (tM := 53) (tK := 3) (tE := 62) (by kernel_rfl) (by kernel_rfl) M5.map x.k ((x.at A' c').ent r) (by rw [keys_prs]; exact hkE.out)
    unfold PodV.ent PodV.at at E5
    have e5a := E5 w5 rfl
    have e5b : (Instr.mapUpdate 53 (.map (some B)) (.int .i64 x.k) (.agg #[.int .i64 x.k, .int .i64 x.p, .bool x.f, .int .i64 x.g, .slice A' x.m c', .int .i64 x.a, .int .i64 x.h, .int .i64 x.d, .int .i64 x.t, .int .i64 r])).run Tryd.prog w5.drew = .ok () (setBlock w5 B o).drew := E5 w5.drew rfl
    have y0 : w5.cell? ⟨w.heap.size, 0, none⟩ = some (.int .i64 x.k) := by rw [cell_of_row w5 _ _ _ _ _ v5]; rfl
    have y1 : w5.cell? ⟨w.heap.size, 1, none⟩ = some (.int .i64 x.p) := by rw [cell_of_row w5 _ _ _ _ _ v5]; rfl
    have y2 : w5.cell? ⟨w.heap.size, 2, none⟩ = some (.bool x.f) := by rw [cell_of_row w5 _ _ _ _ _ v5]; rfl
    have y3 : w5.cell? ⟨w.heap.size, 3, none⟩ = some (.int .i64 x.g) := by rw [cell_of_row w5 _ _ _ _ _ v5]; rfl
    have y4 : w5.cell? ⟨w.heap.size, 4, none⟩ = some (.slice A' x.m c') := by rw [cell_of_row w5 _ _ _ _ _ v5]; rfl
    have y5 : w5.cell? ⟨w.heap.size, 5, none⟩ = some (.int .i64 x.a) := by rw [cell_of_row w5 _ _ _ _ _ v5]; rfl
    have y6 : w5.cell? ⟨w.heap.size, 6, none⟩ = some (.int .i64 x.h) := by rw [cell_of_row w5 _ _ _ _ _ v5]; rfl
    have y7 : w5.cell? ⟨w.heap.size, 7, none⟩ = some (.int .i64 x.d) := by rw [cell_of_row w5 _ _ _ _ _ v5]; rfl
    have y8 : w5.cell? ⟨w.heap.size, 8, none⟩ = some (.int .i64 x.t) := by rw [cell_of_row w5 _ _ _ _ _ v5]; rfl
    have c5 := M5.e0
    have lt5 : Hid (B < w5.heap.size) := M5.lt.2
    replace K5 := Lib.hid K5.out
    replace M5 := Lib.hid M5
    replace v5 := Lib.hid v5
    replace v4 := Lib.hid v4
    replace k4 := Lib.hid k4
    replace ow4 := Lib.hid ow4
    replace nil' := Lib.hid nil'
    replace O5 := Lib.hid O5
    replace E5 := Lib.hid E5
    have fin : Hid (∀ W', W' = (setBlock w5 B o).drew → LMem W' b0 b1 bl B (E ++ [(x.at A' c', r)]) ∧ Req W' w.heap.size (x.at A' c') ∧ Fr (Foot8 bl B) w W') := fun W' hW' => by
      have n6 : ∀ k, k ≠ B → W'.heap[k]? = w5.heap[k]? := fun k hk => by rw [hW']; exact heap_setBlock_ne hk
      have b6 : W'.heap[B]? = some o := by rw [hW']; exact heap_setBlock lt5.out
      have F6 : Fr (Foot8 bl B) w W' := by rw [hW']; exact ((Fr.of K5.out).put (Or.inl (Or.inr rfl)) o).drew
      have rq6 : Req W' w.heap.size (x.at A' c') := own_blocks1 rq5.out fun g hg => n6 g (M5.out.apart rq5.out hg).2
      exact ⟨add_end M.out hl hm O5.out b6 (fun k hk hn => (n6 k hn).trans (Below.block K5.out k hk)) F6.size (own_base rq6 M.out.lo.2.2.2) ok5.out, rq6, F6⟩
    go_wp2_with fail
    rw [← hw5]
    replace hw5 := Lib.hid hw5
    clear x0 x4 g4 lx cC
    go_region
  all_goals
    clear e5a e5b y0 y1 y2 y3 y4 y5 y6 y7 y8 c5
    go_wp2
    go_ret
    exact ⟨rfl, A', c', fin.out _ rfl⟩
theorem padd_new {w : World} {b0 b1 bl : Nat} {D : Nat → Prop} {L : List (PodV × Int)} (h : LInv w b0 b1 bl D L) (x : PodV) (r : Int) (h1 : 1 ≤ r) (h4 : r ≤ 4) (hk : x.k ∉ keysE L) (hx : PodIs w x) (hm : x.m ≤ 1000) (hl : L.length < 1000) :
    Calls Tryd.prog 20 #[.pointer (some ⟨bl, 0, none⟩), x.val, .int .i64 r] w fun e w' => e = .returned (.bool true) ∧ LInv w' b0 b1 bl D (L ++ [(nm x, r)]) ∧ Fr D w w' := by
  obtain ⟨B, E, M, hp, rfl⟩ := h
  have el : E.length = L.length := by rw [← hp.length_eq, List.length_map]
  refine (padd_mem M x r h1 h4 (by rw [← keys_nm, (keys_perm hp).mem_iff]; exact hk) hx hm (by omega)).mono fun e w' ⟨he, A, c, M', _, F⟩ => ⟨he, ⟨B, _, M', ?_, rfl⟩, F⟩
  rw [List.map_append]
  exact hp.append_right _
/-- What a change of other blocks leaves of a lot. -/
theorem LMem.frame {w w' : World} {b0 b1 bl B : Nat} {E : List (PodV × Int)} (H : LMem w b0 b1 bl B E) {X : Nat → Prop} (f : Fr X w w') (h1 : ∀ k, Foot8 bl B k → ¬ X k) (h2 : ∀ y ∈ E, ∀ g, (Value.slice y.1.A y.1.m y.1.c).ownBlock = some g → ¬ X g) : LMem w' b0 b1 bl B E :=
  ⟨(f.block _ H.lt.1 (h1 _ (Or.inl rfl))).trans H.hl, H.map.of (f.block _ H.lt.2 (h1 _ (Or.inr rfl))), fun y hy => ⟨own_blocks1 (H.own y hy).1 fun g hg => f.block g ((H.own y hy).1.lt g hg).2 (h2 y hy g hg), (H.own y hy).2⟩, H.lim, H.small, H.lo.1, H.lo.2.1, H.lo.2.2.1, Nat.le_trans H.lo.2.2.2 f.size⟩
end Go.Proofs.YtpkpmoiekjhdnaaDoor
