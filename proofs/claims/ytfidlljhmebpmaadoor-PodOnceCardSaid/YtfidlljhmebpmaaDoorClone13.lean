/-
  A copy of a pod. Condition: at most 1048576 amounts.
-/
import Derived.Test.YtfidlljhmebpmaaDoorPod13
namespace Go.Proofs.YtfidlljhmebpmaaDoor.T13
open Go.RowKit Go.Sort Go.Lib V12

theorem Tryd.infoC13 : (Tryd.prog.info? 2).map (fun i => (i.zero, i.size, i.bytes)) = some (some (.int .i64 0), 1, 8) := by kernel_rfl
theorem Tryd.eqNilC (w : World) : (binOp .eql 30 (.slice none 0 0) (.slice none 0 0)).run Tryd.prog w = .ok (.bool true) w := by kernel_rfl
theorem Tryd.eqSomeC (a : Addr) (n c : Nat) (w : World) : (binOp .eql 30 (.slice (some a) n c) (.slice none 0 0)).run Tryd.prog w = .ok (.bool false) w := by kernel_rfl
set_option maxHeartbeats 1000000 in
theorem sclone_own (A : Option Addr) (n c : Nat) (Z : Nat → Int) (w : World) (hA : Rd w A n Z) (h0 : A = none → n = 0 ∧ c = 0) (hn : n ≤ 1048576) :
    Calls Tryd.prog 48 #[.slice A n c] w fun e w' => ∃ A' cap, e = .returned (.slice A' n cap) ∧ Keep w w' ∧ w'.ownsRow w.heap.size 2 1 (.slice A' n cap) n (rowL n Z) := by
  cases A with
  | none =>
    obtain ⟨rfl, rfl⟩ := h0 rfl
    clear h0 hA
    have q1 := Tryd.eqNilC
    go_enter Tryd.func48, Tryd.ntmps48
    go_wp2
    go_ret
    exact ⟨none, 0, rfl, Keep.refl _, World.ownsRow_nil _ _ _ _⟩
  | some a =>
    clear h0
    obtain ⟨i0, hi0, hz0, hz1, hz2⟩ := info_parts Tryd.infoC13
    have hnew := news_of (hA.keep (Keep.one w (.cells #[] 2)))
    replace hnew := Lib.hid hnew
    have hown := World.ownsRow_made (base := w.heap.size) (e := 2) (size := 1) w #[] 0 (Nat.le_refl _) (Nat.zero_le _) rfl
    clear hA
    have q1 := Tryd.eqSomeC
    go_enter Tryd.func48, Tryd.ntmps48
    go_wp2_with (at_builtin; refine wpList_append_own _ rfl _ _ 30 rfl w.heap.size 2 i0 (.int .i64 0) 1 8 Tryd.underlying30 hi0 hz0 hz1 hz2 rfl (by decide) _ _ _ rfl hown a n c (rowL n Z) rfl (by simp [rowL]) hnew.out (rowL_one n Z) (by unfold maxLen; omega) (by omega) (by simp) ?_; intro v' w2 hown2 hgrow hnil)
    go_ret
    obtain ⟨A', cap, rfl, _⟩ := own_form hown2
    simp only [Nat.zero_add, List.nil_append] at hown2
    exact ⟨A', cap, by simp, keep_grown (Keep.one w _) hgrow (fun q hq => (hown.lt q hq).1), hown2⟩

set_option maxRecDepth 100000 in
set_option maxHeartbeats 4000000 in
theorem pclone0 (x : PodV) (w : World) (hx : PodIs w x) (hm : x.m ≤ 1048576) :
    Calls Tryd.prog 35 #[x.val] w fun e w' => ∃ A c, e = .returned (x.at A c).val ∧ Keep w w' ∧ PodIs w' (x.at A c) ∧ w'.ownsRow w.heap.size 2 1 (.slice A x.m c) x.m (rowL x.m x.Z) := by
  have hx := Lib.hid hx
  have hm := Lib.hid hm
  unfold PodV.val PodV.at
  go_enter Tryd.func35, Tryd.ntmps35
  go_wp2_with fail
  refine (sclone_own x.A x.m x.c x.Z _ (hx.out.rd.keep ?_) hx.out.nil hm.out).mono ?_
  · repeat (first | exact Keep.refl _ | apply Keep.alloc)
  rintro e w1 ⟨A', cap, rfl, k1, hown⟩
  obtain ⟨W, hW⟩ : ∃ W, W = (w.alloc (.cells #[.int .i64 x.k, .int .i64 x.p, .bool x.f, .int .i64 x.g, .slice x.A x.m x.c, .int .i64 x.a, .int .i64 x.h, .int .i64 x.d, .int .i64 x.t] 32)).alloc (.cells #[.int .i64 0, .int .i64 0, .bool false, .int .i64 0, .slice none 0 0, .int .i64 0, .int .i64 0, .int .i64 0, .int .i64 0] 32) := ⟨_, rfl⟩
  rw [← hW] at k1 hown
  have hsz : W.heap.size = w.heap.size + 1 + 1 := by rw [hW, World.size_alloc, World.size_alloc]
  have hb1 : W.heap[w.heap.size]? = some (.cells #[.int .i64 x.k, .int .i64 x.p, .bool x.f, .int .i64 x.g, .slice x.A x.m x.c, .int .i64 x.a, .int .i64 x.h, .int .i64 x.d, .int .i64 x.t] 32 (0, 0)) := by
    rw [hW]; exact (Keep.one _ _).block (heap_alloc_new w _)
  have hb2 : W.heap[w.heap.size + 1]? = some (.cells #[.int .i64 0, .int .i64 0, .bool false, .int .i64 0, .slice none 0 0, .int .i64 0, .int .i64 0, .int .i64 0, .int .i64 0] 32 (0, 0)) := by
    rw [hW, ← World.size_alloc w (.cells #[.int .i64 x.k, .int .i64 x.p, .bool x.f, .int .i64 x.g, .slice x.A x.m x.c, .int .i64 x.a, .int .i64 x.h, .int .i64 x.d, .int .i64 x.t] 32)]; exact heap_alloc_new _ _
  have K1 : Hid (Keep w w1) := by
    refine Keep.trans ?_ k1
    rw [hW]
    exact ((Keep.refl w).alloc _).alloc _
  replace hb1 := k1.block hb1
  replace hb2 := k1.block hb2
  have lt1 : w.heap.size + 1 + 1 ≤ w1.heap.size := by rw [← hsz]; exact k1.size
  rw [hsz] at hown
  replace hown := Lib.hid hown
  clear k1 hW hsz
  have p0 : w1.cell? ⟨w.heap.size, 0, none⟩ = some (.int .i64 x.k) := by rw [cell_of_row w1 _ _ _ _ _ hb1]; rfl
  have p1 : w1.cell? ⟨w.heap.size, 1, none⟩ = some (.int .i64 x.p) := by rw [cell_of_row w1 _ _ _ _ _ hb1]; rfl
  have p2 : w1.cell? ⟨w.heap.size, 2, none⟩ = some (.bool x.f) := by rw [cell_of_row w1 _ _ _ _ _ hb1]; rfl
  have p3 : w1.cell? ⟨w.heap.size, 3, none⟩ = some (.int .i64 x.g) := by rw [cell_of_row w1 _ _ _ _ _ hb1]; rfl
  have p4 : w1.cell? ⟨w.heap.size, 4, none⟩ = some (.slice x.A x.m x.c) := by rw [cell_of_row w1 _ _ _ _ _ hb1]; rfl
  have p5 : w1.cell? ⟨w.heap.size, 5, none⟩ = some (.int .i64 x.a) := by rw [cell_of_row w1 _ _ _ _ _ hb1]; rfl
  have p6 : w1.cell? ⟨w.heap.size, 6, none⟩ = some (.int .i64 x.h) := by rw [cell_of_row w1 _ _ _ _ _ hb1]; rfl
  have p7 : w1.cell? ⟨w.heap.size, 7, none⟩ = some (.int .i64 x.d) := by rw [cell_of_row w1 _ _ _ _ _ hb1]; rfl
  have p8 : w1.cell? ⟨w.heap.size, 8, none⟩ = some (.int .i64 x.t) := by rw [cell_of_row w1 _ _ _ _ _ hb1]; rfl
  have f4 : w1.frozen? ⟨w.heap.size, 4, none⟩ = false := frozen_of_row w1 _ _ _ _ hb1
  have r0 : w1.cell? ⟨w.heap.size + 1, 0, none⟩ = some (.int .i64 0) := by rw [cell_of_row w1 _ _ _ _ _ hb2]; rfl
  have r1 : w1.cell? ⟨w.heap.size + 1, 1, none⟩ = some (.int .i64 0) := by rw [cell_of_row w1 _ _ _ _ _ hb2]; rfl
  have r2 : w1.cell? ⟨w.heap.size + 1, 2, none⟩ = some (.bool false) := by rw [cell_of_row w1 _ _ _ _ _ hb2]; rfl
  have r3 : w1.cell? ⟨w.heap.size + 1, 3, none⟩ = some (.int .i64 0) := by rw [cell_of_row w1 _ _ _ _ _ hb2]; rfl
  have r4 : w1.cell? ⟨w.heap.size + 1, 4, none⟩ = some (.slice none 0 0) := by rw [cell_of_row w1 _ _ _ _ _ hb2]; rfl
  have r5 : w1.cell? ⟨w.heap.size + 1, 5, none⟩ = some (.int .i64 0) := by rw [cell_of_row w1 _ _ _ _ _ hb2]; rfl
  have r6 : w1.cell? ⟨w.heap.size + 1, 6, none⟩ = some (.int .i64 0) := by rw [cell_of_row w1 _ _ _ _ _ hb2]; rfl
  have r7 : w1.cell? ⟨w.heap.size + 1, 7, none⟩ = some (.int .i64 0) := by rw [cell_of_row w1 _ _ _ _ _ hb2]; rfl
  have r8 : w1.cell? ⟨w.heap.size + 1, 8, none⟩ = some (.int .i64 0) := by rw [cell_of_row w1 _ _ _ _ _ hb2]; rfl
  have g0 : w1.frozen? ⟨w.heap.size + 1, 0, none⟩ = false := frozen_of_row w1 _ _ _ _ hb2
  have g1 : w1.frozen? ⟨w.heap.size + 1, 1, none⟩ = false := frozen_of_row w1 _ _ _ _ hb2
  have g2 : w1.frozen? ⟨w.heap.size + 1, 2, none⟩ = false := frozen_of_row w1 _ _ _ _ hb2
  have g3 : w1.frozen? ⟨w.heap.size + 1, 3, none⟩ = false := frozen_of_row w1 _ _ _ _ hb2
  have g4 : w1.frozen? ⟨w.heap.size + 1, 4, none⟩ = false := frozen_of_row w1 _ _ _ _ hb2
  have g5 : w1.frozen? ⟨w.heap.size + 1, 5, none⟩ = false := frozen_of_row w1 _ _ _ _ hb2
  have g6 : w1.frozen? ⟨w.heap.size + 1, 6, none⟩ = false := frozen_of_row w1 _ _ _ _ hb2
  have g7 : w1.frozen? ⟨w.heap.size + 1, 7, none⟩ = false := frozen_of_row w1 _ _ _ _ hb2
  have g8 : w1.frozen? ⟨w.heap.size + 1, 8, none⟩ = false := frozen_of_row w1 _ _ _ _ hb2
  clear hb1 hb2
  replace lt1 := Lib.hid lt1
  go_wp2
  refine bodyPost_ret (v := .agg #[.int .i64 x.k, .int .i64 x.p, .bool x.f, .int .i64 x.g, .slice A' x.m cap, .int .i64 x.a, .int .i64 x.h, .int .i64 x.d, .int .i64 x.t]) (by simp [results, Tryd.results35, go_sem, *]) rfl ⟨A', cap, rfl, ?_, ?_⟩
  · have K1 := K1.out
    repeat (refine Keep.set ?_ (by simp) _)
    exact K1
  · have kk : Hid (w.heap.size + 1 + 1 ≤ w1.heap.size) := lt1
    have own2 := hown.out
    have nil2 : A' = none → x.m = 0 ∧ cap = 0 := fun h => by
      obtain ⟨B, c2, e, h0⟩ := own_form own2
      simp only [Value.slice.injEq] at e
      obtain ⟨rfl, _, rfl⟩ := e
      exact h0 h
    refine (fun own3 => ⟨⟨rd_own (cap := cap) own3 hx.out.rd.small hx.out.rd.range, nil2, hx.out.rng⟩, own_base own3 (by omega)⟩) (?_ : World.ownsRow _ (w.heap.size + 1 + 1) 2 1 (.slice A' x.m cap) x.m (rowL x.m x.Z))
    repeat (refine ownsRow_setCell_below ?_ (by first | omega | (simp; omega) | simp) _)
    exact own2
/-- The pod's copy, as the laws want it. -/
theorem pclone_fn (x : PodV) (w : World) (hx : PodIs w x) (hm : x.m ≤ 1000) :
    Calls Tryd.prog 35 #[x.val] w fun e w' => ∃ A c, e = .returned (x.at A c).val ∧ Req w' w.heap.size (x.at A c) ∧ PodOk (x.at A c) ∧ PodIs w' (x.at A c) ∧ Keep w w' :=
  (pclone0 x w hx (by omega)).mono fun _ _ ⟨A, c, he, k, i, o⟩ => ⟨A, c, he, o, i.ok, i, k⟩
end Go.Proofs.YtfidlljhmebpmaaDoor.T13
