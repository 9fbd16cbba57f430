/-
  The store: Apply where there is no such pod, or the event does not apply; the nil store's. No condition.
-/
import Derived.Test.YtfidlljhmebpmaaDoorFld13
namespace Go.Proofs.YtfidlljhmebpmaaDoor.T13
open Go.RowKit Go.Sort Go.Lib V12

section
variable {w w' : World} {b0 : Nat} {s : Int} {q t m : Nat} {A : Option Addr} {c n : Nat} {P : Nat → PodV}
set_option maxRecDepth 100000 in
set_option maxHeartbeats 4000000 in
theorem pdapply_out (h : ST w b0 s q t m A c n P) {id : Int} (hk : id ∉ keys (lst P n)) (ev nd dl : Int) : Calls Tryd.prog 24 #[.pointer (some ⟨q, 0, none⟩), .int .i64 id, .int .i64 ev, .int .i64 nd, .int .i64 dl] w fun e w' => e = .returned (.tuple #[zpod.val, flt 5 0]) ∧ Keep w w' := by
  obtain ⟨W, hW⟩ : ∃ W, W = w.alloc (.cells (podB zpod) 32) := ⟨_, rfl⟩
  have KW : Hid (Keep w W) := by rw [hW]; exact Keep.one _ _
  obtain ⟨b, hb⟩ : ∃ b, b = w.heap.size := ⟨_, rfl⟩
  have Y : W.heap[b]? = some (.cells (podB zpod) 32 (0, 0)) := by rw [hW, hb]; exact heap_alloc_new _ _
  have hF := Lib.hid (pdindex_out (h.keep KW.out) hk)
  have hE := Lib.hid (fun W => new_fn 5 0 W)
  have B5 : Hid ((put9 W b zpod).heap[b]? = some (.cells (podB zpod) 32 (0, 0))) := put9_heap _ zpod Y
  have K5 : Hid (Keep w (put9 W b zpod)) := put9_keep _ KW.out (by omega)
  obtain ⟨d0, d1, d2, d3, d4, d5, d6, d7, d8, g0⟩ := blk9 Y
  unfold zpod at d0 d1 d2 d3 d4 d5 d6 d7 d8
  unfold podB zpod at hW
  unfold PodV.val zpod flt
  unfold Base.val at *
  replace Y := Lib.hid Y
  clear h hk
  go_enter Tryd.func24, Tryd.ntmps24
  go_wp2_with fail
  rw [← hW, ← hb]
  replace hW := Lib.hid hW
  replace hb := Lib.hid hb
  refine hF.out.mono ?_
  rintro e w1 ⟨rfl, rfl⟩
  go_wp2_with fail
  refine (hE.out _).mono ?_
  rintro e w1 ⟨rfl, rfl⟩
  go_wp2
  obtain ⟨e0, e1, e2, e3, e4, e5, e6, e7, e8, _⟩ := blk9 B5.out
  unfold put9 zpod at *
  refine bodyPost_ret (v := .tuple #[.agg #[.int .i64 0, .int .i64 0, .bool false, .int .i64 0, .slice none 0 0, .int .i64 0, .int .i64 0, .int .i64 0, .int .i64 0], .iface 88 (.agg #[.int .i64 5, .int .i64 0])]) (by simp [results, Tryd.results24, go_sem, e0, e1, e2, e3, e4, e5, e6, e7, e8]) rfl ⟨rfl, K5.out⟩
set_option maxRecDepth 100000 in
set_option maxHeartbeats 4000000 in
theorem pdapply_bad (h : ST w b0 s q t m A c n P) {j : Nat} (hj : j < n) (ev nd dl : Int) (hx : nx (P j).h ev = 0) : Calls Tryd.prog 24 #[.pointer (some ⟨q, 0, none⟩), .int .i64 (P j).k, .int .i64 ev, .int .i64 nd, .int .i64 dl] w fun e w' => e = .returned (.tuple #[zpod.val, flt 8 0]) ∧ Keep w w' := by
  obtain ⟨W, hW⟩ : ∃ W, W = w.alloc (.cells (podB zpod) 32) := ⟨_, rfl⟩
  have KW : Hid (Keep w W) := by rw [hW]; exact Keep.one _ _
  obtain ⟨b, hb⟩ : ∃ b, b = w.heap.size := ⟨_, rfl⟩
  have Y : Hid (W.heap[b]? = some (.cells (podB zpod) 32 (0, 0))) := by show _ = _; rw [hW, hb]; exact heap_alloc_new _ _
  have h1 := h.keep KW.out
  have hF := Lib.hid (pdindex_in h1 hj)
  have hN := Lib.hid (fun W => pdnext_fn (P j).h ev W)
  have hE := Lib.hid (fun W => new_fn 8 0 W)
  have c0 := h1.c0
  obtain ⟨g, hA, X, _, hown⟩ := h1.at hj
  subst hA
  have q1 := pods_at g 0 n c j hj
  obtain ⟨x, hxx⟩ : ∃ x, x = P j := ⟨_, rfl⟩
  rw [← hxx] at hF hN X hx ⊢
  have x6 := X.e6
  rw [Nat.zero_add] at x6 q1
  have hd : decide (nx x.h ev ≠ 0) = false := decide_eq_false (not_not_intro hx)
  rw [hd, hx] at hN
  have hbw : Hid (w.heap.size ≤ b) := by show _ ≤ _; omega
  replace hxx := Lib.hid hxx
  unfold podB zpod at hW
  unfold PodV.val zpod flt
  unfold Base.val at *
  clear h h1 hx hd X
  go_enter Tryd.func24, Tryd.ntmps24
  go_wp2_with fail
  rw [← hW, ← hb]
  replace hW := Lib.hid hW
  replace hb := Lib.hid hb
  refine hF.out.mono ?_
  rintro e w1 ⟨rfl, rfl⟩
  go_wp2_with fail
  refine (hN.out _).mono ?_
  rintro e w1 ⟨rfl, k1⟩
  have Y1 := k1.block Y.out
  have B5 : Hid ((put9 w1 b zpod).heap[b]? = some (.cells (podB zpod) 32 (0, 0))) := put9_heap _ zpod Y1
  have K5 : Hid (Keep w (put9 w1 b zpod)) := put9_keep _ (KW.out.trans k1) hbw.out
  obtain ⟨d0, d1, d2, d3, d4, d5, d6, d7, d8, g0⟩ := blk9 Y1
  unfold zpod at d0 d1 d2 d3 d4 d5 d6 d7 d8
  clear x6 c0 q1 k1 Y1
  go_wp2_with fail
  refine (hE.out _).mono ?_
  rintro e w2 ⟨rfl, rfl⟩
  go_wp2
  obtain ⟨e0, e1, e2, e3, e4, e5, e6, e7, e8, _⟩ := blk9 B5.out
  unfold put9 zpod at *
  refine bodyPost_ret (v := .tuple #[.agg #[.int .i64 0, .int .i64 0, .bool false, .int .i64 0, .slice none 0 0, .int .i64 0, .int .i64 0, .int .i64 0, .int .i64 0], .iface 88 (.agg #[.int .i64 8, .int .i64 0])]) (by simp [results, Tryd.results24, go_sem, e0, e1, e2, e3, e4, e5, e6, e7, e8]) rfl ⟨rfl, K5.out⟩
end
set_option maxRecDepth 100000 in
set_option maxHeartbeats 4000000 in
theorem pdsubmit_nil (x : PodV) (w : World) : Calls Tryd.prog 23 #[.pointer none, x.val] w fun e w' => e = .returned (.tuple #[zpod.val, flt 5 0]) ∧ Keep w w' := by
  obtain ⟨W0, hW0⟩ : ∃ W0, W0 = w.alloc (.cells (podB x) 32) := ⟨_, rfl⟩
  obtain ⟨W, hW⟩ : ∃ W, W = W0.alloc (.cells (podB zpod) 32) := ⟨_, rfl⟩
  have KW : Hid (Keep w W) := by rw [hW, hW0]; exact (Keep.one _ _).alloc _
  obtain ⟨b, hb⟩ : ∃ b, b = w.heap.size + 1 := ⟨_, rfl⟩
  have hb0 : W0.heap.size = b := by rw [hW0, World.size_alloc, hb]
  have Y : W.heap[b]? = some (.cells (podB zpod) 32 (0, 0)) := by rw [hW, ← hb0]; exact heap_alloc_new _ _
  have hE := Lib.hid (fun W => new_fn 5 0 W)
  have B5 : Hid ((put9 W b zpod).heap[b]? = some (.cells (podB zpod) 32 (0, 0))) := put9_heap _ zpod Y
  have K5 : Hid (Keep w (put9 W b zpod)) := put9_keep _ KW.out (by omega)
  obtain ⟨d0, d1, d2, d3, d4, d5, d6, d7, d8, g0⟩ := blk9 Y
  unfold zpod at d0 d1 d2 d3 d4 d5 d6 d7 d8
  unfold podB at hW hW0
  unfold zpod at hW
  unfold PodV.val zpod flt
  unfold Base.val at *
  replace Y := Lib.hid Y
  go_enter Tryd.func23, Tryd.ntmps23
  go_wp2_with fail
  rw [← hW0, ← hW, ← hb]
  replace hW := Lib.hid hW
  replace hW0 := Lib.hid hW0
  replace hb := Lib.hid hb
  replace hb0 := Lib.hid hb0
  refine (hE.out _).mono ?_
  rintro e w2 ⟨rfl, rfl⟩
  go_wp2
  obtain ⟨e0, e1, e2, e3, e4, e5, e6, e7, e8, _⟩ := blk9 B5.out
  unfold put9 zpod at *
  refine bodyPost_ret (v := .tuple #[.agg #[.int .i64 0, .int .i64 0, .bool false, .int .i64 0, .slice none 0 0, .int .i64 0, .int .i64 0, .int .i64 0, .int .i64 0], .iface 88 (.agg #[.int .i64 5, .int .i64 0])]) (by simp [results, Tryd.results23, go_sem, e0, e1, e2, e3, e4, e5, e6, e7, e8]) rfl ⟨rfl, K5.out⟩
end Go.Proofs.YtfidlljhmebpmaaDoor.T13
