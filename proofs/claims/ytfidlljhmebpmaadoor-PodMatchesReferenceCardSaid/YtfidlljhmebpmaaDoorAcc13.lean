/-
  The store: New, index, Get, Len. Conditions: at most 1000 pods, each with at most 1000 amounts.
-/
import Derived.Test.YtfidlljhmebpmaaDoorMem13
import Derived.Test.YtfidlljhmebpmaaDoorClone13
namespace Go.Proofs.YtfidlljhmebpmaaDoor.T13
open Go.RowKit Go.Sort Go.Lib V12

theorem own_base' {w : World} {b b' : Nat} {x : PodV} (h : Req w b x) (hb : b' ≤ b) : Req w b' x := own_base h hb
set_option maxRecDepth 100000 in
set_option maxHeartbeats 1000000 in
theorem pdnew0 (s : Int) (w : World) (hs : I64 s) : Calls Tryd.prog 8 #[.int .i64 s] w fun e w' => ∃ q t m, e = .returned (.pointer (some ⟨q, 0, none⟩)) ∧ ST w' w.heap.size s q t m none 0 0 (fun _ => zpod) ∧ Keep w w' := by
  have hN := Lib.hid (tbnew_fn s hs w)
  go_enter Tryd.func8, Tryd.ntmps8
  go_wp2_with fail
  refine hN.out.mono ?_
  rintro e w1 ⟨t, rfl, m, T, k, h1, h2⟩
  replace T := Lib.hid T
  replace k := Lib.hid k
  have h1 := Lib.hid h1
  have h2 := Lib.hid h2
  go_wp2
  go_ret
  have k2 := Keep.one w1 (.cells #[.slice none 0 0, .pointer (some ⟨t, 0, none⟩)] 61)
  exact ⟨_, t, m, rfl, ⟨heap_alloc_new _ _, T.out.keep k2, RowP.nil _ _ _, k.out.size, h1.out, h2.out, LOk.nil⟩, k.out.trans k2⟩
section
variable {w w' : World} {b0 : Nat} {s : Int} {q t m : Nat} {A : Option Addr} {c n : Nat} {P : Nat → PodV}
set_option maxHeartbeats 1000000 in
theorem pdindex_in (h : ST w b0 s q t m A c n P) {j : Nat} (hj : j < n) : Calls Tryd.prog 34 #[.pointer (some ⟨q, 0, none⟩), .int .i64 (P j).k] w fun e w' => e = .returned (.tuple #[.int .i64 j, .bool true]) ∧ w = w' := by
  have hG := Lib.hid (tbget_some h.tb (P j).k j (h.look_in hj))
  have c1 := h.c1
  clear h
  generalize (P j).k = id at *
  go_enter Tryd.func34, Tryd.ntmps34
  go_wp2_with (go_at_call 47; refine hG.out.mono ?_; rintro e w' ⟨rfl, rfl⟩)
  go_ret2
  exact ⟨rfl, rfl⟩
set_option maxHeartbeats 1000000 in
theorem pdindex_out (h : ST w b0 s q t m A c n P) {id : Int} (hk : id ∉ keys (lst P n)) : Calls Tryd.prog 34 #[.pointer (some ⟨q, 0, none⟩), .int .i64 id] w fun e w' => e = .returned (.tuple #[.int .i64 0, .bool false]) ∧ w = w' := by
  have hG := Lib.hid (tbget_none h.tb id (look_out hk))
  have c1 := h.c1
  clear h hk
  go_enter Tryd.func34, Tryd.ntmps34
  go_wp2_with (go_at_call 47; refine hG.out.mono ?_; rintro e w' ⟨rfl, rfl⟩)
  go_ret2
  exact ⟨rfl, rfl⟩
theorem pdlen_fn (h : ST w b0 s q t m A c n P) : Calls Tryd.prog 14 #[.pointer (some ⟨q, 0, none⟩)] w fun e w' => e = .returned (.int .i64 n) ∧ w = w' := by
  have c0 := h.c0
  clear h
  go_enter Tryd.func14, Tryd.ntmps14
  go_wp2
  go_ret
  exact ⟨rfl, rfl⟩
/-- A pod's place in the row. -/
theorem ST.at (h : ST w b0 s q t m A c n P) {j : Nat} (hj : j < n) : ∃ g, A = some ⟨g, 0, none⟩ ∧ Cel9 w g (0 + j * 9) (P j) ∧ Typ w g 32 ∧ (Value.slice A n c).ownBlock = some g := by
  obtain ⟨g, cap, e, _, _⟩ := h.rp.row.form (by omega)
  simp only [Value.slice.injEq] at e
  obtain ⟨rfl, _, rfl⟩ := e
  exact ⟨g, rfl, row_cel h.rp.row hj, h.tg rfl, rfl⟩
theorem ST.pod (h : ST w b0 s q t m A c n P) {j : Nat} (hj : j < n) : PodIs w (P j) := (h.rp.own j hj).is (h.rp.ok j hj)
set_option maxRecDepth 100000 in
set_option maxHeartbeats 4000000 in
theorem pdget_in (h : ST w b0 s q t m A c n P) {j : Nat} (hj : j < n) (hm : (P j).m ≤ 1000) : Calls Tryd.prog 15 #[.pointer (some ⟨q, 0, none⟩), .int .i64 (P j).k] w fun e w' => ∃ B d, e = .returned (.tuple #[((P j).at B d).val, .bool true]) ∧ Req w' w.heap.size ((P j).at B d) ∧ PodOk ((P j).at B d) ∧ Keep w w' := by
  obtain ⟨W, hW⟩ : ∃ W, W = w.alloc (.cells (podB zpod) 32) := ⟨_, rfl⟩
  have KW : Hid (Keep w W) := by rw [hW]; exact Keep.one _ _
  obtain ⟨b, hb⟩ : ∃ b, b = w.heap.size := ⟨_, rfl⟩
  have Y : Hid (W.heap[b]? = some (.cells (podB zpod) 32 (0, 0))) := by rw [hW, hb]; exact heap_alloc_new _ _
  have hsz : Hid (W.heap.size = b + 1) := by show _ = _; rw [hW, World.size_alloc, hb]
  have h1 := h.keep KW.out
  have hF := Lib.hid (pdindex_in h1 hj)
  have cC := pclone_fn (P j) W (h1.pod hj) hm
  have c0 := h1.c0
  obtain ⟨g, hA, X, _, _⟩ := h1.at hj
  subst hA
  have q1 := pods_at g 0 n c j hj
  obtain ⟨x, hx⟩ : ∃ x, x = P j := ⟨_, rfl⟩
  rw [← hx] at hF cC X ⊢
  obtain ⟨x0, x1, x2, x3, x4, x5, x6, x7, x8⟩ := X
  rw [Nat.zero_add] at x0 x1 x2 x3 x4 x5 x6 x7 x8 q1
  replace hx := Lib.hid hx
  have hbw : Hid (w.heap.size ≤ b) := by show _ ≤ _; omega
  unfold PodV.at PodV.val at cC ⊢
  replace cC := Lib.hid cC
  unfold podB zpod at hW
  clear h h1 hm
  go_enter Tryd.func15, Tryd.ntmps15
  go_wp2_with fail
  rw [← hW, ← hb]
  replace hW := Lib.hid hW
  replace hb := Lib.hid hb
  refine hF.out.mono ?_
  rintro e w1 ⟨rfl, rfl⟩
  go_wp2_with fail
  refine cC.out.mono ?_
  rintro e w1 ⟨B, d, rfl, R, ok, _, k⟩
  have Y1 := k.block Y.out
  obtain ⟨d0, d1, d2, d3, d4, d5, d6, d7, d8, g0⟩ := blk9 Y1
  unfold zpod at d0 d1 d2 d3 d4 d5 d6 d7 d8
  have y := x.at B d
  have B5 : Hid ((put9 w1 b (x.at B d)).heap[b]? = some (.cells (podB (x.at B d)) 32 (0, 0))) := put9_heap _ zpod Y1
  have K5 : Hid (Keep w (put9 w1 b (x.at B d))) := put9_keep _ (KW.out.trans k) hbw.out
  have R5 : Hid (Req (put9 w1 b (x.at B d)) w.heap.size (x.at B d)) := by
    refine own_base' (b := W.heap.size) ?_ KW.out.size
    refine own_blocks1 R fun g hg => put9_block _ ?_
    have := (R.lt g hg).1
    have := hsz.out
    omega
  have ok := Lib.hid ok
  clear R k Y1 x0 x1 x2 x3 x4 x5 x6 x7 x8 c0 q1
  go_wp2
  obtain ⟨e0, e1, e2, e3, e4, e5, e6, e7, e8, _⟩ := blk9 B5.out
  unfold put9 PodV.at at *
  refine bodyPost_ret (v := .tuple #[.agg #[.int .i64 x.k, .int .i64 x.p, .bool x.f, .int .i64 x.g, .slice B x.m d, .int .i64 x.a, .int .i64 x.h, .int .i64 x.d, .int .i64 x.t], .bool true]) (by simp [results, Tryd.results15, go_sem, e0, e1, e2, e3, e4, e5, e6, e7, e8]) rfl ⟨B, d, rfl, R5.out, ok.out, K5.out⟩
set_option maxRecDepth 100000 in
set_option maxHeartbeats 4000000 in
theorem pdget_out (h : ST w b0 s q t m A c n P) {id : Int} (hk : id ∉ keys (lst P n)) : Calls Tryd.prog 15 #[.pointer (some ⟨q, 0, none⟩), .int .i64 id] w fun e w' => e = .returned (.tuple #[zpod.val, .bool false]) ∧ Keep w w' := by
  obtain ⟨W, hW⟩ : ∃ W, W = w.alloc (.cells (podB zpod) 32) := ⟨_, rfl⟩
  have KW : Hid (Keep w W) := by rw [hW]; exact Keep.one _ _
  obtain ⟨b, hb⟩ : ∃ b, b = w.heap.size := ⟨_, rfl⟩
  have Y : W.heap[b]? = some (.cells (podB zpod) 32 (0, 0)) := by rw [hW, hb]; exact heap_alloc_new _ _
  have hF := Lib.hid (pdindex_out (h.keep KW.out) hk)
  have B5 : Hid ((put9 W b zpod).heap[b]? = some (.cells (podB zpod) 32 (0, 0))) := put9_heap _ zpod Y
  have K5 : Hid (Keep w (put9 W b zpod)) := put9_keep _ KW.out (by omega)
  obtain ⟨d0, d1, d2, d3, d4, d5, d6, d7, d8, g0⟩ := blk9 Y
  unfold zpod at d0 d1 d2 d3 d4 d5 d6 d7 d8
  unfold podB zpod at hW
  unfold PodV.val zpod
  replace Y := Lib.hid Y
  clear h hk
  go_enter Tryd.func15, Tryd.ntmps15
  go_wp2_with fail
  rw [← hW, ← hb]
  replace hW := Lib.hid hW
  replace hb := Lib.hid hb
  refine hF.out.mono ?_
  rintro e w1 ⟨rfl, rfl⟩
  go_wp2
  obtain ⟨e0, e1, e2, e3, e4, e5, e6, e7, e8, _⟩ := blk9 B5.out
  unfold put9 zpod at *
  refine bodyPost_ret (v := .tuple #[.agg #[.int .i64 0, .int .i64 0, .bool false, .int .i64 0, .slice none 0 0, .int .i64 0, .int .i64 0, .int .i64 0, .int .i64 0], .bool false]) (by simp [results, Tryd.results15, go_sem, e0, e1, e2, e3, e4, e5, e6, e7, e8]) rfl ⟨rfl, K5.out⟩
end
end Go.Proofs.YtfidlljhmebpmaaDoor.T13
