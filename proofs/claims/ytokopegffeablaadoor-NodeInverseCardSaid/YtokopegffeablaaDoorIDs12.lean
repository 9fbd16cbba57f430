/-
  The ids of a table, in ascending order. No condition.
-/
import Derived.Test.YtokopegffeablaaDoorTab12
import Derived.Test.YtokopegffeablaaDoorKeys12
import Derived.Test.YtokopegffeablaaDoorShelf
import Derived.Lib.SlKeysI
import Derived.Maps.AppendAt
import Derived.RangeFuncBox
namespace Go.Proofs.YtokopegffeablaaDoor.T12
open Go.RowKit Go.Maps Go.Sort Go.Shelf

theorem Tryd.infoI12 : (Tryd.prog.info? 3).map (fun i => (i.zero, i.size, i.bytes)) = some (some (.int .i64 0), 1, 8) := by kernel_rfl
attribute [local go_sem] Oper.semAt_some
set_option maxRecDepth 100000 in
set_option maxHeartbeats 4000000 in
theorem tnids_fn {w : World} {s : Int} {p m : Nat} {l : List (Int × Value)} (h : TMN w s p m l) (hl : l.length ≤ 1000) :
    Calls Tryd.prog 32 #[.pointer (some ⟨p, 0, none⟩)] w fun e w' => ∃ v, e = .returned v ∧ w'.ownsRow w.heap.size 3 1 v l.length (((l.map (·.1)).mergeSort fun x y => decide (x ≤ y)).map encZ) ∧ Below w.heap.size w w' := by
  refine (callsIn_wide (n := 6)).1 ?_
  have h1 : 1 ≤ 6 := by omega
  obtain ⟨i0, hi0, hz0, hz1, hz2⟩ := info_parts Tryd.infoI12
  obtain ⟨wm, hmk, hown, hgm⟩ := Go.run_makeSlice_owned (P := Tryd.prog) (w := w) w.heap.size 38 3 i0 _ 1 Tryd.underlying38 hi0 hz0 hz1 .i64 .i64 l.length (by omega) (by rw [hz2]; omega) (by unfold maxLen; omega) (Nat.le_refl _)
  have km : Keep w wm := keep_grown (Keep.refl w) hgm (fun g h => by cases h)
  obtain ⟨g, hg⟩ : ∃ g, g = w.heap.size := ⟨_, rfl⟩
  rw [← hg] at hmk hown
  have c1 := h.e1
  have c1m : (wm.alloc (.cells #[.slice (some ⟨g, 0, none⟩) 0 l.length] 38)).cell? ⟨p, 1, none⟩ = some (.map (some m)) := (Keep.one _ _).cell (km.cell c1)
  have h2 := h.keep km
  replace hg := Lib.hid hg
  have hF : Fence.wide.fn 49 := trivial
  have hF1 : Fence.wide.fn 43 := trivial
  have hF2 : Fence.wide.fn 44 := trivial
  have hF3 : Fence.wide.fn 45 := trivial
  refine callsIn_of_wp_marks Tryd.func32 rfl trivial ?_ rfl
  simp only [Tryd.ntmps32, List.size_toArray, List.length_cons, List.length_nil, Nat.reduceAdd, Nat.reduceSub, Array.replicate_succ, Array.replicate_zero, List.push_toArray, List.append_toArray, List.nil_append, List.cons_append]
  gi_wp2_with (first
    | (gi_at_call 43; refine (callsIn_wide.2 (tnlen_fn h)).mono ?_; rintro e w' ⟨rfl, rfl⟩)
    | (gi_at_call 44; refine (keys_in Fence.wide _ trivial rfl _ _).mono ?_; rintro e w' ⟨rfl, rfl⟩))
  have bO := Boxed.new wm 38 (.slice (some ⟨g, 0, none⟩) 0 l.length)
  have hsm := km.size
  have cM := (Boxed.new (wm.alloc (.cells #[.slice (some ⟨g, 0, none⟩) 0 l.length] 38)) 65 (.map (some m))).cell
  rw [World.size_alloc] at cM
  have hB0 : Below w.heap.size w ((wm.alloc (.cells #[.slice (some ⟨g, 0, none⟩) 0 l.length] 38)).alloc (.cells #[.map (some m)] 65)) := (km.alloc _).alloc _
  have hm0 : MV.Is ((wm.alloc (.cells #[.slice (some ⟨g, 0, none⟩) 0 l.length] 38)).alloc (.cells #[.map (some m)] 65)) m l := (h.keep ((km.alloc _).alloc _)).mp
  have hown2 := hown
  rw [hg.out] at hown2
  refine wpIn_rangeFunc_ownF (α := Int) rfl h1 (gf := 49) (lb := #[.pointer (some ⟨wm.heap.size + 1, 0, none⟩)]) rfl hF (enters_of Tryd.func49 (by kernel_rfl) rfl)
    (keys_stops Fence.wide 5 hF rfl (by omega) (wm.heap.size + 1) m l _ (by simp) cM hm0) walksK_t walksK_b (Below.refl _ _) (fun _ => rfl)
    (fun pre W => (∃ v, Boxed W wm.heap.size 38 v ∧ W.ownsRow w.heap.size 3 1 v pre.length (pre.map encZ) ∧ True) ∧ Below w.heap.size w W)
    (fun _ _ _ => False)
    (OwnFrom.and (Own.from (holdsRow_own w.heap.size wm.heap.size 38 3 1 (fun pre : List Int => pre.length) (fun pre => pre.map encZ) (fun _ _ => True)) _) (ownFrom_below (Nat.le_refl _) (by simp; omega)))
    (fun _ _ _ _ _ hs _ _ => hs)
    ⟨⟨_, bO.alloc _, by rw [← hg.out]; exact (hown.alloc _).alloc _, trivial⟩, hB0⟩
    (fun x => { tmps := #[.pointer (some ⟨p, 0, none⟩), undef, .slice none 0 0, .pointer (some ⟨wm.heap.size, 0, none⟩), .int .i64 x, .pointer (some ⟨p, 0, none⟩), .bool false, .pointer (some ⟨p, 0, none⟩), .int .i64 l.length,
      .slice (some ⟨g, 0, none⟩) 0 l.length, .pointer (some ⟨p, 0, none⟩), .pointer (some ⟨p, 0, none⟩), .pointer (some ⟨p, 1, none⟩), .map (some m), .func (.func 49) #[] #[.pointer (some ⟨wm.heap.size + 1, 0, none⟩)], .int .i64 x, undef, undef, undef, undef, undef, undef, undef], defers := [] }) ?assign ?body ?done ?stop
  case assign =>
    intro l x W K hK
    gi_wp2
    exact hK
  case body =>
    rintro l2 pre x W ⟨⟨v, hv, hrow, _⟩, hB⟩ hlt
    have hc := hv.cell
    gi_wp2_with (gi_at_builtin; refine wpListIn_append_own _ rfl _ _ 38 rfl w.heap.size 3 i0 (.int .i64 0) 1 8 Tryd.underlying38 hi0 hz0 hz1 hz2 rfl (by decide) _ _ _ rfl (hrow.alloc _) ⟨W.heap.size, 0, none⟩ 1 1 [.int .i64 x] rfl rfl (cell_one_new _ _ _) (by simp [Value.oneCell']) (by unfold maxLen; omega) (by omega) (by have := hB.size; simp; omega) ?_; intro v' w1 hown' hgrow _; obtain ⟨g', cap', rfl⟩ := ownsRow_succ hown'; obtain ⟨hv1, hv2, hr2, hk2, hb2⟩ := hv.appended (by decide) hrow hB.size hsm hown' hgrow; have hc1 := hv1.cell; have hf1 := hv1.frozen)
    exact ⟨hk2, hk2.walks, ⟨_, hv2, by simpa using hr2, trivial⟩, hB.trans hb2⟩
  case done =>
    rintro D ys W hD hS ⟨⟨v, hv, hrow, _⟩, hB⟩ hK
    have hc := hv.cell
    have hDl : w.heap.size ≤ D := by simp at hD; omega
    have hpl := hS.length_eq
    rw [List.length_map] at hpl
    have hms : ys.mergeSort (fun x y => decide (x ≤ y)) = (l.map (·.1)).mergeSort (fun x y => decide (x ≤ y)) := mergeSort_of_perm_i hS
    replace hpl := Lib.hid hpl
    replace hms := Lib.hid hms
    rcases hrow.2 with ⟨rfl, hz⟩ | ⟨gb, cap, cur, rfl, hbase, hgb, r1, r2, r3, r4⟩
    · have hss : ys = [] := List.eq_nil_of_length_eq_zero hz
      subst hss
      have cS := callsIn_wide (n := 5) |>.2 (Tryd.slices_Sort_int_none none 0 W)
      gi_wp2_with (gi_at_call 45; refine cS.mono ?_; rintro e w' ⟨rfl, rfl⟩)
      refine ⟨by simp, .inl ⟨_, _, rfl, run_takeDeferred hK, ?_⟩⟩
      exact ⟨_, results_tmp rfl _ _ _, _, rfl, by rw [← hpl.out, ← hms.out]; exact ownsRow_putObj (by simpa using hrow) _ hK rfl, hB.trans (belowK_b (w := w) (Nat.le_refl _) _ D _ _ hDl hK rfl rfl)⟩
    · have hH : Holds (Value.int .i64) W gb 0 ys.toArray := holds_of_block_i hgb (by simpa using r4)
      have hgl : gb < W.heap.size := (Array.getElem?_eq_some_iff.1 hgb).1
      have cS := callsIn_wide (n := 5) |>.2 (Tryd.slices_Sort_int gb 0 cap ys W hH hgl (by have := hpl.out; omega))
      have hor := fun nn os => ownsRow_sorted_i (n := nn) (os := os) (ts := ys.mergeSort fun x y => decide (x ≤ y)) (by simp) hbase hgb r1 r2 r3
      have hgr := fun nn os => grownBy_sorted_i (w := W) (g := gb) (n := nn) (os := os) (ys.mergeSort fun x y => decide (x ≤ y)).toArray
      have hne := hv.not_row (by decide) hrow
      have cS2 : CallsIn Fence.wide 5 Tryd.prog 45 #[.slice (some ⟨gb, 0, none⟩) ys.length cap] W fun e w' => e = .returned (.tuple #[]) ∧ w'.ownsRow w.heap.size 3 1 (.slice (some ⟨gb, 0, none⟩) ys.length cap) ys.length ((ys.mergeSort fun x y => decide (x ≤ y)).map encZ) ∧
          Boxed w' wm.heap.size 38 (.slice (some ⟨gb, 0, none⟩) ys.length cap) ∧ w'.heap[D]? = some (.deferred (some [])) ∧ Below w.heap.size w w' := cS.mono (by
        rintro e w' ⟨rfl, nn, os, rfl⟩
        exact ⟨rfl, hor nn os, hv.kept (hgr nn os) hne, ((hgr nn os).block D (Array.getElem?_eq_some_iff.1 hK).1 (by intro e; cases e; rw [hK] at hgb; cases hgb)).trans hK, hB.grown (hgr nn os) hB.size (fun j hj => by cases hj; exact hbase)⟩)
      replace cS2 := Lib.hid cS2
      clear hor hgr cS hH hv hrow hgb r1 r2 r3 r4 hK hB hne
      gi_wp2_with (gi_at_call 45; refine cS2.out.mono ?_; rintro e w' ⟨rfl, hor, hbx, hKs, hBs⟩; have hcs2 := hbx.cell)
      refine ⟨by simp, .inl ⟨_, _, rfl, run_takeDeferred hKs, ?_⟩⟩
      exact ⟨_, results_tmp rfl _ _ _, _, rfl, by rw [← hpl.out, ← hms.out]; exact ownsRow_putObj hor _ hKs rfl, hBs.trans (belowK_b (w := w) (Nat.le_refl _) _ D _ _ hDl hKs rfl rfl)⟩
  case stop =>
    rintro D c pre W _ _ h _
    exact h.elim
end Go.Proofs.YtokopegffeablaaDoor.T12
