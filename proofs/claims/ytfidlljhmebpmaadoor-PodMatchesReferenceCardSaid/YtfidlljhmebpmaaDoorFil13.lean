/-
  The store: All, On, With, Count; All of the nil store. Conditions: at most 1000 pods, each with at most 1000 amounts.
-/
import Derived.Test.YtfidlljhmebpmaaDoorLis13
namespace Go.Proofs.YtfidlljhmebpmaaDoor.T13
open Go.RowKit Go.Sort Go.Lib Go.Shelf V12

section
variable {w w' : World} {b0 : Nat} {s : Int} {q t m : Nat} {A : Option Addr} {c n : Nat} {P : Nat → PodV}
/-- What a list of pods is. -/
def Got (w w' : World) (e : Ending) (L : List PodV) : Prop := ∃ v S, e = .returned v ∧ RowP w' w.heap.size v L.length S ∧ (lst S L.length).map nm = L.map nm ∧ Keep w w'
theorem Got.from {w W w' : World} {e : Ending} {L : List PodV} (g : Got W w' e L) (k : Keep w W) : Got w w' e L := by
  obtain ⟨v, S, he, h1, h2, h3⟩ := g
  exact ⟨v, S, he, h1.base k.size, h2, k.trans h3⟩
theorem podall_fn (h : ST w b0 s q t m A c n P) (hn : n ≤ 1000) (hm : ∀ j, j < n → (P j).m ≤ 1000) : Calls Tryd.prog 13 #[.pointer (some ⟨q, 0, none⟩)] w fun e w' => Got w w' e (lst P n) := by
  have K : Kf w 33 #[] n P (fun _ => true) := ⟨enters_of Tryd.func33 (by kernel_rfl) rfl, fun W' _ x _ => all1_fn x W'⟩
  have hL := Lib.hid (list_fn h hn hm K)
  clear h K
  go_enter Tryd.func13, Tryd.ntmps13
  go_wp2_with fail
  refine hL.out.mono ?_
  rintro e w1 ⟨v, S, rfl, R, he, k⟩
  replace R := Lib.hid R
  replace he := Lib.hid he
  replace k := Lib.hid k
  go_wp2
  go_ret
  have ef : (lst P n).filter (fun _ => true) = lst P n := by simp
  have R' := R.out
  have he' := he.out
  rw [ef] at R' he'
  exact ⟨v, S, rfl, R', he', k.out⟩
set_option maxHeartbeats 1000000 in
theorem podon_fn (h : ST w b0 s q t m A c n P) (hn : n ≤ 1000) (hm : ∀ j, j < n → (P j).m ≤ 1000) (nd : Int) : Calls Tryd.prog 18 #[.pointer (some ⟨q, 0, none⟩), .int .i64 nd] w fun e w' => Got w w' e ((lst P n).filter (onB nd)) := by
  obtain ⟨W1, hW1⟩ : ∃ W1, W1 = w.alloc (.cells #[.int .i64 nd] 3) := ⟨_, rfl⟩
  have K1 : Hid (Keep w W1) := by rw [hW1]; exact Keep.one _ _
  have sz1 : W1.heap.size = w.heap.size + 1 := by rw [hW1, World.size_alloc]
  have bN : Boxed W1 w.heap.size 3 (.int .i64 nd) := by rw [hW1]; exact Boxed.new _ _ _
  have K : Kf W1 37 #[.pointer (some ⟨w.heap.size, 0, none⟩)] n P (onB nd) := ⟨enters_of Tryd.func37 (by kernel_rfl) rfl, fun W' hB x _ => on1_fn x w.heap.size nd W' (by rw [World.cell?_of_block (w := W1) (hB w.heap.size (by omega))]; exact bN.cell)⟩
  have hL := Lib.hid (list_fn (h.keep K1.out) hn hm K)
  have h1 := hmf
  clear h K bN
  replace sz1 := Lib.hid sz1
  have hw1 := Lib.hid hW1
  clear hW1
  go_enter Tryd.func18, Tryd.ntmps18
  go_wp2_with fail
  rw [← hw1.out]
  refine hL.out.mono ?_
  rintro e w1 ⟨v, S, rfl, R, he, k⟩
  have g : Hid (Got W1 w1 (.returned v) ((lst P n).filter (onB nd))) := ⟨v, S, rfl, R, he, k⟩
  clear R he k
  go_wp2
  go_ret
  exact g.out.from K1.out
theorem with_at (p : Int) : (w.alloc (.cells #[.int .i64 p] 3)).heap.size = w.heap.size + 1 ∧ Kf (w.alloc (.cells #[.int .i64 p] 3)) 51 #[.pointer (some ⟨w.heap.size, 0, none⟩)] n P (withB p) := by
  have bN : Boxed (w.alloc (.cells #[.int .i64 p] 3)) w.heap.size 3 (.int .i64 p) := Boxed.new _ _ _
  refine ⟨World.size_alloc _ _, enters_of Tryd.func51 (by kernel_rfl) rfl, fun W' hB x _ => in1_fn x w.heap.size p W' ?_⟩
  rw [World.cell?_of_block (w := w.alloc (.cells #[.int .i64 p] 3)) (hB w.heap.size (by rw [World.size_alloc]; omega))]
  exact bN.cell
set_option maxHeartbeats 1000000 in
theorem podwith_fn (h : ST w b0 s q t m A c n P) (hn : n ≤ 1000) (hm : ∀ j, j < n → (P j).m ≤ 1000) (p : Int) : Calls Tryd.prog 20 #[.pointer (some ⟨q, 0, none⟩), .int .i64 p] w fun e w' => Got w w' e ((lst P n).filter (withB p)) := by
  have hI := Lib.hid (podin_fn p w)
  have K1 : Hid (Keep w (w.alloc (.cells #[.int .i64 p] 3))) := Keep.one _ _
  have hL := Lib.hid (list_fn (h.keep K1.out) hn hm (with_at p).2)
  clear h
  go_enter Tryd.func20, Tryd.ntmps20
  go_wp2_with fail
  refine hI.out.mono ?_
  rintro e w1 ⟨rfl, rfl⟩
  go_wp2_with fail
  refine hL.out.mono ?_
  rintro e w1 ⟨v, S, rfl, R, he, k⟩
  have g : Hid (Got (w.alloc (.cells #[.int .i64 p] 3)) w1 (.returned v) ((lst P n).filter (withB p))) := ⟨v, S, rfl, R, he, k⟩
  clear R he k
  go_wp2
  go_ret
  exact g.out.from K1.out
attribute [local go_sem] Oper.semAt_some
set_option maxRecDepth 100000 in
set_option maxHeartbeats 8000000 in
theorem podcount_fn (h : ST w b0 s q t m A c n P) (hn : n ≤ 1000) (p : Int) : Calls Tryd.prog 22 #[.pointer (some ⟨q, 0, none⟩), .int .i64 p] w fun e w' => e = .returned (.int .i64 ((lst P n).filter (withB p)).length) ∧ Keep w w' := by
  refine (callsIn_wide (n := 6)).1 ?_
  have h1 : 1 ≤ 6 := by omega
  obtain ⟨W1, hW1⟩ : ∃ W1, W1 = w.alloc (.cells #[.int .i64 0] 3) := ⟨_, rfl⟩
  obtain ⟨W2, hW2⟩ : ∃ W2, W2 = W1.alloc (.cells #[.int .i64 p] 3) := ⟨_, rfl⟩
  obtain ⟨W0, hW0⟩ : ∃ W0, W0 = (W2.alloc (.cells #[.pointer (some ⟨q, 0, none⟩)] 23)).alloc (.cells #[.func (.func 51) #[] #[.pointer (some ⟨w.heap.size + 1, 0, none⟩)]] 67) := ⟨_, rfl⟩
  have sz1 : W1.heap.size = w.heap.size + 1 := by rw [hW1, World.size_alloc]
  have sz2 : W2.heap.size = w.heap.size + 2 := by rw [hW2, World.size_alloc, sz1]
  have sz0 : W0.heap.size = w.heap.size + 4 := by rw [hW0, World.size_alloc, World.size_alloc, sz2]
  have K2 : Keep w W2 := by rw [hW2, hW1]; exact ((Keep.one _ _).alloc _ : Keep w _)
  have K20 : Keep W2 W0 := by rw [hW0]; exact ((Keep.one _ _).alloc _ : Keep W2 _)
  have K0 : Hid (Keep w W0) := K2.trans K20
  have bO : Hid (Boxed W0 w.heap.size 3 (.int .i64 0)) := by rw [hW0, hW2, hW1]; exact (((Boxed.new w _ _).alloc _).alloc _).alloc _
  have bA : Boxed W0 (w.heap.size + 2) 23 (.pointer (some ⟨q, 0, none⟩)) := by rw [hW0, ← sz2]; exact (Boxed.new W2 _ _).alloc _
  have bB : Boxed W0 (w.heap.size + 2 + 1) 67 (.func (.func 51) #[] #[.pointer (some ⟨w.heap.size + 1, 0, none⟩)]) := by
    rw [hW0, ← sz2, ← World.size_alloc W2 (.cells #[.pointer (some ⟨q, 0, none⟩)] 23)]
    exact Boxed.new _ _ _
  have K : Kf W2 51 #[.pointer (some ⟨w.heap.size + 1, 0, none⟩)] n P (withB p) := by
    have := (with_at (w := W1) (n := n) (P := P) p).2
    rw [sz1, ← hW2] at this
    exact this
  have E : EachAt W0 w.heap.size W0.heap.size (w.heap.size + 2) (w.heap.size + 2 + 1) q 51 #[.pointer (some ⟨w.heap.size + 1, 0, none⟩)] A c n P (withB p) := by
    have h2 := h.keep K2
    refine ⟨⟨bA.cell, by omega, by omega⟩, ⟨bB.cell, by omega, by omega⟩, ⟨(h2.keep K20).c0, lt_blk (h2.keep K20).hq, by have := lt_blk h.hq; omega⟩, fun j hj => ?_, fun W' hB hs x hx => ?_, hn, K.en⟩
    · obtain ⟨g, e, X, _, ho⟩ := h.at hj
      have := (h.lt g (Or.inr (Or.inr (Or.inr (Or.inl ho))))).2
      exact ⟨g, e, X.keep K0.out, by omega, by omega⟩
    · refine in1_fn x _ p W' ?_
      have hb : Boxed W0 (w.heap.size + 1) 3 (.int .i64 p) := by rw [hW0, hW2, ← sz1]; exact ((Boxed.new W1 _ _).alloc _).alloc _
      rw [World.cell?_of_block (w := W0) (hB (w.heap.size + 1) (by omega) (by omega))]
      exact hb.cell
  have E := Lib.hid E
  have hE := Lib.hid (each_fn (some ⟨q, 0, none⟩) (.func (.func 51) #[] #[.pointer (some ⟨w.heap.size + 1, 0, none⟩)]) W2 ⟨_, _, rfl⟩)
  have hI := Lib.hid (podin_fn p W1)
  rw [sz2] at hE
  rw [sz1] at hI
  clear h K bA bB K2 K20
  have hw1 := Lib.hid hW1
  have hw2 := Lib.hid hW2
  have hw0 := Lib.hid hW0
  clear hW0 hW1 hW2
  refine callsIn_of_wp_marks Tryd.func22 rfl trivial ?_ rfl
  simp only [Tryd.ntmps22, List.size_toArray, List.length_cons, List.length_nil, Nat.reduceAdd, Nat.reduceSub, Array.replicate_succ, Array.replicate_zero, List.push_toArray, List.append_toArray, List.nil_append, List.cons_append]
  gi_wp2_with fail
  refine ⟨trivial, ?_⟩
  rw [← hw1.out]
  refine (callsIn_wide.2 hI.out).mono ?_
  rintro e w' ⟨rfl, rfl⟩
  rw [← hw2.out]
  gi_wp2_with fail
  refine ⟨trivial, ?_⟩
  refine (callsIn_wide.2 hE.out).mono ?_
  rintro e w' ⟨rfl, rfl⟩
  rw [← hw0.out]
  gi_wp2
  have hn' := Lib.hid hn
  have E2 := E.out
  have hN0 : Hid (W0.heap.size = w.heap.size + 4) := sz0
  clear hw0 hw1 hw2
  refine wpIn_rangeFunc_ownH (α := PD P n) rfl h1 (gf := 52) (lb := #[.pointer (some ⟨w.heap.size + 2, 0, none⟩), .pointer (some ⟨w.heap.size + 2 + 1, 0, none⟩)]) rfl trivial (enters_of Tryd.func52 (by kernel_rfl) rfl)
    (each_stops 5 (by omega) E2) (fun h k => ⟨h.1.trans k.1, Nat.le_trans h.2 k.2⟩) (fun W l o o' hl _ _ _ => ⟨fun k hk _ => World.putObj_heap_other (by omega), by simp⟩) (Below.refl _ _) (fun _ => rfl)
    (fun pre W => Boxed W w.heap.size 3 (.int .i64 pre.length) ∧ Keep w W ∧ W0.heap.size ≤ W.heap.size)
    (fun _ _ _ => False)
    (fun s X Y row ⟨hv, hB, hN⟩ hg hr => ⟨hv.kept hg (fun e' => by obtain ⟨o, ho, hc⟩ := (hr _ e'.symm).2; rw [show X.heap[_]? = _ from hv] at ho; cases ho; cases hc), Below.grown hB hg hB.size (fun k e => Nat.le_trans K0.out.size (hr k e).1), Nat.le_trans hN hg.size⟩)
    (fun _ _ _ _ _ hs _ _ => hs)
    ⟨bO.out, K0.out, Nat.le_refl _⟩
    (fun x a' _ => a' = { tmps := #[.pointer (some ⟨q, 0, none⟩), .int .i64 p, undef, undef, .int .i64 0, .pointer (some ⟨w.heap.size, 0, none⟩), .pointer (some ⟨q, 0, none⟩), .int .i64 p, .func (.func 51) #[] #[.pointer (some ⟨w.heap.size + 1, 0, none⟩)], .func (.func 52) #[] #[.pointer (some ⟨w.heap.size + 2, 0, none⟩), .pointer (some ⟨w.heap.size + 2 + 1, 0, none⟩)], x.1.val, undef, undef, undef], defers := [] })
    (fun _ _ _ _ _ _ hs _ _ => hs)
    ?assign ?body ?done ?stop
  case assign =>
    rintro l pre x W K hI hK
    gi_wp2
    exact hK _ _ (KeepsFrom.refl _ _) ⟨But.refl _ _ _, Nat.le_refl _⟩ hI (by simp)
  case body =>
    rintro l pre x a' W hl ⟨r, hr⟩ ⟨hv, hB, hN⟩ rfl hlt
    have cl := hv.cell
    have fl := hv.frozen
    have e1 : wrap64 ((pre.length : Int) + 1) = (pre.length : Int) + 1 := by unfold wrap64; have := hn'.out; omega
    have K' : Hid (Keep w (W.setCell ⟨w.heap.size, 0, none⟩ (.int .i64 ((pre.length : Int) + 1)))) := hB.set (Nat.le_refl _) _
    have B' : Hid (Boxed (W.setCell ⟨w.heap.size, 0, none⟩ (.int .i64 ((pre.length : Int) + 1))) w.heap.size 3 (.int .i64 ((pre ++ [x]).length : Nat))) := by
      show Boxed _ _ _ _
      rw [List.length_append, List.length_singleton, Int.natCast_add]
      exact hv.set _
    replace hv := Lib.hid hv
    replace hB := Lib.hid hB
    gi_wp2
    exact ⟨(KeepsOthers.setCell _ _ _).from _, ⟨fun k _ hne => Below.heap_setCell _ _ _ _ hne, by simp⟩, B'.out, K'.out, by simp; omega⟩
  case done =>
    rintro D ys W hD hS ⟨hv, hB, hN⟩ hK
    have cl := hv.cell
    have hl : Hid (ys.length = ((lst P n).filter (withB p)).length) := by
      show _ = _
      rw [← hS, List.length_map]
    have K' : Hid (Keep w (W.putObj D (.deferred none))) := Below.trans (show Below w.heap.size w W from hB) (belowK_b (w := w) (Nat.le_refl _) _ D _ _ (Nat.le_trans K0.out.size hD) hK rfl rfl)
    replace hS := Lib.hid hS
    replace hv := Lib.hid hv
    gi_wp2
    refine ⟨by simp, .inl ⟨_, _, rfl, run_takeDeferred hK, ?_⟩⟩
    exact ⟨_, results_tmp rfl _ _ _, by rw [← hl.out]; rfl, K'.out⟩
  case stop =>
    rintro D c' pre W _ _ h _
    exact h.elim
end
end Go.Proofs.YtfidlljhmebpmaaDoor.T13
