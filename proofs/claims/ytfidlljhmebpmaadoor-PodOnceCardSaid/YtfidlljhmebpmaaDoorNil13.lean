/-
  All of the nil store. No condition.
-/
import Derived.Test.YtfidlljhmebpmaaDoorFil13
namespace Go.Proofs.YtfidlljhmebpmaaDoor.T13
open Go.RowKit Go.Sort Go.Lib Go.Shelf V12

attribute [local go_sem] Oper.semAt_some
set_option maxRecDepth 100000 in
set_option maxHeartbeats 1000000 in
theorem each1_nil (u : Nat) (l b1 b2 : Nat) (J : List Unit → World → Prop) (W : World) (c1 : W.cell? ⟨b1, 0, none⟩ = some (.pointer none)) (h0 : J [] W) :
    CallsIn Fence.wide u Tryd.prog 52 #[.func (.yield l) #[] #[], .pointer (some ⟨b1, 0, none⟩), .pointer (some ⟨b2, 0, none⟩)] W fun e W' => (∃ v, e = .returned v) ∧ J [] W' := by
  refine callsIn_of_wp Tryd.func52 rfl trivial ?_ rfl
  simp only [Tryd.ntmps52, List.size_toArray, List.length_cons, List.length_nil, Nat.reduceAdd, Nat.reduceSub, Array.replicate_succ, Array.replicate_zero, List.push_toArray, List.append_toArray, List.nil_append, List.cons_append]
  gi_wp2
  refine bodyPost_ret (results_none rfl _ _ _) rfl ?_
  exact ⟨⟨_, rfl⟩, h0⟩
set_option maxRecDepth 100000 in
set_option maxHeartbeats 8000000 in
theorem list_nil (kf : Nat) (caps : Array Value) (w : World) : Calls Tryd.prog 32 #[.pointer none, .func (.func kf) #[] caps] w fun e w' => e = .returned (.slice none 0 0) ∧ Keep w w' := by
  refine (callsIn_wide (n := 6)).1 ?_
  have h1 : 1 ≤ 6 := by omega
  obtain ⟨W1, hW1⟩ : ∃ W1, W1 = w.alloc (.cells #[.slice none 0 0] 27) := ⟨_, rfl⟩
  obtain ⟨W0, hW0⟩ : ∃ W0, W0 = (W1.alloc (.cells #[.pointer none] 23)).alloc (.cells #[.func (.func kf) #[] caps] 67) := ⟨_, rfl⟩
  have sz1 : W1.heap.size = w.heap.size + 1 := by rw [hW1, World.size_alloc]
  have sz0 : W0.heap.size = w.heap.size + 3 := by rw [hW0, World.size_alloc, World.size_alloc, sz1]
  have K0 : Hid (Keep w W0) := by rw [hW0, hW1]; exact (((Keep.one _ _).alloc _).alloc _ : Keep w _)
  have bO : Hid (Boxed W0 w.heap.size 27 (.slice none 0 0)) := by rw [hW0, hW1]; exact ((Boxed.new w _ _).alloc _).alloc _
  have bA : Boxed W0 (w.heap.size + 1) 23 (.pointer none) := by rw [hW0, ← sz1]; exact (Boxed.new W1 _ _).alloc _
  have hE := Lib.hid (each_fn none (.func (.func kf) #[] caps) W1 ⟨_, _, rfl⟩)
  rw [sz1] at hE
  have hS : SeqStopsK Fence.wide 5 Tryd.prog 52 #[.pointer (some ⟨w.heap.size + 1, 0, none⟩), .pointer (some ⟨w.heap.size + 1 + 1, 0, none⟩)] (fun _ : Unit => #[zpod.val]) (fun _ _ => True) (fun ys => ys = []) (fun _ => True) 0 W0 := fun l J Jx W hW _ _ _ h0 =>
    (each1_nil 5 l _ _ J W ((hW.cell (p := ⟨w.heap.size + 1, 0, none⟩) (by show w.heap.size + 1 < _; omega)).trans bA.cell) h0).mono fun _ _ ⟨he, hj⟩ => ⟨he, Or.inl ⟨[], rfl, hj⟩⟩
  have hS := Lib.hid hS
  clear bA
  have hw0 := Lib.hid hW0
  clear hW0
  refine callsIn_of_wp_marks Tryd.func32 rfl trivial ?_ rfl
  simp only [Tryd.ntmps32, List.size_toArray, List.length_cons, List.length_nil, Nat.reduceAdd, Nat.reduceSub, Array.replicate_succ, Array.replicate_zero, List.push_toArray, List.append_toArray, List.nil_append, List.cons_append]
  gi_wp2_with fail
  refine ⟨trivial, ?_⟩
  rw [← hW1]
  clear hW1
  refine (callsIn_wide.2 hE.out).mono ?_
  rintro e w' ⟨rfl, rfl⟩
  rw [← hw0.out]
  gi_wp2
  clear hw0
  refine wpIn_rangeFunc_ownH (α := Unit) rfl h1 (gf := 52) (lb := #[.pointer (some ⟨w.heap.size + 1, 0, none⟩), .pointer (some ⟨w.heap.size + 1 + 1, 0, none⟩)]) rfl trivial (enters_of Tryd.func52 (by kernel_rfl) rfl)
    hS.out (fun _ _ => trivial) (fun _ _ _ _ _ _ _ _ => trivial) (Below.refl _ _) (fun _ => rfl)
    (fun _ W => Boxed W w.heap.size 27 (.slice none 0 0) ∧ Keep w W)
    (fun _ _ _ => False)
    (fun s X Y row ⟨hv, hB⟩ hg hr => ⟨hv.kept hg (fun e' => by obtain ⟨o, ho, hc⟩ := (hr _ e'.symm).2; rw [show X.heap[_]? = _ from hv] at ho; cases ho; cases hc), Below.grown hB hg hB.size (fun k e => Nat.le_trans K0.out.size (hr k e).1)⟩)
    (fun _ _ _ _ _ hs _ _ => hs)
    ⟨bO.out, K0.out⟩
    (fun _ _ _ => True)
    (fun _ _ _ _ _ _ hs _ _ => hs)
    ?assign ?body ?done ?stop
  case assign =>
    rintro l pre x W K hI hK
    unfold PodV.val zpod
    gi_wp2
    exact hK _ _ ((KeepsOthers.alloc _ _).from _) trivial ⟨hI.1.alloc _, hI.2.trans (Keep.one _ _)⟩ trivial
  case body =>
    rintro l pre x a' W hl _ _ _ hlt
    exact absurd hlt (Nat.not_lt_zero _)
  case done =>
    rintro D ys W hD hS ⟨hv, hB⟩ hK
    have cl := hv.cell
    have K' : Hid (Keep w (W.putObj D (.deferred none))) := Below.trans (show Below w.heap.size w W from hB) (belowK_b (w := w) (Nat.le_refl _) _ D _ _ (Nat.le_trans K0.out.size hD) hK rfl rfl)
    replace hS := Lib.hid hS
    replace hv := Lib.hid hv
    gi_wp2
    refine ⟨by simp, .inl ⟨_, _, rfl, run_takeDeferred hK, ?_⟩⟩
    exact ⟨_, results_tmp rfl _ _ _, rfl, K'.out⟩
  case stop =>
    rintro D c' pre W _ _ h _
    exact h.elim
theorem podall_nil (w : World) : Calls Tryd.prog 13 #[.pointer none] w fun e w' => e = .returned (.slice none 0 0) ∧ Keep w w' := by
  have hL := Lib.hid (list_nil 33 #[] w)
  go_enter Tryd.func13, Tryd.ntmps13
  go_wp2_with fail
  refine hL.out.mono ?_
  rintro e w1 ⟨rfl, k⟩
  have k := Lib.hid k
  go_wp2
  go_ret
  exact ⟨rfl, k.out⟩
end Go.Proofs.YtfidlljhmebpmaaDoor.T13
