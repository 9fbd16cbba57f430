/-
  The store's iterator: it yields the pods that a function keeps, in their order. No condition.
-/
import Derived.Test.YtfidlljhmebpmaaDoorAcc13
import Derived.RangeFuncNested
import Derived.RangeFuncBound
import Derived.RangeFuncCalls
import Derived.RangeFuncLeaves
import Derived.RangeFuncBox
import Derived.RangeFuncFrom
import Derived.Shelf.Abstract
import Derived.Shelf.AbstractIn
import Derived.Shelf.RegionOpen
import Derived.WalkKit
import Derived.OwnWalkIn
import Derived.TacticsInMore
import Derived.LoopNIn
import Derived.LoopIn
import Derived.RegionIn
namespace Go.Proofs.YtfidlljhmebpmaaDoor.T13
open Go.RowKit Go.Sort Go.Lib Go.Shelf V12

/-- All blocks below N0 but one are as they were. -/
def But (bl N0 : Nat) (W W' : World) : Prop := ∀ k, k < N0 → k ≠ bl → W'.heap[k]? = W.heap[k]?
theorem But.refl (bl N0 : Nat) (W : World) : But bl N0 W W := fun _ _ _ => rfl
theorem But.trans {bl N0 : Nat} {a b c : World} (h : But bl N0 a b) (k : But bl N0 b c) : But bl N0 a c := fun i hi hne => (k i hi hne).trans (h i hi hne)
theorem But.keep {bl N0 : Nat} {a b c : World} (h : But bl N0 a b) (hs : N0 ≤ b.heap.size) (k : Keep b c) : But bl N0 a c := h.trans fun i hi _ => Below.block k i (Nat.lt_of_lt_of_le hi hs)
theorem But.cell {bl N0 : Nat} {a b : World} (h : But bl N0 a b) {p : Addr} {v : Value} (hc : a.cell? p = some v) (h1 : p.block < N0) (h2 : p.block ≠ bl) : b.cell? p = some v := (World.cell?_of_block (w := a) (h p.block h1 h2)).trans hc
theorem But.cel9 {bl N0 : Nat} {a b : World} (h : But bl N0 a b) {g o : Nat} {x : PodV} (hc : Cel9 a g o x) (h1 : g < N0) (h2 : g ≠ bl) : Cel9 b g o x :=
  ⟨h.cell hc.e0 h1 h2, h.cell hc.e1 h1 h2, h.cell hc.e2 h1 h2, h.cell hc.e3 h1 h2, h.cell hc.e4 h1 h2, h.cell hc.e5 h1 h2, h.cell hc.e6 h1 h2, h.cell hc.e7 h1 h2, h.cell hc.e8 h1 h2⟩
/-- The pods that may come. -/
abbrev PD (P : Nat → PodV) (n : Nat) := { x : PodV // x ∈ lst P n }
/-- What the iterator reads: two boxes, the store, its row. -/
structure EachAt (W0 : World) (bl N0 b1 b2 q : Nat) (kf : Nat) (caps : Array Value) (A : Option Addr) (c n : Nat) (P : Nat → PodV) (f : PodV → Bool) : Prop where
  b1 : W0.cell? ⟨b1, 0, none⟩ = some (.pointer (some ⟨q, 0, none⟩)) ∧ b1 < N0 ∧ b1 ≠ bl
  b2 : W0.cell? ⟨b2, 0, none⟩ = some (.func (.func kf) #[] caps) ∧ b2 < N0 ∧ b2 ≠ bl
  q : W0.cell? ⟨q, 0, none⟩ = some (.slice A n c) ∧ q < N0 ∧ q ≠ bl
  r : ∀ j, j < n → ∃ g, A = some ⟨g, 0, none⟩ ∧ Cel9 W0 g (0 + j * 9) (P j) ∧ g < N0 ∧ g ≠ bl
  k : ∀ W', But bl N0 W0 W' → N0 ≤ W'.heap.size → ∀ x ∈ lst P n, Calls Tryd.prog kf (#[x.val] ++ caps) W' fun e W'' => e = .returned (.bool (f x)) ∧ Keep W' W''
  n : n ≤ 1000
  en : ∀ args w, (callFunc kf args).run Tryd.prog w = .ok (.enter kf args) w
theorem flt_len {P : Nat → PodV} {f : PodV → Bool} {n j : Nat} {pre : List (PD P n)} (h : pre.map (·.1) = (lst P j).filter f) : pre.length ≤ j := by
  have := congrArg List.length h
  rw [List.length_map] at this
  have h2 := List.length_filter_le f (lst P j)
  rw [lst_len] at h2
  omega
theorem flt_yes {P : Nat → PodV} {f : PodV → Bool} {n j : Nat} {pre : List (PD P n)} (h : pre.map (·.1) = (lst P j).filter f) (x : PD P n) (hx : x.1 = P j) (hf : f (P j) = true) : (pre ++ [x]).map (·.1) = (lst P (j + 1)).filter f := by
  rw [List.map_append, h, lst_succ, List.filter_append, List.map_singleton, hx, List.filter_cons, if_pos hf, List.filter_nil]
theorem flt_no {P : Nat → PodV} {f : PodV → Bool} {n j : Nat} {pre : List (PD P n)} (h : pre.map (·.1) = (lst P j).filter f) (hf : f (P j) = false) : pre.map (·.1) = (lst P (j + 1)).filter f := by
  rw [h, lst_succ, List.filter_append, List.filter_cons, if_neg (by rw [hf]; decide), List.filter_nil, List.append_nil]
attribute [local go_sem] Oper.semAt_some
set_option maxRecDepth 100000 in
set_option maxHeartbeats 4000000 in
theorem each1_in (u : Nat) (hu : 1 ≤ u) (l : Nat) {W0 : World} {bl N0 b1 b2 q kf : Nat} {caps : Array Value} {A : Option Addr} {c n : Nat} {P : Nat → PodV} {f : PodV → Bool} (E : EachAt W0 bl N0 b1 b2 q kf caps A c n P f) (J Jx : List (PD P n) → World → Prop)
    (hY : ∀ pre x W, J pre W → pre.length < n → YieldAt Fence.wide (u - 1) Tryd.prog l #[x.1.val] W fun e W' =>
      (e = .returned (.bool true) ∧ J (pre ++ [x]) W' ∧ But bl N0 W W' ∧ W.heap.size ≤ W'.heap.size) ∨ (e = .returned (.bool false) ∧ Jx (pre ++ [x]) W'))
    (W : World) (hJ : AbidesFrom W.heap.size J) (hW : But bl N0 W0 W) (hs : N0 ≤ W.heap.size) (h0 : J [] W) :
    CallsIn Fence.wide u Tryd.prog 52 #[.func (.yield l) #[] #[], .pointer (some ⟨b1, 0, none⟩), .pointer (some ⟨b2, 0, none⟩)] W fun e W' => (∃ v, e = .returned v) ∧
      ((∃ ys : List (PD P n), ys.map (·.1) = (lst P n).filter f ∧ J ys W') ∨ (∃ pre : List (PD P n), True ∧ Jx pre W')) := by
  have c1 := hW.cell E.b1.1 E.b1.2.1 E.b1.2.2
  have cq := hW.cell E.q.1 E.q.2.1 E.q.2.2
  have hn := E.n
  replace E := Lib.hid E
  refine callsIn_of_wp Tryd.func52 rfl trivial ?_ rfl
  simp only [Tryd.ntmps52, List.size_toArray, List.length_cons, List.length_nil, Nat.reduceAdd, Nat.reduceSub, Array.replicate_succ, Array.replicate_zero, List.push_toArray, List.append_toArray, List.nil_append, List.cons_append]
  gi_wp2
  gi_loopw [13] (fun i wr => ∃ (j : Nat) (pre : List (PD P n)), j ≤ n ∧ i = .int .i64 j ∧ pre.map (·.1) = (lst P j).filter f ∧ J pre wr ∧ But bl N0 W0 wr ∧ W.heap.size ≤ wr.heap.size)
    (fun i _ => n - (intOf i).toNat)
  case atStart => exact ⟨0, [], Nat.zero_le _, rfl, rfl, h0, hW, Nat.le_refl _⟩
  case round =>
    obtain ⟨j, pre, hj, rfl, hpre, hJs, hB, hsz⟩ := hrel
    by_cases hlt : j < n
    · obtain ⟨g, rfl, X, g1, g2⟩ := E.out.r j hlt
      have X := hB.cel9 X g1 g2
      have q1 := pods_at g 0 n c j hlt
      obtain ⟨x0, x1, x2, x3, x4, x5, x6, x7, x8⟩ := X
      rw [Nat.zero_add] at x0 x1 x2 x3 x4 x5 x6 x7 x8 q1
      have c2 := hB.cell E.out.b2.1 E.out.b2.2.1 E.out.b2.2.2
      obtain ⟨x, hx⟩ : ∃ x, x = P j := ⟨_, rfl⟩
      rw [← hx] at x0 x1 x2 x3 x4 x5 x6 x7 x8
      have hxm : x ∈ lst P n := by rw [hx]; exact lst_mem.2 ⟨j, hlt, rfl⟩
      replace hx := Lib.hid hx
      have c2a := (Keep.one wr (.cells #[.int .i64 x.k, .int .i64 x.p, .bool x.f, .int .i64 x.g, .slice x.A x.m x.c, .int .i64 x.a, .int .i64 x.h, .int .i64 x.d, .int .i64 x.t] 32)).cell c2
      have cel := Cel9.new wr x 32 _ rfl
      have cK := E.out.k (wr.alloc (.cells #[.int .i64 x.k, .int .i64 x.p, .bool x.f, .int .i64 x.g, .slice x.A x.m x.c, .int .i64 x.a, .int .i64 x.h, .int .i64 x.d, .int .i64 x.t] 32)) (hB.keep (Nat.le_trans hs hsz) (Keep.one _ _)) (by rw [World.size_alloc]; omega) x hxm
      unfold PodV.val at cK
      replace cK := Lib.hid cK
      replace cel := Lib.hid cel
      replace hB := Lib.hid hB
      have en := E.out.en
      have szA : (wr.alloc (.cells #[.int .i64 x.k, .int .i64 x.p, .bool x.f, .int .i64 x.g, .slice x.A x.m x.c, .int .i64 x.a, .int .i64 x.h, .int .i64 x.d, .int .i64 x.t] 32)).heap.size = wr.heap.size + 1 := World.size_alloc _ _
      replace szA := Lib.hid szA
      replace hpre := Lib.hid hpre
      cases hf : f x with
      | false =>
        rw [hf] at cK
        gi_wp2_with fail
        refine ⟨trivial, ?_⟩
        refine (callsIn_wide.2 cK.out).mono ?_
        rintro e w3 ⟨rfl, k3⟩
        have B3 : But bl N0 W0 w3 := (hB.out.keep (Nat.le_trans hs hsz) (Keep.one _ _)).keep (by rw [szA.out]; omega) k3
        have J3 : J pre w3 := hJ pre wr w3 none hJs ((Keep.one _ _).trans k3).grown (fun r e => by cases e)
        have s3 : W.heap.size ≤ w3.heap.size := Nat.le_trans hsz ((Keep.one wr _).trans k3).size
        clear c2 c2a cel k3 x0 x1 x2 x3 x4 x5 x6 x7 x8 q1 cK
        gi_wp2
        refine ⟨fun _ h => (by cases h), ?_⟩
        gi_wp2
        go_roundw
        case rel => exact ⟨j + 1, pre, by omega, by simp, flt_no hpre.out (by rw [← hx.out]; exact hf), J3, B3, s3⟩
        case measure => simp [intOf]; omega
      | true =>
        rw [hf] at cK
        gi_wp2_with fail
        refine ⟨trivial, ?_⟩
        refine (callsIn_wide.2 cK.out).mono ?_
        rintro e w3 ⟨rfl, k3⟩
        have B3 : But bl N0 W0 w3 := (hB.out.keep (Nat.le_trans hs hsz) (Keep.one _ _)).keep (by rw [szA.out]; omega) k3
        have J3 : J pre w3 := hJ pre wr w3 none hJs ((Keep.one _ _).trans k3).grown (fun r e => by cases e)
        have s3 : W.heap.size ≤ w3.heap.size := Nat.le_trans hsz ((Keep.one wr _).trans k3).size
        obtain ⟨fn, tmps, assign, body, hy, hR⟩ := hY pre ⟨x, hxm⟩ w3 J3 (by have := flt_len hpre.out; omega)
        dsimp only at hy
        unfold PodV.val at hy
        obtain ⟨y0, y1, y2, y3, y4, y5, y6, y7, y8⟩ := cel.out.keep k3
        rw [Nat.zero_add] at y1 y2 y3 y4 y5 y6 y7 y8
        replace B3 := Lib.hid B3
        replace J3 := Lib.hid J3
        replace s3 := Lib.hid s3
        clear c2 c2a cel k3 x0 x1 x2 x3 x4 x5 x6 x7 x8 q1 cK
        gi_wp2
        refine hR.mono ?_
        rintro e W4 (⟨rfl, hJ4, hB4, hs4⟩ | ⟨rfl, hJx4⟩)
        · gi_wp2
          go_roundw
          case rel => exact ⟨j + 1, pre ++ [⟨x, hxm⟩], by omega, by simp, flt_yes hpre.out ⟨x, hxm⟩ hx.out (by rw [← hx.out]; exact hf), hJ4, B3.out.trans hB4, Nat.le_trans s3.out hs4⟩
          case measure => simp [intOf]; omega
        · gi_wp2
          refine bodyPost_ret (results_none rfl _ _ _) rfl ?_
          exact ⟨⟨_, rfl⟩, .inr ⟨_, trivial, hJx4⟩⟩
    · obtain rfl : j = n := by omega
      gi_wp2
      go_end0
      exact ⟨⟨_, rfl⟩, .inl ⟨pre, hpre, hJs⟩⟩
/-- What a loop over it may take: all of them, or a part. -/
theorem each_stops (u : Nat) (hu : 1 ≤ u) {W0 : World} {bl b1 b2 q kf : Nat} {caps : Array Value} {A : Option Addr} {c n : Nat} {P : Nat → PodV} {f : PodV → Bool} (E : EachAt W0 bl W0.heap.size b1 b2 q kf caps A c n P f) :
    SeqStopsK Fence.wide u Tryd.prog 52 #[.pointer (some ⟨b1, 0, none⟩), .pointer (some ⟨b2, 0, none⟩)] (fun x : PD P n => #[x.1.val]) (fun W W' => But bl W0.heap.size W W' ∧ W.heap.size ≤ W'.heap.size) (fun ys => ys.map (·.1) = (lst P n).filter f) (fun _ => True) n W0 := fun l J Jx W hW hJ _ hY h0 => by
  refine each1_in u hu l E J Jx (fun pre x W1 h1 h2 => ?_) W hJ (fun k hk _ => Below.block hW k hk) hW.size h0
  exact hY pre x W1 h1 h2
end Go.Proofs.YtfidlljhmebpmaaDoor.T13
