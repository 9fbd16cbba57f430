/-
  The law's play: an operation on the queue and on the reference's list. Conditions: at most 60 pods, priorities up to 2^30, at most 20 amounts a pod.
-/
import Derived.Test.YtmmpmpdjcmilkaaFew7
import Derived.Deep.RegionWith
namespace Go.Proofs.Ytmmpmpdjcmilkaa
open Go.RowKit Go.Sort Go.Lib Go.Shelf

/-- The queue and the reference's list, side by side. -/
structure Side (w : World) (b bq : Nat) (D : Nat → Prop) (B : Option Addr) (m d : Nat) (S : Nat → PodV) (L : List PodV) : Prop where
  q : QInv w b b bq D L
  src : Src w D B m S
  perm : ((lst S m).map nm).Perm L
  sort : ((lst S m).map nm).Pairwise leP
  nil : B = none → m = 0 ∧ d = 0
  cap : m ≤ d
  few : ∀ j, j < m → OneF (S j)
theorem Side.keep {w w' : World} {b bq : Nat} {D : Nat → Prop} {B : Option Addr} {m d : Nat} {S : Nat → PodV} {L : List PodV} (h : Side w b bq D B m d S L) (k : Keep w w') : Side w' b bq D B m d S L :=
  ⟨h.q.keep k, h.src.keep k, h.perm, h.sort, h.nil, h.cap, h.few⟩
theorem Side.len {w : World} {b bq : Nat} {D : Nat → Prop} {B : Option Addr} {m d : Nat} {S : Nat → PodV} {L : List PodV} (h : Side w b bq D B m d S L) : L.length = m := by
  rw [← h.perm.length_eq, List.length_map, lst_len]
/-- What an operation leaves. -/
def After (w w' : World) (b bq : Nat) (D : Nat → Prop) (B : Option Addr) (m d : Nat) (S : Nat → PodV) : Prop :=
  Fr D w w' ∧ ∃ D' L', Side w' b bq D' B m d S L' ∧ ∀ k, D' k → D k ∨ w.heap.size ≤ k

theorem first_at {w : World} {b bq : Nat} {D : Nat → Prop} {B : Option Addr} {m d : Nat} {S : Nat → PodV} {L : List PodV} (h : Side w b bq D B m d S L) (h0 : 0 < m) : ∃ g off, B = some ⟨g, off, none⟩ ∧ Cel9 w g off (S 0) := by
  obtain ⟨g, off, e, hc⟩ := h.src.rd.adr h0
  have := hc 0 h0
  rw [Nat.zero_mul, Nat.add_zero] at this
  exact ⟨g, off, e, this⟩
set_option maxRecDepth 100000 in
set_option maxHeartbeats 4000000 in
theorem play_push {w : World} {b bq : Nat} {D : Nat → Prop} {B : Option Addr} {m d : Nat} {S : Nat → PodV} {L : List PodV} (h : Side w b bq D B m d S L) (hm : m ≤ 60) (x : PodV) (hx : PodIs w x) (hxr : ∀ a, x.A = some a → 0 < x.m → ¬ D a.block) (fx : OneF x) :
    Calls Try.prog 11 #[.pointer (some ⟨bq, 0, none⟩), .slice B m d, .agg #[.int .i64 0, .int .i64 x.k, .int .i64 x.p, .bool x.f, .int .i64 x.g, .slice x.A x.m x.c, .int .i64 x.a, .int .i64 x.h, .int .i64 x.d, .int .i64 x.t]] w fun e w' => ∃ B' m' d' S', e = .returned (.tuple #[.slice B' m' d', .bool true]) ∧ m' ≤ m + 1 ∧ After w w' b bq D B' m' d' S' := by
  have H := Lib.hid h
  have hx := Lib.hid hx
  have hxr := Lib.hid hxr
  have fx := Lib.hid fx
  have hnilS := Lib.hid h.nil
  have ltD : Hid (∀ k, D k → k < w.heap.size) := fun k hk => (h.q.lo k hk).2
  clear h
  by_cases h0 : 0 < m
  · obtain ⟨g, off, rfl, C⟩ := first_at H.out h0
    obtain ⟨y, hy⟩ : ∃ y, y = S 0 := ⟨_, rfl⟩
    rw [← hy] at C
    replace hy := Lib.hid hy
    have q0 := pods_at g off m d 0 h0
    simp only [Nat.zero_mul, Nat.add_zero] at q0
    have h0z : (0 : Int) < (m : Int) := by omega
    have y0 := C.e0; have y1 := C.e1; have y2 := C.e2; have y3 := C.e3; have y4 := C.e4; have y5 := C.e5; have y6 := C.e6; have y7 := C.e7; have y8 := C.e8
    have gl := cell_lt y0
    clear C
    obtain ⟨W2, hW2⟩ : ∃ W, W = ((w.alloc (.cells #[.int .i64 0, .int .i64 x.k, .int .i64 x.p, .bool x.f, .int .i64 x.g, .slice x.A x.m x.c, .int .i64 x.a, .int .i64 x.h, .int .i64 x.d, .int .i64 x.t] 34)).alloc (.cells #[.int .i64 y.k, .int .i64 y.p, .bool y.f, .int .i64 y.g, .slice y.A y.m y.c, .int .i64 y.a, .int .i64 y.h, .int .i64 y.d, .int .i64 y.t] 32)) := ⟨_, rfl⟩
    have k2 : Keep w W2 := by rw [hW2]; exact (Keep.one _ _).alloc _
    have z2 : W2.heap.size = w.heap.size + 1 + 1 := by rw [hW2, World.size_alloc, World.size_alloc]
    have op2 : W2.heap[w.heap.size]? = some (.cells #[.int .i64 0, .int .i64 x.k, .int .i64 x.p, .bool x.f, .int .i64 x.g, .slice x.A x.m x.c, .int .i64 x.a, .int .i64 x.h, .int .i64 x.d, .int .i64 x.t] 34 (0, 0)) := by rw [hW2]; exact (Keep.one _ _).block (heap_alloc_new w _)
    obtain ⟨W3, hW3⟩ : ∃ W, W = W2.alloc (.cells #[.int .i64 x.k, .int .i64 x.p, .bool x.f, .int .i64 x.g, .slice x.A x.m x.c, .int .i64 x.a, .int .i64 x.h, .int .i64 x.d, .int .i64 x.t] 32) := ⟨_, rfl⟩
    have k23 : Keep W2 W3 := by rw [hW3]; exact Keep.one _ _
    have k3 : Hid (Keep w W3) := k2.trans k23
    have op3 := k23.block op2
    have rN : RdPods W3 (some ⟨w.heap.size + 1 + 1, 0, none⟩) 1 (fun t => [x].getD t x) := by
      rw [hW3, ← z2]
      exact rd_lay1 (L := [x]) (Keep.one _ _) (by simp) (fun u hu => by rw [List.mem_singleton.1 hu]; exact hx.out.keep k2) rfl x
    have cR := rpush_fn (some ⟨g, off, none⟩) m d S _ 1 1 (fun t => [x].getD t x) W3 (H.out.src.rd.keep k3.out) hnilS.out rN (by omega) (fun j hj => ⟨(H.out.few j hj).1, (H.out.few j hj).2.1⟩) (fun j hj => by
      obtain rfl : j = 0 := by omega
      exact ⟨fx.out.1, fx.out.2.1⟩)
    obtain ⟨M, hM⟩ : ∃ M, M = (addN ((lst S m).map nm) (fun t => [x].getD t x) 1).length := ⟨_, rfl⟩
    rw [← hM] at cR
    obtain ⟨hM1, hM2⟩ : M ≤ m + 1 ∧ m ≤ M := by
      have := addN_len ((lst S m).map nm) (fun t => [x].getD t x) 1
      rw [← hM, List.length_map, lst_len] at this
      exact ⟨this.2, this.1⟩
    have eM : Hid ((addN L (fun t => [x].getD t x) 1).length = M) := by
      show _ = _
      rw [hM]
      exact (addN_perm H.out.perm (fun t => [x].getD t x) 1).length_eq.symm
    rw [hW2] at hW3
    replace hM := Lib.hid hM
    replace cR := Lib.hid cR
    replace rN := Lib.hid rN
    replace k23 := Lib.hid k23
    replace k2 := Lib.hid k2
    replace z2 := Lib.hid z2
    replace op2 := Lib.hid op2
    replace op3 := Lib.hid op3
    clear hW2
    go_enter Try.func11, Try.ntmps11
    go_wp2_with fail
    rw [← hW3]
    replace hW3 := Lib.hid hW3
    refine cR.out.mono ?_
    rintro e w4 ⟨B4, d4, S4, rfl, RL, hB4, hC4⟩
    clear cR y0 y1 y2 y3 y4 y5 y6 y7 y8
    have k4 : Hid (Keep w w4) := k3.out.trans RL.keep
    have op4 := RL.keep.block op3.out
    have SR4 : Hid (Src w4 D B4 M S4) := src_ref RL (fun i hi => Nat.lt_of_lt_of_le (ltD.out i hi) k3.out.size) H.out.src.req (fun t ht a ha hm2 => by
      obtain rfl : t = 0 := by omega
      exact hxr.out a ha hm2) k3.out
    have Q5 := H.out.q.keep (k4.out.trans (Keep.one w4 (.cells #[.int .i64 x.k, .int .i64 x.p, .bool x.f, .int .i64 x.g, .slice x.A x.m x.c, .int .i64 x.a, .int .i64 x.h, .int .i64 x.d, .int .i64 x.t] 32)))
    have SX : Src (w4.alloc (.cells #[.int .i64 x.k, .int .i64 x.p, .bool x.f, .int .i64 x.g, .slice x.A x.m x.c, .int .i64 x.a, .int .i64 x.h, .int .i64 x.d, .int .i64 x.t] 32)) D (some ⟨w4.heap.size, 0, none⟩) 1 (fun t => [x].getD t x) := src_new (L := [x]) (fun i hi => Nat.lt_of_lt_of_le (ltD.out i hi) k4.out.size) (by simp) (fun u hu => by
      rw [List.mem_singleton.1 hu]
      exact hx.out.keep k4.out) (fun u hu a ha hm2 => by
      rw [List.mem_singleton.1 hu] at ha hm2
      exact hxr.out a ha hm2) rfl x
    have cP := qpush_fn Q5 (some ⟨w4.heap.size, 0, none⟩) 1 1 (fun t => [x].getD t x) SX (by have := H.out.len; omega) (fun j hj => by
      obtain rfl : j = 0 := by omega
      have h20 : x.m ≤ 20 := fx.out.2.2
      show x.m ≤ 1000
      omega)
    rw [eM.out, H.out.len] at cP
    have e4 : w4.cell? ⟨w.heap.size, 0, none⟩ = some (.int .i64 0) := by rw [cell_of_row w4 _ _ _ _ _ op4]; rfl
    have o0 : w4.cell? ⟨w.heap.size, 0, none⟩ = some (.int .i64 0) := by rw [cell_of_row w4 _ _ _ _ _ op4]; rfl
    have o1 : w4.cell? ⟨w.heap.size, 1, none⟩ = some (.int .i64 x.k) := by rw [cell_of_row w4 _ _ _ _ _ op4]; rfl
    have o2 : w4.cell? ⟨w.heap.size, 2, none⟩ = some (.int .i64 x.p) := by rw [cell_of_row w4 _ _ _ _ _ op4]; rfl
    have o3 : w4.cell? ⟨w.heap.size, 3, none⟩ = some (.bool x.f) := by rw [cell_of_row w4 _ _ _ _ _ op4]; rfl
    have o4 : w4.cell? ⟨w.heap.size, 4, none⟩ = some (.int .i64 x.g) := by rw [cell_of_row w4 _ _ _ _ _ op4]; rfl
    have o5 : w4.cell? ⟨w.heap.size, 5, none⟩ = some (.slice x.A x.m x.c) := by rw [cell_of_row w4 _ _ _ _ _ op4]; rfl
    have o6 : w4.cell? ⟨w.heap.size, 6, none⟩ = some (.int .i64 x.a) := by rw [cell_of_row w4 _ _ _ _ _ op4]; rfl
    have o7 : w4.cell? ⟨w.heap.size, 7, none⟩ = some (.int .i64 x.h) := by rw [cell_of_row w4 _ _ _ _ _ op4]; rfl
    have o8 : w4.cell? ⟨w.heap.size, 8, none⟩ = some (.int .i64 x.d) := by rw [cell_of_row w4 _ _ _ _ _ op4]; rfl
    have o9 : w4.cell? ⟨w.heap.size, 9, none⟩ = some (.int .i64 x.t) := by rw [cell_of_row w4 _ _ _ _ _ op4]; rfl
    replace cP := Lib.hid cP
    replace SX := Lib.hid SX
    replace Q5 := Lib.hid Q5
    replace op4 := Lib.hid op4
    replace RL := Lib.hid RL
    replace hB4 := Lib.hid hB4
    replace hC4 := Lib.hid hC4
    clear e4
    go_wp2_with fail
    refine cP.out.mono ?_
    rintro e w6 ⟨rfl, D6, Q6, F6, N6⟩
    have F7 : Hid (Fr D w w6) := Fr.after (k4.out.trans (Keep.one w4 (.cells #[.int .i64 x.k, .int .i64 x.p, .bool x.f, .int .i64 x.g, .slice x.A x.m x.c, .int .i64 x.a, .int .i64 x.h, .int .i64 x.d, .int .i64 x.t] 32))) F6
    have A6 : Hid (After w w6 b bq D B4 M d4 S4) := ⟨F7.out, D6, _, ⟨Q6, (SR4.out.keep (Keep.one _ _)).fr F6 N6, RL.out.perm.trans (addN_perm H.out.perm _ 1), RL.out.sort, fun e => ⟨by
      have h1 := hB4.out e
      have h2 := hC4.out
      omega, hB4.out e⟩, hC4.out, fun j hj => by
      rcases RL.out.from_ j hj with ⟨t, ht, e⟩ | ⟨t, ht, e⟩
      · rw [e]; exact H.out.few t ht
      · obtain rfl : t = 0 := by omega
        rw [e]; exact fx.out⟩, fun k hk => by
      rcases N6 k hk with h | h
      · exact Or.inl h
      · right
        have h1 := k4.out.size
        rw [World.size_alloc] at h
        omega⟩
    replace Q6 := Lib.hid Q6
    replace F6 := Lib.hid F6
    replace N6 := Lib.hid N6
    clear cP o0 o1 o2 o3 o4 o5 o6 o7 o8 o9
    go_wp2
    go_ret2
    exact ⟨B4, M, d4, S4, rfl, hM1, A6.out⟩
  · have h0z : (m : Int) ≤ 0 := by omega
    obtain ⟨W2, hW2⟩ : ∃ W, W = ((w.alloc (.cells #[.int .i64 0, .int .i64 x.k, .int .i64 x.p, .bool x.f, .int .i64 x.g, .slice x.A x.m x.c, .int .i64 x.a, .int .i64 x.h, .int .i64 x.d, .int .i64 x.t] 34)).alloc (.cells #[.int .i64 0, .int .i64 0, .bool false, .int .i64 0, .slice none 0 0, .int .i64 0, .int .i64 0, .int .i64 0, .int .i64 0] 32)) := ⟨_, rfl⟩
    have k2 : Keep w W2 := by rw [hW2]; exact (Keep.one _ _).alloc _
    have z2 : W2.heap.size = w.heap.size + 1 + 1 := by rw [hW2, World.size_alloc, World.size_alloc]
    have op2 : W2.heap[w.heap.size]? = some (.cells #[.int .i64 0, .int .i64 x.k, .int .i64 x.p, .bool x.f, .int .i64 x.g, .slice x.A x.m x.c, .int .i64 x.a, .int .i64 x.h, .int .i64 x.d, .int .i64 x.t] 34 (0, 0)) := by rw [hW2]; exact (Keep.one _ _).block (heap_alloc_new w _)
    obtain ⟨W3, hW3⟩ : ∃ W, W = W2.alloc (.cells #[.int .i64 x.k, .int .i64 x.p, .bool x.f, .int .i64 x.g, .slice x.A x.m x.c, .int .i64 x.a, .int .i64 x.h, .int .i64 x.d, .int .i64 x.t] 32) := ⟨_, rfl⟩
    have k23 : Keep W2 W3 := by rw [hW3]; exact Keep.one _ _
    have k3 : Hid (Keep w W3) := k2.trans k23
    have op3 := k23.block op2
    have rN : RdPods W3 (some ⟨w.heap.size + 1 + 1, 0, none⟩) 1 (fun t => [x].getD t x) := by
      rw [hW3, ← z2]
      exact rd_lay1 (L := [x]) (Keep.one _ _) (by simp) (fun u hu => by rw [List.mem_singleton.1 hu]; exact hx.out.keep k2) rfl x
    have cR := rpush_fn B m d S _ 1 1 (fun t => [x].getD t x) W3 (H.out.src.rd.keep k3.out) hnilS.out rN (by omega) (fun j hj => ⟨(H.out.few j hj).1, (H.out.few j hj).2.1⟩) (fun j hj => by
      obtain rfl : j = 0 := by omega
      exact ⟨fx.out.1, fx.out.2.1⟩)
    obtain ⟨M, hM⟩ : ∃ M, M = (addN ((lst S m).map nm) (fun t => [x].getD t x) 1).length := ⟨_, rfl⟩
    rw [← hM] at cR
    obtain ⟨hM1, hM2⟩ : M ≤ m + 1 ∧ m ≤ M := by
      have := addN_len ((lst S m).map nm) (fun t => [x].getD t x) 1
      rw [← hM, List.length_map, lst_len] at this
      exact ⟨this.2, this.1⟩
    have eM : Hid ((addN L (fun t => [x].getD t x) 1).length = M) := by
      show _ = _
      rw [hM]
      exact (addN_perm H.out.perm (fun t => [x].getD t x) 1).length_eq.symm
    rw [hW2] at hW3
    replace hM := Lib.hid hM
    replace cR := Lib.hid cR
    replace rN := Lib.hid rN
    replace k23 := Lib.hid k23
    replace k2 := Lib.hid k2
    replace z2 := Lib.hid z2
    replace op2 := Lib.hid op2
    replace op3 := Lib.hid op3
    clear hW2
    go_enter Try.func11, Try.ntmps11
    go_wp2_with fail
    rw [← hW3]
    replace hW3 := Lib.hid hW3
    refine cR.out.mono ?_
    rintro e w4 ⟨B4, d4, S4, rfl, RL, hB4, hC4⟩
    clear cR 
    have k4 : Hid (Keep w w4) := k3.out.trans RL.keep
    have op4 := RL.keep.block op3.out
    have SR4 : Hid (Src w4 D B4 M S4) := src_ref RL (fun i hi => Nat.lt_of_lt_of_le (ltD.out i hi) k3.out.size) H.out.src.req (fun t ht a ha hm2 => by
      obtain rfl : t = 0 := by omega
      exact hxr.out a ha hm2) k3.out
    have Q5 := H.out.q.keep (k4.out.trans (Keep.one w4 (.cells #[.int .i64 x.k, .int .i64 x.p, .bool x.f, .int .i64 x.g, .slice x.A x.m x.c, .int .i64 x.a, .int .i64 x.h, .int .i64 x.d, .int .i64 x.t] 32)))
    have SX : Src (w4.alloc (.cells #[.int .i64 x.k, .int .i64 x.p, .bool x.f, .int .i64 x.g, .slice x.A x.m x.c, .int .i64 x.a, .int .i64 x.h, .int .i64 x.d, .int .i64 x.t] 32)) D (some ⟨w4.heap.size, 0, none⟩) 1 (fun t => [x].getD t x) := src_new (L := [x]) (fun i hi => Nat.lt_of_lt_of_le (ltD.out i hi) k4.out.size) (by simp) (fun u hu => by
      rw [List.mem_singleton.1 hu]
      exact hx.out.keep k4.out) (fun u hu a ha hm2 => by
      rw [List.mem_singleton.1 hu] at ha hm2
      exact hxr.out a ha hm2) rfl x
    have cP := qpush_fn Q5 (some ⟨w4.heap.size, 0, none⟩) 1 1 (fun t => [x].getD t x) SX (by have := H.out.len; omega) (fun j hj => by
      obtain rfl : j = 0 := by omega
      have h20 : x.m ≤ 20 := fx.out.2.2
      show x.m ≤ 1000
      omega)
    rw [eM.out, H.out.len] at cP
    have e4 : w4.cell? ⟨w.heap.size, 0, none⟩ = some (.int .i64 0) := by rw [cell_of_row w4 _ _ _ _ _ op4]; rfl
    have o0 : w4.cell? ⟨w.heap.size, 0, none⟩ = some (.int .i64 0) := by rw [cell_of_row w4 _ _ _ _ _ op4]; rfl
    have o1 : w4.cell? ⟨w.heap.size, 1, none⟩ = some (.int .i64 x.k) := by rw [cell_of_row w4 _ _ _ _ _ op4]; rfl
    have o2 : w4.cell? ⟨w.heap.size, 2, none⟩ = some (.int .i64 x.p) := by rw [cell_of_row w4 _ _ _ _ _ op4]; rfl
    have o3 : w4.cell? ⟨w.heap.size, 3, none⟩ = some (.bool x.f) := by rw [cell_of_row w4 _ _ _ _ _ op4]; rfl
    have o4 : w4.cell? ⟨w.heap.size, 4, none⟩ = some (.int .i64 x.g) := by rw [cell_of_row w4 _ _ _ _ _ op4]; rfl
    have o5 : w4.cell? ⟨w.heap.size, 5, none⟩ = some (.slice x.A x.m x.c) := by rw [cell_of_row w4 _ _ _ _ _ op4]; rfl
    have o6 : w4.cell? ⟨w.heap.size, 6, none⟩ = some (.int .i64 x.a) := by rw [cell_of_row w4 _ _ _ _ _ op4]; rfl
    have o7 : w4.cell? ⟨w.heap.size, 7, none⟩ = some (.int .i64 x.h) := by rw [cell_of_row w4 _ _ _ _ _ op4]; rfl
    have o8 : w4.cell? ⟨w.heap.size, 8, none⟩ = some (.int .i64 x.d) := by rw [cell_of_row w4 _ _ _ _ _ op4]; rfl
    have o9 : w4.cell? ⟨w.heap.size, 9, none⟩ = some (.int .i64 x.t) := by rw [cell_of_row w4 _ _ _ _ _ op4]; rfl
    replace cP := Lib.hid cP
    replace SX := Lib.hid SX
    replace Q5 := Lib.hid Q5
    replace op4 := Lib.hid op4
    replace RL := Lib.hid RL
    replace hB4 := Lib.hid hB4
    replace hC4 := Lib.hid hC4
    clear e4
    go_wp2_with fail
    refine cP.out.mono ?_
    rintro e w6 ⟨rfl, D6, Q6, F6, N6⟩
    have F7 : Hid (Fr D w w6) := Fr.after (k4.out.trans (Keep.one w4 (.cells #[.int .i64 x.k, .int .i64 x.p, .bool x.f, .int .i64 x.g, .slice x.A x.m x.c, .int .i64 x.a, .int .i64 x.h, .int .i64 x.d, .int .i64 x.t] 32))) F6
    have A6 : Hid (After w w6 b bq D B4 M d4 S4) := ⟨F7.out, D6, _, ⟨Q6, (SR4.out.keep (Keep.one _ _)).fr F6 N6, RL.out.perm.trans (addN_perm H.out.perm _ 1), RL.out.sort, fun e => ⟨by
      have h1 := hB4.out e
      have h2 := hC4.out
      omega, hB4.out e⟩, hC4.out, fun j hj => by
      rcases RL.out.from_ j hj with ⟨t, ht, e⟩ | ⟨t, ht, e⟩
      · rw [e]; exact H.out.few t ht
      · obtain rfl : t = 0 := by omega
        rw [e]; exact fx.out⟩, fun k hk => by
      rcases N6 k hk with h | h
      · exact Or.inl h
      · right
        have h1 := k4.out.size
        rw [World.size_alloc] at h
        omega⟩
    replace Q6 := Lib.hid Q6
    replace F6 := Lib.hid F6
    replace N6 := Lib.hid N6
    clear cP o0 o1 o2 o3 o4 o5 o6 o7 o8 o9
    go_wp2
    go_ret2
    exact ⟨B4, M, d4, S4, rfl, hM1, A6.out⟩

end Go.Proofs.Ytmmpmpdjcmilkaa
