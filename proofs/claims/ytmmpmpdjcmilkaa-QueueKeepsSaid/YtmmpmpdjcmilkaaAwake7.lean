/-
  The law's awake returns true. No condition.
-/
import Derived.Test.YtmmpmpdjcmilkaaLay7
namespace Go.Proofs.Ytmmpmpdjcmilkaa
open Go.RowKit Go.Sort Go.Lib Go.Shelf

def pa0 : PodV := ⟨1, 1, false, 0, none, 0, 0, fun _ => 0, 0, 0, 0, 0⟩
def pa1 : PodV := ⟨2, 5, false, 0, none, 0, 0, fun _ => 0, 0, 0, 0, 0⟩
def pa2 : PodV := ⟨1, 9, false, 0, none, 0, 0, fun _ => 0, 0, 0, 0, 0⟩
def Pa (t : Nat) : PodV := [pa0, pa1, pa2].getD t pa0
theorem pa_ok (w : World) : ∀ x ∈ [pa0, pa1, pa2], PodIs w x := by
  intro x hx
  simp only [List.mem_cons, List.not_mem_nil, or_false] at hx
  rcases hx with rfl | rfl | rfl <;> exact ⟨Rd.nil _ _ _, fun _ => ⟨rfl, rfl⟩, by unfold I64; decide, by unfold I64; decide, by unfold I64; decide, by unfold I64; decide, by unfold I64; decide, by unfold I64; decide, by unfold I64; decide⟩
theorem aw_list : addN [] Pa 3 = [pa0, pa1] := rfl
theorem aw_min {x : PodV} (h : nm x ∈ [pa0, pa1]) (hm : ∀ y ∈ [pa0, pa1], befP y x = false) : nm x = pa1 := by
  simp only [List.mem_cons, List.not_mem_nil, or_false] at h
  rcases h with h | h
  · have h1 : befP pa1 (nm x) = false := hm pa1 (by simp)
    rw [h] at h1
    exact absurd h1 (by decide +kernel)
  · exact h
theorem src_new {w : World} {D : Nat → Prop} {cs : Array Value} {L : List PodV} (hD : ∀ k, D k → k < w.heap.size) (hl : L.length ≤ 100) (hx : ∀ x ∈ L, PodIs w x) (hn : ∀ x ∈ L, ∀ a, x.A = some a → 0 < x.m → ¬ D a.block) (hc : cs = (L.flatMap PodV.cells).toArray) (d : PodV) :
    Src (w.alloc (.cells cs 32)) D (some ⟨w.heap.size, 0, none⟩) L.length (fun t => L.getD t d) := by
  refine ⟨rd_lay1 (Keep.one _ _) hl hx hc d, fun b off e _ hd => ?_, fun j hj a ha hm => ?_⟩
  · simp only [Option.some.injEq, Addr.mk.injEq, and_true] at e
    have := hD b hd
    omega
  · refine hn _ ?_ a ha hm
    rw [List.getD_eq_getElem?_getD, List.getElem?_eq_getElem hj]
    exact List.getElem_mem hj

set_option maxRecDepth 100000 in
set_option maxHeartbeats 16000000 in
theorem awake_true (w : World) : Calls Try.prog 9 #[] w fun e w' => e = .returned (.bool true) ∧ Keep w w' := by
  go_enter Try.func9, Try.ntmps9
  go_wp2_with fail
  refine (qnew_fn _).mono ?_
  rintro e w1 ⟨bq, rfl, k1, hQ⟩
  obtain ⟨D, Q1, hD⟩ := hQ w.heap.size _ (Nat.le_refl _) (Keep.one w1 (.cells #[.int .i64 1, .int .i64 1, .bool false, .int .i64 0, .slice none 0 0, .int .i64 0, .int .i64 0, .int .i64 0, .int .i64 0, .int .i64 2, .int .i64 5, .bool false, .int .i64 0, .slice none 0 0, .int .i64 0, .int .i64 0, .int .i64 0, .int .i64 0, .int .i64 1, .int .i64 9, .bool false, .int .i64 0, .slice none 0 0, .int .i64 0, .int .i64 0, .int .i64 0, .int .i64 0] 32)) (by rw [World.size_alloc]; have := k1.size; omega)
  have S1 := src_new (cs := #[.int .i64 1, .int .i64 1, .bool false, .int .i64 0, .slice none 0 0, .int .i64 0, .int .i64 0, .int .i64 0, .int .i64 0, .int .i64 2, .int .i64 5, .bool false, .int .i64 0, .slice none 0 0, .int .i64 0, .int .i64 0, .int .i64 0, .int .i64 0, .int .i64 1, .int .i64 9, .bool false, .int .i64 0, .slice none 0 0, .int .i64 0, .int .i64 0, .int .i64 0, .int .i64 0]) (L := [pa0, pa1, pa2]) hD (by decide) (pa_ok w1) (fun x hx a _ hm => by
    simp only [List.mem_cons, List.not_mem_nil, or_false] at hx
    rcases hx with rfl | rfl | rfl <;> exact absurd hm (by decide)) rfl pa0
  have cP := qpush_fn Q1 _ 3 3 Pa S1 (by decide) (fun j hj => by
    obtain rfl | rfl | rfl : j = 0 ∨ j = 1 ∨ j = 2 := by omega
    all_goals decide)
  rw [aw_list] at cP
  have K0 := Lib.hid (k1.trans (Keep.one w1 (.cells #[.int .i64 1, .int .i64 1, .bool false, .int .i64 0, .slice none 0 0, .int .i64 0, .int .i64 0, .int .i64 0, .int .i64 0, .int .i64 2, .int .i64 5, .bool false, .int .i64 0, .slice none 0 0, .int .i64 0, .int .i64 0, .int .i64 0, .int .i64 0, .int .i64 1, .int .i64 9, .bool false, .int .i64 0, .slice none 0 0, .int .i64 0, .int .i64 0, .int .i64 0, .int .i64 0] 32)))
  have loD := Lib.hid (fun k hk => (Q1.lo k hk).1)
  replace cP := Lib.hid cP
  replace k1 := Lib.hid k1
  replace hQ := Lib.hid hQ
  replace Q1 := Lib.hid Q1
  replace hD := Lib.hid hD
  replace S1 := Lib.hid S1
  go_wp2_with fail
  refine cP.out.mono ?_
  rintro e w2 ⟨rfl, D2, Q2, F2, N2⟩
  have cK := qpeek_fn Q2 (by simp)
  unfold PodV.val at cK
  replace cK := Lib.hid cK
  replace Q2 := Lib.hid Q2
  have K2 : Hid (Keep w w2) := F2.low K0.out loD.out
  have lo2 : Hid (∀ k, D2 k → w.heap.size ≤ k) := fun k hk => by
    rcases N2 k hk with h | h
    · exact loD.out k h
    · have := K0.out.size; omega
  replace F2 := Lib.hid F2
  replace N2 := Lib.hid N2
  go_wp2_with fail
  refine cK.out.mono ?_
  rintro e w3 ⟨x, rfl, xi, xm, k3, _, _⟩
  have ex : x.k = 2 := by have := congrArg PodV.k (aw_min xi xm); exact this
  have hD2 : Hid (∀ k, D2 k → k < w2.heap.size) := fun k hk => (Q2.out.lo k hk).2
  have K3 : Hid (Keep w2 (w3.alloc (.cells #[.int .i64 2, .int .i64 x.p, .bool x.f, .int .i64 x.g, .slice x.A x.m x.c, .int .i64 x.a, .int .i64 x.h, .int .i64 x.d, .int .i64 x.t] 32))) := Keep.trans k3 (Keep.one _ _)
  have Q3 := Q2.out.keep K3.out
  have cO := qpop_fn Q3 (by simp)
  unfold PodV.val at cO
  have b3 : (w3.alloc (.cells #[.int .i64 2, .int .i64 x.p, .bool x.f, .int .i64 x.g, .slice x.A x.m x.c, .int .i64 x.a, .int .i64 x.h, .int .i64 x.d, .int .i64 x.t] 32)).cell? ⟨w3.heap.size, 0, none⟩ = some (.int .i64 2) := by rw [World.cell?_alloc_new]; rfl
  have z3 : Hid (w2.heap.size ≤ w3.heap.size) := k3.size
  replace cO := Lib.hid cO
  replace b3 := Lib.hid b3
  replace Q3 := Lib.hid Q3
  replace k3 := Lib.hid k3
  replace xi := Lib.hid xi
  replace xm := Lib.hid xm
  clear cK cP
  go_wp2_with fail
  refine cO.out.mono ?_
  rintro e w4 ⟨y, rfl, yi, ym, ⟨F4, ⟨D4, L4, Q4, P4, N4⟩, _, _⟩⟩
  have ey : y.k = 2 := by have := congrArg PodV.k (aw_min yi ym); exact this
  have c4 : w4.cell? ⟨w3.heap.size, 0, none⟩ = some (.int .i64 2) := F4.cell b3.out (fun h => by have h1 : w3.heap.size < w2.heap.size := hD2.out _ h; have := z3.out; omega)
  have K4 : Hid (Keep w (w4.alloc (.cells #[.int .i64 2, .int .i64 y.p, .bool y.f, .int .i64 y.g, .slice y.A y.m y.c, .int .i64 y.a, .int .i64 y.h, .int .i64 y.d, .int .i64 y.t] 32))) := (Fr.low (K2.out.trans K3.out) F4 lo2.out).trans (Keep.one _ _)
  have e4 : L4.Perm [pa0] := by
    rw [aw_min yi ym] at P4
    have h : [pa0, pa1].Perm [pa1, pa0] := List.Perm.swap _ _ _
    exact ((List.perm_cons _).1 (h.symm.trans P4)).symm
  have Q5 := (Q4.perm e4).keep (Keep.one w4 (.cells #[.int .i64 2, .int .i64 y.p, .bool y.f, .int .i64 y.g, .slice y.A y.m y.c, .int .i64 y.a, .int .i64 y.h, .int .i64 y.d, .int .i64 y.t] 32))
  have l4 : w3.heap.size < w4.heap.size := cell_lt c4
  have y0 : (w4.alloc (.cells #[.int .i64 2, .int .i64 y.p, .bool y.f, .int .i64 y.g, .slice y.A y.m y.c, .int .i64 y.a, .int .i64 y.h, .int .i64 y.d, .int .i64 y.t] 32)).cell? ⟨w4.heap.size, 0, none⟩ = some (.int .i64 2) := by rw [World.cell?_alloc_new]; rfl
  have x0 : (w4.alloc (.cells #[.int .i64 2, .int .i64 y.p, .bool y.f, .int .i64 y.g, .slice y.A y.m y.c, .int .i64 y.a, .int .i64 y.h, .int .i64 y.d, .int .i64 y.t] 32)).cell? ⟨w3.heap.size, 0, none⟩ = some (.int .i64 2) := (Keep.one _ _).cell c4
  replace Q5 := Lib.hid Q5
  replace Q4 := Lib.hid Q4
  replace P4 := Lib.hid P4
  replace N4 := Lib.hid N4
  replace F4 := Lib.hid F4
  replace yi := Lib.hid yi
  replace ym := Lib.hid ym
  replace e4 := Lib.hid e4
  have gx := ex
  replace gx := Lib.hid gx
  clear cO c4
  obtain ⟨W5, hW5⟩ : ∃ W5, W5 = w4.alloc (.cells #[.int .i64 2, .int .i64 y.p, .bool y.f, .int .i64 y.g, .slice y.A y.m y.c, .int .i64 y.a, .int .i64 y.h, .int .i64 y.d, .int .i64 y.t] 32) := ⟨_, rfl⟩
  rw [← hW5] at x0 y0 Q5 K4
  go_wp2_with fail
  rw [← hW5]
  have cN := Lib.hid (qpop_nil W5)
  unfold zpod PodV.val at cN
  replace hW5 := Lib.hid hW5
  refine cN.out.mono ?_
  rintro e w6 ⟨rfl, k6⟩
  have Q6 := Lib.hid ((Q5.out.keep k6).keep (Keep.one w6 (.cells #[.int .i64 0, .int .i64 0, .bool false, .int .i64 0, .slice none 0 0, .int .i64 0, .int .i64 0, .int .i64 0, .int .i64 0] 32)))
  have K6 : Hid (Keep w (w6.alloc (.cells #[.int .i64 0, .int .i64 0, .bool false, .int .i64 0, .slice none 0 0, .int .i64 0, .int .i64 0, .int .i64 0, .int .i64 0] 32))) := (K4.out.trans k6).trans (Keep.one _ _)
  have x6 : (w6.alloc (.cells #[.int .i64 0, .int .i64 0, .bool false, .int .i64 0, .slice none 0 0, .int .i64 0, .int .i64 0, .int .i64 0, .int .i64 0] 32)).cell? ⟨w3.heap.size, 0, none⟩ = some (.int .i64 2) := (Keep.one _ _).cell (k6.cell x0)
  have y6 : (w6.alloc (.cells #[.int .i64 0, .int .i64 0, .bool false, .int .i64 0, .slice none 0 0, .int .i64 0, .int .i64 0, .int .i64 0, .int .i64 0] 32)).cell? ⟨w4.heap.size, 0, none⟩ = some (.int .i64 2) := (Keep.one _ _).cell (k6.cell y0)
  replace k6 := Lib.hid k6
  clear x0 y0 cN
  have cL := Lib.hid (qlen_fn Q6.out)
  have cH1 := Lib.hid (qhas_fn Q6.out 1 true (by decide))
  have cH2 := Lib.hid (qhas_fn Q6.out 2 false (by decide))
  have cA := Lib.hid (qall_fn Q6.out)
  go_wp2_with fail
  refine cL.out.mono ?_
  rintro e wa ⟨rfl, rfl⟩
  clear cL
  go_wp2_with fail
  refine cH1.out.mono ?_
  rintro e wa ⟨rfl, rfl⟩
  clear cH1
  go_wp2_with fail
  refine cH2.out.mono ?_
  rintro e wa ⟨rfl, rfl⟩
  clear cH2
  go_wp2_with fail
  refine cA.out.mono ?_
  rintro e w7 ⟨v, S, rfl, hA⟩
  obtain ⟨g, rfl, _⟩ := hA.at_
  have K7 : Hid (Keep w w7) := K6.out.trans hA.keep
  have cL0 := Lib.hid (qlen_nil w7)
  replace hA := Lib.hid hA
  clear cA
  go_wp2_with fail
  refine cL0.out.mono ?_
  rintro e wa ⟨rfl, rfl⟩
  clear cL0
  go_wp2_with fail
  refine (qpush_nil _ _).mono ?_
  rintro e wa ⟨rfl, rfl⟩
  go_wp2
  go_ret
  exact ⟨rfl, K7.out.trans (Keep.one _ _)⟩
end Go.Proofs.Ytmmpmpdjcmilkaa
