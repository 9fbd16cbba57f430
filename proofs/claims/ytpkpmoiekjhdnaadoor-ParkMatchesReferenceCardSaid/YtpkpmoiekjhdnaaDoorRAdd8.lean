/-
  The reference's Add. Condition: at most 1000 pods.
-/
import Derived.Test.YtpkpmoiekjhdnaaDoorAddI8
namespace Go.Proofs.YtpkpmoiekjhdnaaDoor
open Go.RowKit Go.Sort Go.Lib Go.Shelf

theorem any_cast {P : Program} {md : Region.Mode} {ops ops' : Array Oper} {Q : Exit → Act → World → Prop} {S : World → Prop} {k : Nat} {l l' : Array Bool} {a a' : Act} {w : World} (h1 : ops' = ops) (h2 : l' = l) (h3 : a' = a) (H : wpAnyH P md ops' Q S k l' a' w) : wpAnyH P md ops Q S k l a w := by
  subst h1 h2 h3
  exact H
/-- The frame ahead of the region. -/
def adE (A : Option Addr) (n c : Nat) (A2 : Option Addr) (c2 : Nat) (x : PodV) (r : Int) (s : Nat) (i : Nat) : Value :=
  [.agg #[.slice A n c, .slice A2 n c2], .agg #[.int .i64 x.k, .int .i64 x.p, .bool x.f, .int .i64 x.g, .slice x.A x.m x.c, .int .i64 x.a, .int .i64 x.h, .int .i64 x.d, .int .i64 x.t], .int .i64 r, .pointer (some ⟨s, 0, none⟩), .pointer (some ⟨s + 1, 0, none⟩), undef, .pointer (some ⟨s + 1 + 1, 0, none⟩), undef, .int .i64 r, .bool false, .bool false, .int .i64 r, .bool false, .bool false, .bool false, .pointer (some ⟨s, 0, none⟩), .slice A n c, .pointer (some ⟨s + 1, 0, none⟩), .int .i64 x.k, .int .i64 (-1), .bool false, .bool false, undef,
   undef, .pointer (some ⟨s, 0, none⟩), .slice A n c, undef, .agg #[.int .i64 x.k, .int .i64 x.p, .bool x.f, .int .i64 x.g, .slice x.A x.m x.c, .int .i64 x.a, .int .i64 x.h, .int .i64 x.d, .int .i64 x.t], undef, undef, undef, .pointer (some ⟨s, 1, none⟩), .slice A2 n c2, undef, .int .i64 r, undef, undef, undef].getD i undef
set_option maxRecDepth 100000 in
set_option maxHeartbeats 8000000 in
theorem radd8_wrong (A : Option Addr) (n c : Nat) (A2 : Option Addr) (n2 c2 : Nat) (x : PodV) (r : Int) (w : World) (hr : r < 1 ∨ 4 < r) :
    Calls Tryd.prog 25 #[.agg #[.slice A n c, .slice A2 n2 c2], x.val, .int .i64 r] w fun e w' => e = .returned (.tuple #[.agg #[.slice A n c, .slice A2 n2 c2], .bool false]) ∧ Keep w w' := by
  unfold PodV.val
  rcases hr with hr | hr
  · go_enter Tryd.func25, Tryd.ntmps25
    go_wp2
    refine bodyPost_ret (v := .tuple #[.agg #[.slice A n c, .slice A2 n2 c2], .bool false]) (by simp [results, Tryd.results25, go_sem, *]) rfl ⟨rfl, ?_⟩
    repeat (first | exact Keep.refl _ | (refine Keep.set ?_ (by simp) _) | apply Keep.alloc)
  · have hr1 : ¬ r < 1 := by omega
    go_enter Tryd.func25, Tryd.ntmps25
    go_wp2
    refine bodyPost_ret (v := .tuple #[.agg #[.slice A n c, .slice A2 n2 c2], .bool false]) (by simp [results, Tryd.results25, go_sem, *]) rfl ⟨rfl, ?_⟩
    repeat (first | exact Keep.refl _ | (refine Keep.set ?_ (by simp) _) | apply Keep.alloc)
set_option maxRecDepth 100000 in
set_option maxHeartbeats 8000000 in
theorem radd8_there (A : Option Addr) (n c : Nat) (S : Nat → PodV) (A2 : Option Addr) (n2 c2 : Nat) (x : PodV) (r : Int) (w : World) (hR : RdPods w A n S) (h1 : 1 ≤ r) (h4 : r ≤ 4) (hk : 0 ≤ findN S x.k n) :
    Calls Tryd.prog 25 #[.agg #[.slice A n c, .slice A2 n2 c2], x.val, .int .i64 r] w fun e w' => e = .returned (.tuple #[.agg #[.slice A n c, .slice A2 n2 c2], .bool false]) ∧ Keep w w' := by
  unfold PodV.val
  obtain ⟨W0, hW0⟩ : ∃ W, W = ((w.alloc (.cells #[.slice A n c, .slice A2 n2 c2] 30)).alloc (.cells #[.int .i64 x.k, .int .i64 x.p, .bool x.f, .int .i64 x.g, .slice x.A x.m x.c, .int .i64 x.a, .int .i64 x.h, .int .i64 x.d, .int .i64 x.t] 35)).alloc (.cells #[.slice none 0 0, .slice none 0 0] 30) := ⟨_, rfl⟩
  have K0 : Keep w W0 := by rw [hW0]; exact ((Keep.one _ _).alloc _).alloc _
  have cF := rfind_fn A n c S x.k W0 (hR.keep K0)
  have hr1 : ¬ r < 1 := by omega
  have hr4 : ¬ 4 < r := by omega
  rw [hW0] at cF
  generalize findN S x.k n = q at cF hk
  replace cF := Lib.hid cF
  replace hW0 := Lib.hid hW0
  replace K0 := Lib.hid K0
  go_enter Tryd.func25, Tryd.ntmps25
  go_wp2_with fail
  refine cF.out.mono ?_
  rintro e w1 ⟨rfl, rfl⟩
  clear cF
  go_wp2
  refine bodyPost_ret (v := .tuple #[.agg #[.slice A n c, .slice A2 n2 c2], .bool false]) (by simp [results, Tryd.results25, go_sem, *]) rfl ⟨rfl, ?_⟩
  repeat (first | exact Keep.refl _ | (refine Keep.set ?_ (by simp) _) | apply Keep.alloc)
set_option maxRecDepth 100000 in
set_option maxHeartbeats 8000000 in
theorem radd8_new (A : Option Addr) (n c : Nat) (S : Nat → PodV) (A2 : Option Addr) (c2 : Nat) (Z : Nat → Int) (x : PodV) (r : Int) (w : World) (hR : RdPods w A n S) (h0 : A = none → n = 0 ∧ c = 0) (hR2 : Rd w A2 n Z) (h02 : A2 = none → n = 0 ∧ c2 = 0) (hn : n ≤ 1000) (h1 : 1 ≤ r) (h4 : r ≤ 4) (hx : PodIs w x) (hk : ∀ j, j < n → (S j).k ≠ x.k) :
    Calls Tryd.prog 25 #[.agg #[.slice A n c, .slice A2 n c2], x.val, .int .i64 r] w fun e w' => ∃ B d B2 d2, e = .returned (.tuple #[.agg #[.slice B (n + 1) d, .slice B2 (n + 1) d2], .bool true]) ∧ Keep w w' ∧ RdPods w' B (n + 1) (put S n x) ∧ Rd w' B2 (n + 1) (putZ Z n r) ∧ (∀ b off, B = some ⟨b, off, none⟩ → w.heap.size ≤ b) ∧ (∀ b off, B2 = some ⟨b, off, none⟩ → w.heap.size ≤ b) ∧ n + 1 ≤ d := by
  have mixed : Tryd.prog.follows .mixedOrders = true := by kernel_rfl
  unfold PodV.val
  obtain ⟨W0, hW0⟩ : ∃ W, W = ((w.alloc (.cells #[.slice A n c, .slice A2 n c2] 30)).alloc (.cells #[.int .i64 x.k, .int .i64 x.p, .bool x.f, .int .i64 x.g, .slice x.A x.m x.c, .int .i64 x.a, .int .i64 x.h, .int .i64 x.d, .int .i64 x.t] 35)).alloc (.cells #[.slice none 0 0, .slice none 0 0] 30) := ⟨_, rfl⟩
  have z1 : (w.alloc (.cells #[.slice A n c, .slice A2 n c2] 30)).heap.size = w.heap.size + 1 := by rw [World.size_alloc]
  have z2 : ((w.alloc (.cells #[.slice A n c, .slice A2 n c2] 30)).alloc (.cells #[.int .i64 x.k, .int .i64 x.p, .bool x.f, .int .i64 x.g, .slice x.A x.m x.c, .int .i64 x.a, .int .i64 x.h, .int .i64 x.d, .int .i64 x.t] 35)).heap.size = w.heap.size + 1 + 1 := by rw [World.size_alloc, z1]
  have K0 : Keep w W0 := by rw [hW0]; exact ((Keep.one _ _).alloc _).alloc _
  have a0 : W0.heap[w.heap.size]? = some (.cells #[.slice A n c, .slice A2 n c2] 30 (0, 0)) := by
    rw [hW0]
    exact (Keep.one _ _).block ((Keep.one _ _).block (heap_alloc_new w _))
  have a1 : W0.heap[w.heap.size + 1]? = some (.cells #[.int .i64 x.k, .int .i64 x.p, .bool x.f, .int .i64 x.g, .slice x.A x.m x.c, .int .i64 x.a, .int .i64 x.h, .int .i64 x.d, .int .i64 x.t] 35 (0, 0)) := by
    rw [hW0, ← z1]
    exact (Keep.one _ _).block (heap_alloc_new _ _)
  have a2 : W0.heap[w.heap.size + 1 + 1]? = some (.cells #[.slice none 0 0, .slice none 0 0] 30 (0, 0)) := by
    rw [hW0, ← z2]
    exact heap_alloc_new _ _
  have z0 : W0.heap.size = w.heap.size + 1 + 1 + 1 := by rw [hW0, World.size_alloc, z2]
  have cF := rfind_fn A n c S x.k W0 (hR.keep K0)
  rw [find_no hk] at cF
  have hr1 : ¬ r < 1 := by omega
  have hr4 : ¬ 4 < r := by omega
  rw [hW0] at cF
  replace cF := Lib.hid cF
  replace K0 := Lib.hid K0
  replace z1 := Lib.hid z1
  replace z2 := Lib.hid z2
  replace z0 := Lib.hid z0
  replace a0 := Lib.hid a0
  replace a1 := Lib.hid a1
  replace a2 := Lib.hid a2
  replace hx := Lib.hid hx
  replace hR := Lib.hid hR
  replace hR2 := Lib.hid hR2
  replace h0 := Lib.hid h0
  replace h02 := Lib.hid h02
  go_enter Tryd.func25, Tryd.ntmps25
  go_wp2_with fail
  refine cF.out.mono ?_
  rintro e w1 ⟨rfl, rfl⟩
  clear cF
  go_wp2_with fail
  rw [← hW0]
  replace hW0 := Lib.hid hW0
  refine wp_region_held (S := adS w.heap.size A n c A2 c2 x) mixed ?_
  change wpAnyH _ _ _ _ _ _ _ _ W0.drew
  have S0 : adS w.heap.size A n c A2 c2 x W0.drew := ⟨a0.out, a1.out⟩
  have t0 : ∀ W, adS w.heap.size A n c A2 c2 x W → W.cell? ⟨w.heap.size, 0, none⟩ = some (.slice A n c) := fun W h => by rw [cell_of_row W _ _ _ _ _ h.1]; rfl
  have t1 : ∀ W, adS w.heap.size A n c A2 c2 x W → W.cell? ⟨w.heap.size, 1, none⟩ = some (.slice A2 n c2) := fun W h => by rw [cell_of_row W _ _ _ _ _ h.1]; rfl
  refine wpAnyH_take (i := 1) (v := .pointer (some ⟨w.heap.size, 0, none⟩)) rfl (by kernel_rfl) (by kernel_rfl) (by kernel_rfl) (fun _ _ _ h => h) (Or.inl ⟨by rfl, fun W _ => by go_simp⟩) S0 ?_
  refine wpAnyH_take (i := 2) (v := .slice A n c) rfl (by kernel_rfl) (by kernel_rfl) (by kernel_rfl) (fun _ _ _ h => h) (Or.inl ⟨by rfl, fun W hW => by have := t0 W hW; go_simp⟩) S0 ?_
  have px : ∀ W, adS w.heap.size A n c A2 c2 x W → ∀ i v, (#[.int .i64 x.k, .int .i64 x.p, .bool x.f, .int .i64 x.g, .slice x.A x.m x.c, .int .i64 x.a, .int .i64 x.h, .int .i64 x.d, .int .i64 x.t] : Array Value)[i]? = some v → W.cell? ⟨w.heap.size + 1, i, none⟩ = some v := fun W h i v hv => by rw [cell_of_row W _ _ _ _ _ h.2]; exact hv
  refine wpAnyH_take (i := 4) (v := .agg #[.int .i64 x.k, .int .i64 x.p, .bool x.f, .int .i64 x.g, .slice x.A x.m x.c, .int .i64 x.a, .int .i64 x.h, .int .i64 x.d, .int .i64 x.t]) rfl (by kernel_rfl) (by kernel_rfl) (by kernel_rfl) (fun _ _ _ h => h) (Or.inl ⟨by rfl, fun W hW => by
    have x0 := px W hW 0 _ rfl
    have x1 := px W hW 1 _ rfl
    have x2 := px W hW 2 _ rfl
    have x3 := px W hW 3 _ rfl
    have x4 := px W hW 4 _ rfl
    have x5 := px W hW 5 _ rfl
    have x6 := px W hW 6 _ rfl
    have x7 := px W hW 7 _ rfl
    have x8 := px W hW 8 _ rfl
    go_simp⟩) S0 ?_
  refine wpAnyH_take (i := 8) (v := .pointer (some ⟨w.heap.size, 1, none⟩)) rfl (by kernel_rfl) (by kernel_rfl) (by kernel_rfl) (fun _ _ _ h => h) (Or.inl ⟨by rfl, fun W _ => by go_simp⟩) S0 ?_
  refine wpAnyH_take (i := 9) (v := .slice A2 n c2) rfl (by kernel_rfl) (by kernel_rfl) (by kernel_rfl) (fun _ _ _ h => h) (Or.inl ⟨by rfl, fun W hW => by have := t1 W hW; go_simp⟩) S0 ?_
  refine wpAnyH_take (i := 11) (v := .int .i64 r) rfl (by kernel_rfl) (by kernel_rfl) (by kernel_rfl) (fun _ _ _ h => h) (Or.inl ⟨by rfl, fun W _ => by go_simp⟩) S0 ?_
  have f0 : ∀ {W}, Fr (fun k => k = w.heap.size + 1 + 1) W0.drew W → Keep w W := fun F => Fr.low (w0 := w) (w := W0.drew) K0.out.drew F fun i hi => by omega
  refine any_cast (ops' := adOps) (l' := adB false false false false false false false false false false false) (a' := adF (adE A n c A2 c2 x r w.heap.size) (.bool false) undef undef undef undef undef undef undef undef undef) (by kernel_rfl) (by kernel_rfl) (by rfl) ?_
  refine ad_region (s := w.heap.size + 1 + 1) (S := S) (Z := Z) S0 (by omega) (by omega) hn rfl rfl rfl (fun W F => ?_) (fun W F => ?_) a2.out (fun v23 v26 v28 v30 v33 v35 v37 B d B2 d2 W F hs ra rb => ?_) _ _
  · exact src_rd (hR.out.keep (f0 F)) h0.out
  · exact srcN_rd (hR2.out.keep (f0 F)) h02.out
  · have kW := Lib.hid (f0 F)
    have o0 : W.cell? ⟨w.heap.size + 1 + 1, 0, none⟩ = some (.slice B (n + 1) d) := by rw [cell_of_row W _ _ _ _ _ hs]; rfl
    have o1 : W.cell? ⟨w.heap.size + 1 + 1, 1, none⟩ = some (.slice B2 (n + 1) d2) := by rw [cell_of_row W _ _ _ _ _ hs]; rfl
    have lo : w.heap.size ≤ W0.drew.heap.size := by show _ ≤ W0.heap.size; rw [z0.out]; omega
    have fin : Hid (RdPods W B (n + 1) (put S n x) ∧ Rd W B2 (n + 1) (putZ Z n r) ∧ (∀ b off, B = some ⟨b, off, none⟩ → w.heap.size ≤ b) ∧ (∀ b off, B2 = some ⟨b, off, none⟩ → w.heap.size ≤ b) ∧ n + 1 ≤ d) := by
      refine ⟨rows_rd ra (by omega) fun j hj => ?_, rdN_own rb (by omega) fun j hj => ?_, fun b off e => Nat.le_trans lo (ra.lt b (by rw [e]; rfl)).1, fun b off e => Nat.le_trans lo (rb.lt b (by rw [e]; rfl)).1, own_cap ra⟩
      · by_cases e : j = n
        · rw [e, put_at]; exact hx.out.keep kW.out
        · rw [put_ne _ _ _ e]; exact (hR.out.is j (by omega)).keep kW.out
      · by_cases e : j = n
        · rw [e, putZ_at]; omega
        · rw [putZ_ne _ _ _ e]; exact hR2.out.range j (by omega)
    replace F := Lib.hid F
    replace hs := Lib.hid hs
    replace ra := Lib.hid ra
    replace rb := Lib.hid rb
    clear px t0 t1 S0 f0
    unfold adF adE
    simp only [List.getD_cons_zero, List.getD_cons_succ]
    go_wp2
    refine bodyPost_ret (v := .tuple #[.agg #[.slice B (n + 1) d, .slice B2 (n + 1) d2], .bool true]) (by simp [results, Tryd.results25, go_sem, *]) rfl ⟨B, d, B2, d2, rfl, kW.out, fin.out⟩
end Go.Proofs.YtpkpmoiekjhdnaaDoor
