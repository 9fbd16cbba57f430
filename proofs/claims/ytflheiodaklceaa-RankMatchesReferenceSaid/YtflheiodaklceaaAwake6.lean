/-
  The law's awake returns true. No condition.
-/
import Derived.Test.YtflheiodaklceaaRSortW6
import Derived.Test.YtflheiodaklceaaLower6
import Derived.Test.YtflheiodaklceaaSums6
namespace Go.Proofs.Ytflheiodaklceaa
open Go.RowKit Go.Sort Go.Shelf

def pw0 : PodV := ⟨7, 1, false, 0, none, 0, 0, fun _ => 0, 0, 0, 0, 0⟩
def pw1 : PodV := ⟨8, 5, false, 0, none, 0, 0, fun _ => 0, 1, 0, 0, 0⟩
def pw2 : PodV := ⟨9, 5, false, 0, none, 0, 0, fun _ => 0, 2, 0, 0, 0⟩
def Paw (t : Nat) : PodV := if t = 0 then pw0 else if t = 1 then pw1 else pw2
theorem three {t : Nat} (h : t < 3) : t = 0 ∨ t = 1 ∨ t = 2 := by omega
theorem paw_ok (t : Nat) (w : World) : PodIs w (Paw t) := by
  have h : ∀ x ∈ [pw0, pw1, pw2], PodIs w x := by
    intro x hx
    simp only [List.mem_cons, List.not_mem_nil, or_false] at hx
    rcases hx with rfl | rfl | rfl <;> exact ⟨Rd.nil _ _ _, fun _ => ⟨rfl, rfl⟩, by unfold I64; decide, by unfold I64; decide, by unfold I64; decide, by unfold I64; decide, by unfold I64; decide, by unfold I64; decide, by unfold I64; decide⟩
  refine h _ ?_
  unfold Paw
  repeat' split
  all_goals simp
theorem paw_m (t : Nat) : (Paw t).m = 0 := by
  unfold Paw
  repeat' split
  all_goals rfl
theorem aw_sorted : SortedL (ltOf (cfP Paw)) [1, 2, 0] := by
  intro s t h1 h2
  have ht : t < 3 := h2
  obtain ⟨rfl, rfl⟩ | ⟨rfl, rfl⟩ | ⟨rfl, rfl⟩ : (s = 0 ∧ t = 1) ∨ (s = 0 ∧ t = 2) ∨ (s = 1 ∧ t = 2) := by omega
  all_goals decide +kernel
theorem aw_least : leastI Paw 3 = 1 := by decide +kernel
theorem aw_hi : hiP Paw 3 = 5 := by decide +kernel
theorem aw_sm : smP Paw 3 = 11 := by decide +kernel
theorem aw_low : lowL Paw 5 3 = [0] := by decide +kernel
theorem aw_bef : befP pw1 pw2 = true := by decide +kernel
theorem aw_cmp : cmpP pw0 pw0 = 0 := by decide +kernel
theorem aw_rd (w : World) (cs : Array Value) (h : cs = (pw0.cells ++ pw1.cells ++ pw2.cells).toArray) : RdPods (w.alloc (.cells cs 25)) (some ⟨w.heap.size, 0, none⟩) 3 Paw := by
  subst h
  refine ⟨by omega, fun _ => ⟨_, 0, rfl, fun j hj => ?_⟩, fun j _ => paw_ok j _⟩
  rcases three hj with rfl | rfl | rfl
  · constructor <;> simp [World.cell?_alloc_new, pw0, pw1, pw2, PodV.cells, Paw]
  · constructor <;> simp [World.cell?_alloc_new, pw0, pw1, pw2, PodV.cells, Paw]
  · constructor <;> simp [World.cell?_alloc_new, pw0, pw1, pw2, PodV.cells, Paw]
set_option maxRecDepth 100000 in
set_option maxHeartbeats 16000000 in
theorem awake_true (w : World) : Calls Try.prog 8 #[] w fun e w' => e = .returned (.bool true) ∧ Keep w w' := by
  have hR := Lib.hid (aw_rd w #[.int .i64 7, .int .i64 1, .bool false, .int .i64 0, .slice none 0 0, .int .i64 0, .int .i64 0, .int .i64 0, .int .i64 0, .int .i64 8, .int .i64 5, .bool false, .int .i64 0, .slice none 0 0, .int .i64 1, .int .i64 0, .int .i64 0, .int .i64 0, .int .i64 9, .int .i64 5, .bool false, .int .i64 0, .slice none 0 0, .int .i64 2, .int .i64 0, .int .i64 0, .int .i64 0] rfl)
  have K0 := Lib.hid (Keep.one w (.cells #[.int .i64 7, .int .i64 1, .bool false, .int .i64 0, .slice none 0 0, .int .i64 0, .int .i64 0, .int .i64 0, .int .i64 0, .int .i64 8, .int .i64 5, .bool false, .int .i64 0, .slice none 0 0, .int .i64 1, .int .i64 0, .int .i64 0, .int .i64 0, .int .i64 9, .int .i64 5, .bool false, .int .i64 0, .slice none 0 0, .int .i64 2, .int .i64 0, .int .i64 0, .int .i64 0] 25))
  obtain ⟨b0, hb0⟩ : ∃ b0, b0 = w.heap.size := ⟨_, rfl⟩
  go_enter Try.func8, Try.ntmps8
  go_wp2_with fail
  refine (ksort_fn _ 3 3 Paw _ hR.out (by omega) (fun j _ => by rw [paw_m]; omega)).mono ?_
  rintro e w1 ⟨v, rfl, k1, g, rfl, _, _, _, S, dk, rS, _, pS, sS, cS⟩
  have od := one_row (cmpP_swo Paw) pS sS (by decide : [1, 2, 0].Perm (List.range 3)) aw_sorted
  have R1 := hR.out.keep k1
  have K1 := Lib.hid (K0.out.trans k1)
  replace k1 := Lib.hid k1
  have s0 : (S 0).k = 8 := by
    obtain ⟨A, c, h⟩ := cS 0 (by omega)
    rw [h, od 0 (by omega)]; rfl
  have s2 : (S 2).k = 7 := by
    obtain ⟨A, c, h⟩ := cS 2 (by omega)
    rw [h, od 2 (by omega)]; rfl
  obtain ⟨bs, os, es, cs⟩ := rS.adr (by omega)
  simp only [Option.some.injEq, Addr.mk.injEq] at es
  obtain ⟨rfl, rfl, _⟩ := es
  have z0 := (cs 0 (by omega)).e0
  have z2 := (cs 2 (by omega)).e0
  rw [s0] at z0
  rw [s2] at z2
  replace z0 := Lib.hid z0
  replace z2 := Lib.hid z2
  clear hR K0 od cS cs rS pS sS s0 s2
  replace R1 := Lib.hid R1
  rw [← hb0] at R1 ⊢
  replace hb0 := Lib.hid hb0
  go_wp2_with fail
  refine (least_fn _ 3 3 Paw _ R1.out).mono ?_
  rintro e w2 ⟨rfl, k2⟩
  rw [aw_least, decide_eq_true (by omega : 0 < 3)]
  have R2 := Lib.hid (R1.out.keep k2)
  have K2 := Lib.hid (K1.out.trans k2)
  replace z0 := Lib.hid (k2.cell z0.out)
  replace z2 := Lib.hid (k2.cell z2.out)
  clear R1 K1
  replace k2 := Lib.hid k2
  go_wp2_with fail
  refine (least_fn none 0 0 Paw _ (RdPods.nil _ _ _)).mono ?_
  rintro e w3 ⟨rfl, k3⟩
  rw [decide_eq_false (by omega : ¬ 0 < 0)]
  have R3 := Lib.hid (R2.out.keep k3)
  have K3 := Lib.hid (K2.out.trans k3)
  replace z0 := Lib.hid (k3.cell z0.out)
  replace z2 := Lib.hid (k3.cell z2.out)
  clear R2 K2
  replace k3 := Lib.hid k3
  go_wp2_with fail
  refine (ksums_fn _ 3 3 Paw _ R3.out (fun j hj => by rcases three hj with rfl | rfl | rfl <;> decide) (by omega)).mono ?_
  rintro e w4 ⟨rfl, k4⟩
  rw [aw_hi, aw_sm]
  have R4 := Lib.hid (R3.out.keep k4)
  have K4 := Lib.hid (K3.out.trans k4)
  have s0 := k4.cell z0.out
  have s2 := k4.cell z2.out
  clear R3 K3 z0 z2
  replace k4 := Lib.hid k4
  obtain ⟨bl, ol, el, cl⟩ := R4.out.adr (by omega)
  simp only [Option.some.injEq, Addr.mk.injEq] at el
  obtain ⟨rfl, rfl, _⟩ := el
  have C0 := cl 0 (by omega)
  have C1 := cl 1 (by omega)
  have C2 := cl 2 (by omega)
  clear cl
  rw [show Paw 0 = pw0 from rfl] at C0
  rw [show Paw 1 = pw1 from rfl] at C1
  rw [show Paw 2 = pw2 from rfl] at C2
  unfold pw0 at C0
  unfold pw1 at C1
  unfold pw2 at C2
  have l00 := C0.e0; have l01 := C0.e1; have l02 := C0.e2; have l03 := C0.e3; have l04 := C0.e4; have l05 := C0.e5; have l06 := C0.e6; have l07 := C0.e7; have l08 := C0.e8
  have l10 := C1.e0; have l11 := C1.e1; have l12 := C1.e2; have l13 := C1.e3; have l14 := C1.e4; have l15 := C1.e5; have l16 := C1.e6; have l17 := C1.e7; have l18 := C1.e8
  have l20 := C2.e0; have l21 := C2.e1; have l22 := C2.e2; have l23 := C2.e3; have l24 := C2.e4; have l25 := C2.e5; have l26 := C2.e6; have l27 := C2.e7; have l28 := C2.e8
  clear C0 C1 C2
  simp only [Nat.zero_add, Nat.reduceMul, Nat.reduceAdd] at l00 l01 l02 l03 l04 l05 l06 l07 l08 l10 l11 l12 l13 l14 l15 l16 l17 l18 l20 l21 l22 l23 l24 l25 l26 l27 l28 s0 s2
  have hB := fun W => before_fn pw1 pw2 W
  rw [aw_bef] at hB
  have hC := fun W => kcompare_fn pw0 pw0 W
  rw [aw_cmp] at hC
  have hL := fun W (K : Keep w4 W) => klower_fn _ 3 3 Paw 5 W (R4.out.keep K) (by omega) (fun j _ => by rw [paw_m]; omega)
  rw [aw_low] at hL
  unfold PodV.val pw0 at hC
  unfold PodV.val pw1 pw2 at hB
  replace hB := Lib.hid hB
  replace hC := Lib.hid hC
  replace hL := Lib.hid hL
  clear R4
  go_wp2_with fail
  go_region_held3 (fun w' => w'.cell? ⟨b0, 0, none⟩ = some (.int .i64 7) ∧ w'.cell? ⟨b0, 1, none⟩ = some (.int .i64 1) ∧ w'.cell? ⟨b0, 2, none⟩ = some (.bool false) ∧ w'.cell? ⟨b0, 3, none⟩ = some (.int .i64 0) ∧ w'.cell? ⟨b0, 4, none⟩ = some (.slice none 0 0) ∧ w'.cell? ⟨b0, 5, none⟩ = some (.int .i64 0) ∧ w'.cell? ⟨b0, 6, none⟩ = some (.int .i64 0) ∧ w'.cell? ⟨b0, 7, none⟩ = some (.int .i64 0) ∧ w'.cell? ⟨b0, 8, none⟩ = some (.int .i64 0) ∧ w'.cell? ⟨b0, 9, none⟩ = some (.int .i64 8) ∧ w'.cell? ⟨b0, 10, none⟩ = some (.int .i64 5) ∧ w'.cell? ⟨b0, 11, none⟩ = some (.bool false) ∧ w'.cell? ⟨b0, 12, none⟩ = some (.int .i64 0) ∧ w'.cell? ⟨b0, 13, none⟩ = some (.slice none 0 0) ∧ w'.cell? ⟨b0, 14, none⟩ = some (.int .i64 1) ∧ w'.cell? ⟨b0, 15, none⟩ = some (.int .i64 0) ∧ w'.cell? ⟨b0, 16, none⟩ = some (.int .i64 0) ∧ w'.cell? ⟨b0, 17, none⟩ = some (.int .i64 0) ∧ w'.cell? ⟨b0, 18, none⟩ = some (.int .i64 9) ∧ w'.cell? ⟨b0, 19, none⟩ = some (.int .i64 5) ∧ w'.cell? ⟨b0, 20, none⟩ = some (.bool false) ∧ w'.cell? ⟨b0, 21, none⟩ = some (.int .i64 0) ∧ w'.cell? ⟨b0, 22, none⟩ = some (.slice none 0 0) ∧ w'.cell? ⟨b0, 23, none⟩ = some (.int .i64 2) ∧ w'.cell? ⟨b0, 24, none⟩ = some (.int .i64 0) ∧ w'.cell? ⟨b0, 25, none⟩ = some (.int .i64 0) ∧ w'.cell? ⟨b0, 26, none⟩ = some (.int .i64 0) ∧ w'.cell? ⟨g, 0, none⟩ = some (.int .i64 8) ∧ w'.cell? ⟨g, 18, none⟩ = some (.int .i64 7))
      ((refine (fun (K : Keep w4 _) => ⟨K.cell l00, K.cell l01, K.cell l02, K.cell l03, K.cell l04, K.cell l05, K.cell l06, K.cell l07, K.cell l08, K.cell l10, K.cell l11, K.cell l12, K.cell l13, K.cell l14, K.cell l15, K.cell l16, K.cell l17, K.cell l18, K.cell l20, K.cell l21, K.cell l22, K.cell l23, K.cell l24, K.cell l25, K.cell l26, K.cell l27, K.cell l28, K.cell s0, K.cell s2⟩) ?_; repeat (with_reducible first | exact Keep.refl w4 | apply Keep.alloc | apply Keep.drew | (refine Keep.trans ?_ h5.out) | (refine Keep.trans ?_ h6.out) | (refine Keep.trans ?_ h7.out))))
      (first
        | (go_at_call 12; refine (hB.out _).mono ?_; rintro e w5 ⟨rfl, h5⟩; replace h5 := Lib.hid h5.keep)
        | (go_at_call 10; refine (hC.out _).mono ?_; rintro e w6 ⟨rfl, h6⟩; replace h6 := Lib.hid h6.keep)
        | (go_at_call 20; refine (hL.out _ (by repeat (with_reducible first | exact Keep.refl w4 | apply Keep.alloc | apply Keep.drew | (refine Keep.trans ?_ h5.out) | (refine Keep.trans ?_ h6.out)))).mono ?_; rintro e w7 ⟨v, rfl, h7, A7, c7, S7, rfl, _⟩; replace h7 := Lib.hid h7))
  all_goals
    go_wp2
    go_ret
    refine ⟨rfl, K4.out.trans ?_⟩
    repeat (with_reducible first | exact Keep.refl w4 | apply Keep.alloc | apply Keep.drew | (refine Keep.trans ?_ h5.out) | (refine Keep.trans ?_ h6.out) | (refine Keep.trans ?_ h7.out))
end Go.Proofs.Ytflheiodaklceaa
