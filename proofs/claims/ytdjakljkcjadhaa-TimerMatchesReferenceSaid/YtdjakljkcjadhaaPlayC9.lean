/-
  The law's play, cancelling. No condition but the contracts.
-/
import Derived.Test.YtdjakljkcjadhaaPlayD9
namespace Go.Proofs.Ytdjakljkcjadhaa.T9
open Go.RowKit Go.Sort Go.Lib

section
variable {TI : World → Nat → Nat → (Nat → Prop) → List TmV → Prop} {w : World} {b bq : Nat} {D : Nat → Prop} {B : Option Addr} {d : Nat} {L : List TmV}
/-- The list behind a cancellation. -/
theorem cancel_post (C : Con TI) {W1 w5 W5 : World} (K1 : Keep w W1) (h : Side TI w b bq D B d L) (hl : L.length ≤ 100) (id : Int) {D5 : Nat → Prop} (T5 : TI w5 b bq D5 (woL L id)) (F5 : Fr D W1 w5) (N5 : ∀ k, D5 k → D k ∨ W1.heap.size ≤ k) (K5 : Keep w5 W5) :
    ∀ W', Keep W5 W' → Calls Try.prog 21 #[.slice B L.length d, .int .i64 id] W' fun e w6 => ∃ B6 d6, e = .returned (.slice B6 (woL L id).length d6) ∧ Keep W' w6 ∧ ∀ W2, Keep w6 W2 → After TI w W2 b bq D B6 d6 (woL L id) := by
  intro W' k'
  have R5 := (h.rd.keep K1).fr F5 h.off
  have hw := wo_len (row L) id L.length
  rw [lst_row] at hw
  have cW := rwithout_fn B L.length d (row L) id W' ((R5.keep K5).keep k') (by omega)
  rw [lst_row] at cW
  refine cW.mono ?_
  rintro e w6 ⟨B6, d6, rfl, k6, R6⟩
  refine ⟨B6, d6, rfl, k6, fun W2 k2 => ?_⟩
  have KK : Keep w5 w6 := (K5.trans k').trans k6
  have rl := own_rlist (A := none) (n := 0) k6 R6 (by omega) (fun x hx => C.ok h.t x (wo_mem hx))
  have ltD : ∀ k, D5 k → k < W'.heap.size := fun k hk => Nat.lt_of_lt_of_le (C.lo T5 k hk).2 (K5.trans k').size
  refine ⟨((Fr.after K1 F5).keep KK).keep k2, D5, ⟨C.keep (C.keep T5 KK) k2, rl.rd.keep k2, rl.pl, rl.cap, rl.off D5 (Off.nil _ _) ltD⟩, fun k hk => ?_⟩
  rcases N5 k hk with h1 | h1
  · exact Or.inl h1
  · right
    have := K1.size
    omega
set_option maxRecDepth 100000 in
set_option maxHeartbeats 16000000 in
theorem play_cancel (C : Con TI) (h : Side TI w b bq D B d L) (hl : L.length ≤ 100) (x : TmV) (hx : TmOk x) :
    Calls Try.prog 10 #[.pointer (some ⟨bq, 0, none⟩), .slice B L.length d, .agg #[.int .i64 1, .int .i64 x.k, .int .i64 x.t, .int .i64 x.a]] w fun e w' => ∃ B' L' d', e = .returned (.tuple #[.slice B' L'.length d', .bool true]) ∧ L'.length ≤ L.length + 1 ∧ After TI w w' b bq D B' d' L' := by
  have mixed : Try.prog.follows .mixedOrders = true := by kernel_rfl
  obtain ⟨W, hW⟩ : ∃ W, W = w.alloc (.cells #[.int .i64 1, .int .i64 x.k, .int .i64 x.t, .int .i64 x.a] 32) := ⟨_, rfl⟩
  have KW : Keep w W := by rw [hW]; exact Keep.one _ _
  have hb : W.heap[w.heap.size]? = some (.cells #[.int .i64 1, .int .i64 x.k, .int .i64 x.t, .int .i64 x.a] 32 (0, 0)) := by rw [hW]; exact heap_alloc_new _ _
  have u1 : W.cell? ⟨w.heap.size, 1, none⟩ = some (.int .i64 x.k) := by rw [cell_of_row W _ _ _ _ _ hb]; rfl
  have RW := h.rd.keep KW
  have cF := rfind_fn B L.length d (row L) x.k W RW
  have wle : (woL L x.k).length ≤ L.length := by
    have := wo_len (row L) x.k L.length
    rwa [lst_row] at this
  have ltD : ∀ k, D k → k < w.heap.size := fun k hk => (C.lo h.t k hk).2
  have szW : w.heap.size < W.heap.size := cell_lt u1
  rcases find_cases (row L) x.k L.length with ⟨f1, f2⟩ | ⟨j, hj, f1, f3, f2, f4⟩
  · rw [f1] at cF
    obtain ⟨W1, hW1⟩ : ∃ W', W' = W.alloc (.cells #[.int .i64 0, .int .i64 0, .int .i64 0] 30) := ⟨_, rfl⟩
    have k1 : Keep W W1 := by rw [hW1]; exact Keep.one _ _
    have K1 : Keep w W1 := KW.trans k1
    have zb1 : W1.heap[W.heap.size]? = some (.cells #[.int .i64 0, .int .i64 0, .int .i64 0] 30 (0, 0)) := by rw [hW1]; exact heap_alloc_new _ _
    have v1 : W1.cell? ⟨w.heap.size, 1, none⟩ = some (.int .i64 x.k) := k1.cell u1
    have T1 := C.keep h.t K1
    have cO := C.cancel_to T1 x.k hx.k 0 0 0 (get_none (by rw [lst_row] at f2; exact f2)) rfl (s := false) (decide_eq_false (by rw [lst_row] at f2; exact f2))
    obtain ⟨n, hn⟩ : ∃ n, n = L.length := ⟨_, rfl⟩
    obtain ⟨m, hm⟩ : ∃ m, m = (woL L x.k).length := ⟨_, rfl⟩
    have post := fun (w5 W5 : World) (D5 : Nat → Prop) T5 F5 N5 K5 => cancel_post C K1 h hl x.k (w5 := w5) (W5 := W5) (D5 := D5) T5 F5 N5 K5
    rw [← hm] at post wle
    rw [← hn] at post hl wle cF ⊢
    have b1 : W1.cell? ⟨w.heap.size, 1, none⟩ = some (.int .i64 x.k) := v1
    replace hn := Lib.hid hn
    replace hm := Lib.hid hm
    replace h := Lib.hid h
    replace hx := Lib.hid hx
    replace hb := Lib.hid hb
    replace cF := Lib.hid cF
    replace KW := Lib.hid KW
    replace RW := Lib.hid RW
    replace k1 := Lib.hid k1
    replace K1 := Lib.hid K1
    replace zb1 := Lib.hid zb1
    replace T1 := Lib.hid T1
    replace cO := Lib.hid cO
    replace post := Lib.hid post
    replace f2 := Lib.hid f2
    replace ltD := Lib.hid ltD
    replace szW := Lib.hid szW
    replace v1 := Lib.hid v1
    replace u1' := Lib.hid u1
    rw [hW1] at b1
    go_enter Try.func10, Try.ntmps10
    go_wp2_with fail
    rw [← hW]
    replace hW := Lib.hid hW
    refine cF.out.mono ?_
    rintro e w4 ⟨rfl, rfl⟩
    clear cF
    go_wp2_with fail
    rw [← hW1]
    replace hW1 := Lib.hid hW1
    refine cO.out.mono ?_
    rintro e w5 ⟨rfl, D5, T5, F5, N5⟩
    obtain ⟨W5, hW5⟩ : ∃ W', W' = w5.alloc (.cells #[.int .i64 0, .int .i64 0, .int .i64 0] 33) := ⟨_, rfl⟩
    have k5 : Keep w5 W5 := by rw [hW5]; exact Keep.one _ _
    have yb : W5.heap[w5.heap.size]? = some (.cells #[.int .i64 0, .int .i64 0, .int .i64 0] 33 (0, 0)) := by rw [hW5]; exact heap_alloc_new _ _
    have lt1 : W.heap.size < W1.heap.size := by have := zb1.out; rcases Nat.lt_or_ge W.heap.size W1.heap.size with h1 | h1; exact h1; rw [Array.getElem?_eq_none h1] at this; cases this
    have zb5 : w5.heap[W.heap.size]? = some (.cells #[.int .i64 0, .int .i64 0, .int .i64 0] 30 (0, 0)) := (F5.block _ lt1 (fun hd => by have := ltD.out _ hd; have := szW.out; omega)).trans zb1.out
    have zb : W5.heap[W.heap.size]? = some (.cells #[.int .i64 0, .int .i64 0, .int .i64 0] 30 (0, 0)) := k5.block zb5
    have o1 : W5.cell? ⟨w.heap.size, 1, none⟩ = some (.int .i64 x.k) := k5.cell (F5.cell v1.out (fun hd => by have h9 : w.heap.size < w.heap.size := ltD.out _ hd; omega))
    have z0 : W5.cell? ⟨W.heap.size, 0, none⟩ = some (.int .i64 0) := by rw [cell_of_row W5 _ _ _ _ _ zb]; rfl
    have z1 : W5.cell? ⟨W.heap.size, 1, none⟩ = some (.int .i64 0) := by rw [cell_of_row W5 _ _ _ _ _ zb]; rfl
    have z2 : W5.cell? ⟨W.heap.size, 2, none⟩ = some (.int .i64 0) := by rw [cell_of_row W5 _ _ _ _ _ zb]; rfl
    have y0 : W5.cell? ⟨w5.heap.size, 0, none⟩ = some (.int .i64 0) := by rw [cell_of_row W5 _ _ _ _ _ yb]; rfl
    have y1 : W5.cell? ⟨w5.heap.size, 1, none⟩ = some (.int .i64 0) := by rw [cell_of_row W5 _ _ _ _ _ yb]; rfl
    have y2 : W5.cell? ⟨w5.heap.size, 2, none⟩ = some (.int .i64 0) := by rw [cell_of_row W5 _ _ _ _ _ yb]; rfl
    have cW := Lib.hid (post.out w5 W5 D5 T5 F5 N5 k5)
    clear b1
    replace k5 := Lib.hid k5
    replace yb := Lib.hid yb
    replace lt1 := Lib.hid lt1
    replace zb5 := Lib.hid zb5
    replace zb := Lib.hid zb
    replace T5 := Lib.hid T5
    replace F5 := Lib.hid F5
    replace N5 := Lib.hid N5
    clear cO u1
    go_wp2_with fail
    rw [← hW5]
    replace hW5 := Lib.hid hW5
    go_region_held3 (fun w' => w'.cell? ⟨w.heap.size, 1, none⟩ = some (.int .i64 x.k) ∧ w'.cell? ⟨W.heap.size, 0, none⟩ = some (.int .i64 0) ∧ w'.cell? ⟨W.heap.size, 1, none⟩ = some (.int .i64 0) ∧ w'.cell? ⟨W.heap.size, 2, none⟩ = some (.int .i64 0) ∧ w'.cell? ⟨w5.heap.size, 0, none⟩ = some (.int .i64 0) ∧ w'.cell? ⟨w5.heap.size, 1, none⟩ = some (.int .i64 0) ∧ w'.cell? ⟨w5.heap.size, 2, none⟩ = some (.int .i64 0))
      (first
        | ((refine (fun (KK : Keep W5 _) => ⟨KK.cell o1, KK.cell z0, KK.cell z1, KK.cell z2, KK.cell y0, KK.cell y1, KK.cell y2⟩) ?_; repeat (with_reducible first | exact Keep.refl W5 | apply Keep.drew | apply Keep.drewN | (refine Keep.trans ?_ k6.out))); done))
      (first | (go_at_call 21; refine (cW.out _ (by repeat (with_reducible first | exact Keep.refl W5 | apply Keep.drew | apply Keep.drewN))).mono ?_; rintro e w6 ⟨B6, d6, rfl, k6, fin⟩; replace k6 := Lib.hid k6; replace fin := Lib.hid fin))
    all_goals
      clear z0 z1 z2 y0 y1 y2 o1 cW
      go_wp2
      go_ret2
      exact ⟨B6, woL L x.k, d6, by rw [← hm.out]; rfl, by rw [← hm.out]; omega, fin.out _ (by repeat (with_reducible first | exact Keep.refl w6 | apply Keep.drew | apply Keep.drewN))⟩
  · rw [f1] at cF
    obtain ⟨g, o, hB, ca⟩ := RW.adr (by omega)
    subst hB
    have q1 := atR g o L.length d j hj
    have Y := ca j hj
    obtain ⟨y, hy⟩ : ∃ y, y = row L j := ⟨_, rfl⟩
    rw [lst_row] at f2 f4
    rw [← hy] at Y f4 f3
    have yc0 := Y.e0; have yc1 := Y.e1; have yc2 := Y.e2
    have gl : g < W.heap.size := cell_lt yc0
    have fb : decide (x.k ∈ keys L) = true := decide_eq_true f2
    replace hy := Lib.hid hy
    replace f3 := Lib.hid f3
    clear ca Y
    obtain ⟨W1, hW1⟩ : ∃ W', W' = W.alloc (.cells #[.int .i64 y.k, .int .i64 y.t, .int .i64 y.a] 30) := ⟨_, rfl⟩
    have k1 : Keep W W1 := by rw [hW1]; exact Keep.one _ _
    have K1 : Keep w W1 := KW.trans k1
    have zb1 : W1.heap[W.heap.size]? = some (.cells #[.int .i64 y.k, .int .i64 y.t, .int .i64 y.a] 30 (0, 0)) := by rw [hW1]; exact heap_alloc_new _ _
    have v1 : W1.cell? ⟨w.heap.size, 1, none⟩ = some (.int .i64 x.k) := k1.cell u1
    have T1 := C.keep h.t K1
    have cO := C.cancel_to T1 x.k hx.k y.k y.t y.a f4 rfl (s := true) fb
    obtain ⟨n, hn⟩ : ∃ n, n = L.length := ⟨_, rfl⟩
    obtain ⟨m, hm⟩ : ∃ m, m = (woL L x.k).length := ⟨_, rfl⟩
    have post := fun (w5 W5 : World) (D5 : Nat → Prop) T5 F5 N5 K5 => cancel_post C K1 h hl x.k (w5 := w5) (W5 := W5) (D5 := D5) T5 F5 N5 K5
    rw [← hm] at post wle
    rw [← hn] at post hl wle cF q1 hj ⊢
    have b1 : W1.cell? ⟨w.heap.size, 1, none⟩ = some (.int .i64 x.k) := v1
    replace hn := Lib.hid hn
    replace hm := Lib.hid hm
    replace h := Lib.hid h
    replace hx := Lib.hid hx
    replace hb := Lib.hid hb
    replace cF := Lib.hid cF
    replace KW := Lib.hid KW
    replace RW := Lib.hid RW
    replace k1 := Lib.hid k1
    replace K1 := Lib.hid K1
    replace zb1 := Lib.hid zb1
    replace T1 := Lib.hid T1
    replace cO := Lib.hid cO
    replace post := Lib.hid post
    replace f2 := Lib.hid f2
    replace ltD := Lib.hid ltD
    replace szW := Lib.hid szW
    replace v1 := Lib.hid v1
    replace u1' := Lib.hid u1
    rw [hW1] at b1
    replace f4 := Lib.hid f4
    replace fb := Lib.hid fb
    go_enter Try.func10, Try.ntmps10
    go_wp2_with fail
    rw [← hW]
    replace hW := Lib.hid hW
    refine cF.out.mono ?_
    rintro e w4 ⟨rfl, rfl⟩
    clear cF
    go_wp2_with fail
    rw [← hW1]
    replace hW1 := Lib.hid hW1
    refine cO.out.mono ?_
    rintro e w5 ⟨rfl, D5, T5, F5, N5⟩
    obtain ⟨W5, hW5⟩ : ∃ W', W' = w5.alloc (.cells #[.int .i64 y.k, .int .i64 y.t, .int .i64 y.a] 33) := ⟨_, rfl⟩
    have k5 : Keep w5 W5 := by rw [hW5]; exact Keep.one _ _
    have yb : W5.heap[w5.heap.size]? = some (.cells #[.int .i64 y.k, .int .i64 y.t, .int .i64 y.a] 33 (0, 0)) := by rw [hW5]; exact heap_alloc_new _ _
    have lt1 : W.heap.size < W1.heap.size := by have := zb1.out; rcases Nat.lt_or_ge W.heap.size W1.heap.size with h1 | h1; exact h1; rw [Array.getElem?_eq_none h1] at this; cases this
    have zb5 : w5.heap[W.heap.size]? = some (.cells #[.int .i64 y.k, .int .i64 y.t, .int .i64 y.a] 30 (0, 0)) := (F5.block _ lt1 (fun hd => by have := ltD.out _ hd; have := szW.out; omega)).trans zb1.out
    have zb : W5.heap[W.heap.size]? = some (.cells #[.int .i64 y.k, .int .i64 y.t, .int .i64 y.a] 30 (0, 0)) := k5.block zb5
    have o1 : W5.cell? ⟨w.heap.size, 1, none⟩ = some (.int .i64 x.k) := k5.cell (F5.cell v1.out (fun hd => by have h9 : w.heap.size < w.heap.size := ltD.out _ hd; omega))
    have z0 : W5.cell? ⟨W.heap.size, 0, none⟩ = some (.int .i64 y.k) := by rw [cell_of_row W5 _ _ _ _ _ zb]; rfl
    have z1 : W5.cell? ⟨W.heap.size, 1, none⟩ = some (.int .i64 y.t) := by rw [cell_of_row W5 _ _ _ _ _ zb]; rfl
    have z2 : W5.cell? ⟨W.heap.size, 2, none⟩ = some (.int .i64 y.a) := by rw [cell_of_row W5 _ _ _ _ _ zb]; rfl
    have y0 : W5.cell? ⟨w5.heap.size, 0, none⟩ = some (.int .i64 y.k) := by rw [cell_of_row W5 _ _ _ _ _ yb]; rfl
    have y1 : W5.cell? ⟨w5.heap.size, 1, none⟩ = some (.int .i64 y.t) := by rw [cell_of_row W5 _ _ _ _ _ yb]; rfl
    have y2 : W5.cell? ⟨w5.heap.size, 2, none⟩ = some (.int .i64 y.a) := by rw [cell_of_row W5 _ _ _ _ _ yb]; rfl
    have cW := Lib.hid (post.out w5 W5 D5 T5 F5 N5 k5)
    clear b1
    replace k5 := Lib.hid k5
    replace yb := Lib.hid yb
    replace lt1 := Lib.hid lt1
    replace zb5 := Lib.hid zb5
    replace zb := Lib.hid zb
    replace T5 := Lib.hid T5
    replace F5 := Lib.hid F5
    replace N5 := Lib.hid N5
    clear cO u1 yc0 yc1 yc2 q1
    go_wp2_with fail
    rw [← hW5]
    replace hW5 := Lib.hid hW5
    go_region_held3 (fun w' => w'.cell? ⟨w.heap.size, 1, none⟩ = some (.int .i64 x.k) ∧ w'.cell? ⟨W.heap.size, 0, none⟩ = some (.int .i64 y.k) ∧ w'.cell? ⟨W.heap.size, 1, none⟩ = some (.int .i64 y.t) ∧ w'.cell? ⟨W.heap.size, 2, none⟩ = some (.int .i64 y.a) ∧ w'.cell? ⟨w5.heap.size, 0, none⟩ = some (.int .i64 y.k) ∧ w'.cell? ⟨w5.heap.size, 1, none⟩ = some (.int .i64 y.t) ∧ w'.cell? ⟨w5.heap.size, 2, none⟩ = some (.int .i64 y.a))
      (first
        | ((refine (fun (KK : Keep W5 _) => ⟨KK.cell o1, KK.cell z0, KK.cell z1, KK.cell z2, KK.cell y0, KK.cell y1, KK.cell y2⟩) ?_; repeat (with_reducible first | exact Keep.refl W5 | apply Keep.drew | apply Keep.drewN | (refine Keep.trans ?_ k6.out))); done))
      (first | (go_at_call 21; refine (cW.out _ (by repeat (with_reducible first | exact Keep.refl W5 | apply Keep.drew | apply Keep.drewN))).mono ?_; rintro e w6 ⟨B6, d6, rfl, k6, fin⟩; replace k6 := Lib.hid k6; replace fin := Lib.hid fin))
    all_goals
      clear z0 z1 z2 y0 y1 y2 o1 cW
      go_wp2
      go_ret2
      exact ⟨B6, woL L x.k, d6, by rw [← hm.out]; rfl, by rw [← hm.out]; omega, fin.out _ (by repeat (with_reducible first | exact Keep.refl w6 | apply Keep.drew | apply Keep.drewN))⟩
end
end Go.Proofs.Ytdjakljkcjadhaa.T9
