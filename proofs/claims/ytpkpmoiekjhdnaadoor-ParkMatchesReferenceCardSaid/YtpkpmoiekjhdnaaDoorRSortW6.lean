/-
  The reference's Sort, walked. Conditions: at most 1048576 pods, priorities up to 2^30.
-/
import Derived.Test.YtpkpmoiekjhdnaaDoorRSort6
namespace Go.Proofs.YtpkpmoiekjhdnaaDoor
open Go.RowKit Go.Sort Go.Shelf

/-- What the reference's sorted list is. -/
structure RSorted (w w' : World) (P : Nat → PodV) (n : Nat) (v : Value) : Prop where
  keep : Keep w w'
  at_ : ∃ A c T, v = .slice A n c ∧ RdPods w' A n (fun t => P (T.getD t 0)) ∧ T.Perm (List.range n) ∧ SortedL (ltOf (cfP P)) T

set_option maxRecDepth 100000 in
set_option maxHeartbeats 16000000 in
theorem rsort_fn (A : Option Addr) (n c : Nat) (P : Nat → PodV) (w : World) (hR : RdPods w A n P) (hn : n ≤ 1048576) (hp : ∀ j, j < n → -1073741824 ≤ (P j).p ∧ (P j).p ≤ 1073741824) :
    Calls Tryd.prog 30 #[.slice A n c] w fun e w' => ∃ v, e = .returned v ∧ RSorted w w' P n v := by
  have mixed : Tryd.prog.follows .mixedOrders = true := by kernel_rfl
  replace hR := Lib.hid hR
  replace hp := Lib.hid hp
  go_enter Tryd.func30, Tryd.ntmps30
  go_wp2
  go_loopg [3, 4] n (fun gx s3 s4 wr => ∃ (i : Nat) (T : List Nat) (B : Option Addr) (d : Nat), i ≤ n ∧ gx = n - i ∧ s4 = .int .i64 i ∧ s3 = .slice B i d ∧ Hid (Keep w wr) ∧ Hid (wr.ownsRow w.heap.size 35 9 (.slice B i d) i (podCs (fun t => P (T.getD t 0)) i)) ∧ Hid (T.Perm (List.range i)) ∧ Hid (SortedL (ltOf (cfP P)) T))
  case atStart => exact ⟨0, [], none, 0, Nat.zero_le _, rfl, rfl, rfl, Keep.refl _, World.ownsRow_nil _ _ _ _, List.Perm.refl _, fun s t h1 h2 => absurd h2 (Nat.not_lt_zero _)⟩
  case round =>
    obtain ⟨i, T, B, d, hi, rfl, rfl, rfl, G, RW, PM, SO⟩ := hrel
    by_cases hlt : i < n
    · have R2 := hR.out.keep G.out
      obtain ⟨b, off, hA, ca⟩ := R2.adr (by omega)
      subst hA
      have q1 := pods_at b off n c i hlt
      have X := ca i hlt
      have pl := Lib.hid (perm_range_lt PM.out)
      have hpx := hp.out i hlt
      clear ca
      replace R2 := Lib.hid R2
      obtain ⟨x, hx⟩ : ∃ x, x = P i := ⟨_, rfl⟩
      rw [← hx] at X hpx
      replace hx := Lib.hid hx
      obtain ⟨w1, hw1⟩ : ∃ w1, w1 = wr := ⟨_, rfl⟩
      rw [← hw1] at G RW R2 X ⊢
      clear hw1
      go_wp2
      go_loopg [5] i (fun gy s5 wr => ∃ j : Nat, s5 = .int .i64 j ∧ j ≤ i ∧ j ≤ gy ∧ Hid (Gr w1 wr) ∧ Hid (∀ t, j ≤ t → t < i → ltOf (cfP P) i (T.getD t 0) = true))
      case atStart => exact ⟨i, rfl, Nat.le_refl _, Nat.le_refl _, Gr.refl _, fun t h1 h2 => by omega⟩
      case round =>
        obtain ⟨j, rfl, hji, hgy, GQ, CM⟩ := hrel
        have X2 := X.keep GQ.out.keep
        have fin : Hid ((j = 0 ∨ ltOf (cfP P) i (T.getD (j - 1) 0) = false) → (insAt T j i).Perm (List.range (i + 1)) ∧ SortedL (ltOf (cfP P)) (insAt T j i) ∧ podCs (fun t => P ((insAt T j i).getD t 0)) (i + 1) = podCs (fun t => P (T.getD t 0)) j ++ x.cells ++ podCs (fun t => P (T.getD (j + t) 0)) (i - j)) := fun h => by
          have hl := pl.out.1
          refine ⟨range_snoc T i PM.out j, insAt_sorted (cmpP_swo P) PM.out SO.out (by omega) (fun t h1 h2 => CM.out t h1 (by omega)) h, ?_⟩
          rw [hx.out]
          exact insAt_row P (by omega) hl
        have RQ := Lib.hid (own_keep RW.out GQ.out.keep)
        have GK : Hid (Keep w wr) := G.out.trans GQ.out.keep
        by_cases hj0 : 0 < j
        · obtain ⟨jp, rfl⟩ : ∃ jp, j = jp + 1 := ⟨j - 1, by omega⟩
          have hjz : (0 : Int) < (jp : Int) + 1 := by omega
          have hjd : decide ((0 : Int) < (jp : Int) + 1) = true := decide_eq_true hjz
          have hwp : IntKind.i64.wrap (jp : Int) = (jp : Int) := by rw [IntKind.wrap_i64]; omega
          obtain ⟨g, cap, hB, _, _⟩ := RQ.out.form (by omega)
          simp only [Value.slice.injEq] at hB
          obtain ⟨rfl, _, rfl⟩ := hB
          have q2 := pods_at g 0 i d jp (by omega)
          rw [Nat.zero_add] at q2
          have Y := row_cel RQ.out (j := jp) (by omega)
          rw [Nat.zero_add] at Y
          have hpy := hp.out (T.getD jp 0) (by have := pl.out.2 jp (by rw [pl.out.1]; omega); omega)
          obtain ⟨y, hy⟩ : ∃ y, y = P (T.getD jp 0) := ⟨_, rfl⟩
          rw [← hy] at Y hpy
          have hc : ∀ (n : Nat) (os : Array Obj), Calls Tryd.prog 36 #[x.val, y.val] (grow (wr.drewN n) os) fun e w' => e = .returned (.int .i64 (cmpP x y)) ∧ ∃ q os', w' = grow ((grow (wr.drewN n) os).drewN q) os' := fun n os => rcompare_fn x y _ hpx hpy
          have hcf : Hid (ltOf (cfP P) i (T.getD jp 0) = decide (cmpP x y < 0)) := by show _ = _; rw [hx.out, hy]; rfl
          replace hy := Lib.hid hy
          generalize cmpP x y = r at hc hcf
          unfold PodV.val at hc
          have x0 := grows X2.e0; have x1 := grows X2.e1; have x2 := grows X2.e2; have x3 := grows X2.e3; have x4 := grows X2.e4; have x5 := grows X2.e5; have x6 := grows X2.e6; have x7 := grows X2.e7; have x8 := grows X2.e8
          have y0 := grows Y.e0; have y1 := grows Y.e1; have y2 := grows Y.e2; have y3 := grows Y.e3; have y4 := grows Y.e4; have y5 := grows Y.e5; have y6 := grows Y.e6; have y7 := grows Y.e7; have y8 := grows Y.e8
          clear Y X2
          by_cases hr : r < 0
          · have hrd : decide (r < 0) = true := decide_eq_true hr
            have lt2 : Hid (ltOf (cfP P) i (T.getD jp 0) = true) := hcf.out.trans hrd
            clear fin
            go_wp2_with fail
            go_quiet_grown (first | (go_at_call 36; refine Calls.grown_of (hc _ _)))
            clear x0 x1 x2 x3 x4 x5 x6 x7 x8 y0 y1 y2 y3 y4 y5 y6 y7 y8 hc
            have G2 : Hid (Gr w1 (grow (wr.drewN nq) osq)) := GQ.out.trans ⟨nq, osq, rfl⟩
            generalize grow (wr.drewN nq) osq = w2 at G2 ⊢
            go_wp2
            go_roundg jp
            case measure => omega
            case rel =>
              refine ⟨jp, by first | rfl | go_num | (congr 1; omega), by omega, Nat.le_refl _, G2, fun t h1 h2 => ?_⟩
              by_cases e : t = jp
              · rw [e]; exact lt2.out
              · exact CM.out t (by omega) h2
          · have hrd : decide (r < 0) = false := decide_eq_false hr
            have fin2 := Lib.hid (fin.out (Or.inr (hcf.out.trans hrd)))
            replace hr := Lib.hid hr
            clear fin
            go_wp2_with fail
            go_quiet_grown (first | (go_at_call 36; refine Calls.grown_of (hc _ _)))
            clear x0 x1 x2 x3 x4 x5 x6 x7 x8 y0 y1 y2 y3 y4 y5 y6 y7 y8 hc
            have G2 : Hid (Gr w1 (grow (wr.drewN nq) osq)) := GQ.out.trans ⟨nq, osq, rfl⟩
            have K2 : Hid (Keep wr (grow (wr.drewN nq) osq)) := Gr.keep ⟨nq, osq, rfl⟩
            generalize grow (wr.drewN nq) osq = w2 at G2 K2 ⊢
            have X3 := X.keep G2.out.keep
            have hbl := cell_lt X3.e0; have x0 := X3.e0; have x1 := X3.e1; have x2 := X3.e2; have x3 := X3.e3; have x4 := X3.e4; have x5 := X3.e5; have x6 := X3.e6; have x7 := X3.e7; have x8 := X3.e8
            clear X3
            replace K2 : Hid (Keep wr w2) := K2
            have hid2 : i ≤ d := own_cap RQ.out
            have hz0 : (0 : Int) ≤ (jp : Int) + 1 := by omega
            have hz1 : (jp : Int) + 1 ≤ (d : Int) := by omega
            have hz2 : (jp : Int) + 1 ≤ (i : Int) := by omega
            clear q2 hjz hjd hwp
            go_wp2_with fail
            go_region_law (first
              | (refine step_own rfl (.tmp 31) (.tmp 34) rfl w2.heap.size (.slice (some ⟨w2.heap.size, 0, none⟩) 0 0) 0 [] (by simp [Act.eval]) (own_empty (by omega) (heap_alloc_new _ _)) (.slice (some ⟨g, 0, none⟩) (jp + 1) d) (jp + 1) (podCs (fun t => P (T.getD t 0)) (jp + 1)) (by simp [Act.eval]) (src_lo RQ.out hji (K2.out.trans (by repeat (first | exact Keep.refl _ | apply Keep.alloc | apply Keep.drew)))) (podCs_one _ _) (by omega) (by simp <;> omega) _ (Nat.zero_add _) ?_; intro v3 w3 hr3 hg3; have K3 : Hid (Keep w2 w3) := keep_grown (by repeat (first | exact Keep.refl _ | apply Keep.alloc | apply Keep.drew)) hg3 (fun q hq => by simp [Value.ownBlock] at hq; omega); have z0 := K3.out.cell x0; have z1 := K3.out.cell x1; have z2 := K3.out.cell x2; have z3 := K3.out.cell x3; have z4 := K3.out.cell x4; have z5 := K3.out.cell x5; have z6 := K3.out.cell x6; have z7 := K3.out.cell x7; have z8 := K3.out.cell x8; simp only [List.nil_append] at hr3; replace hr3 := Lib.hid hr3; replace hg3 := Lib.hid hg3)
              | (refine step_own rfl (.tmp 31) (.tmp 34) rfl w2.heap.size (.slice (some ⟨w2.heap.size, 0, none⟩) 0 0) 0 [] (by simp [Act.eval]) (own_empty (by omega) (hp1 _ _ _ _)) (.slice (some ⟨g, 0, none⟩) (jp + 1) d) (jp + 1) (podCs (fun t => P (T.getD t 0)) (jp + 1)) (by simp [Act.eval]) (src_lo RQ.out hji (K2.out.trans (by repeat (first | exact Keep.refl _ | apply Keep.alloc | apply Keep.drew)))) (podCs_one _ _) (by omega) (by simp <;> omega) _ (Nat.zero_add _) ?_; intro v3 w3 hr3 hg3; have K3 : Hid (Keep w2 w3) := keep_grown (by repeat (first | exact Keep.refl _ | apply Keep.alloc | apply Keep.drew)) hg3 (fun q hq => by simp [Value.ownBlock] at hq; omega); have z0 := K3.out.cell x0; have z1 := K3.out.cell x1; have z2 := K3.out.cell x2; have z3 := K3.out.cell x3; have z4 := K3.out.cell x4; have z5 := K3.out.cell x5; have z6 := K3.out.cell x6; have z7 := K3.out.cell x7; have z8 := K3.out.cell x8; have B3 : Hid (w3.heap[w2.heap.size + 1]? = some (.cells #[.int .i64 x.k, .int .i64 x.p, .bool x.f, .int .i64 x.g, .slice x.A x.m x.c, .int .i64 x.a, .int .i64 x.h, .int .i64 x.d, .int .i64 x.t] 35 (0, 0))) := (hg3.block (w2.heap.size + 1) (by simp) (by simp [Value.ownBlock])).trans (hp2 _ _ _ _); simp only [List.nil_append] at hr3; replace hr3 := Lib.hid hr3; replace hg3 := Lib.hid hg3)
              | (refine step_own rfl (.tmp 31) (.tmp 34) rfl w2.heap.size (.slice (some ⟨w2.heap.size + 1, 0, none⟩) 0 0) 0 [] (by simp [Act.eval]) (own_empty (by omega) (hp2 _ _ _ _)) (.slice (some ⟨g, 0, none⟩) (jp + 1) d) (jp + 1) (podCs (fun t => P (T.getD t 0)) (jp + 1)) (by simp [Act.eval]) (src_lo RQ.out hji (K2.out.trans (by repeat (first | exact Keep.refl _ | apply Keep.alloc | apply Keep.drew)))) (podCs_one _ _) (by omega) (by simp <;> omega) _ (Nat.zero_add _) ?_; intro v3 w3 hr3 hg3; have K3 : Hid (Keep w2 w3) := keep_grown (by repeat (first | exact Keep.refl _ | apply Keep.alloc | apply Keep.drew)) hg3 (fun q hq => by simp [Value.ownBlock] at hq; omega); have z0 := K3.out.cell x0; have z1 := K3.out.cell x1; have z2 := K3.out.cell x2; have z3 := K3.out.cell x3; have z4 := K3.out.cell x4; have z5 := K3.out.cell x5; have z6 := K3.out.cell x6; have z7 := K3.out.cell x7; have z8 := K3.out.cell x8; have B3 : Hid (w3.heap[w2.heap.size]? = some (.cells #[.int .i64 x.k, .int .i64 x.p, .bool x.f, .int .i64 x.g, .slice x.A x.m x.c, .int .i64 x.a, .int .i64 x.h, .int .i64 x.d, .int .i64 x.t] 35 (0, 0))) := (hg3.block w2.heap.size (by simp <;> omega) (by simp [Value.ownBlock])).trans (hp1 _ _ _ _); simp only [List.nil_append] at hr3; replace hr3 := Lib.hid hr3; replace hg3 := Lib.hid hg3)
              | (refine step_own rfl (.tmp 35) (.tmp 40) rfl w2.heap.size v3 (jp + 1) (podCs (fun t => P (T.getD t 0)) (jp + 1)) (by simp [Act.eval]) (hr3.out) (.slice (some ⟨w2.heap.size + 1, 0, none⟩) 1 1) 1 x.cells (by simp [Act.eval]) (src_one B3.out) (cells_one _) (by omega) (by have := K3.out.size; simp <;> omega) _ rfl ?_; intro v4 w4 hr4 hg4; have K4 : Hid (Keep w2 w4) := keep_grown (K3.out) hg4 (fun q hq => (hr3.out.lt q hq).1); replace hr4 := Lib.hid hr4; replace hg4 := Lib.hid hg4)
              | (refine step_own rfl (.tmp 35) (.tmp 40) rfl w2.heap.size v3 (jp + 1) (podCs (fun t => P (T.getD t 0)) (jp + 1)) (by simp [Act.eval]) (hr3.out) (.slice (some ⟨w2.heap.size, 0, none⟩) 1 1) 1 x.cells (by simp [Act.eval]) (src_one B3.out) (cells_one _) (by omega) (by have := K3.out.size; simp <;> omega) _ rfl ?_; intro v4 w4 hr4 hg4; have K4 : Hid (Keep w2 w4) := keep_grown (K3.out) hg4 (fun q hq => (hr3.out.lt q hq).1); replace hr4 := Lib.hid hr4; replace hg4 := Lib.hid hg4)
              | (refine step_own rfl (.tmp 35) (.tmp 40) rfl w2.heap.size v3 (jp + 1) (podCs (fun t => P (T.getD t 0)) (jp + 1)) (by simp [Act.eval]) (own_keep hr3.out (Keep.one _ _)) (.slice (some ⟨w3.heap.size, 0, none⟩) 1 1) 1 x.cells (by simp [Act.eval]) (src_one (heap_alloc_new _ _)) (cells_one _) (by omega) (by have := K3.out.size; simp <;> omega) _ rfl ?_; intro v4 w4 hr4 hg4; have K4 : Hid (Keep w2 w4) := keep_grown (K3.out.trans (Keep.one _ _)) hg4 (fun q hq => (hr3.out.lt q hq).1); replace hr4 := Lib.hid hr4; replace hg4 := Lib.hid hg4)
              | (refine step_own rfl (.tmp 41) (.tmp 44) rfl w2.heap.size v4 (jp + 1 + 1) (podCs (fun t => P (T.getD t 0)) (jp + 1) ++ x.cells) (by simp [Act.eval]) hr4.out (.slice (if d = jp + 1 then some ⟨g, 0, none⟩ else some ⟨g, (jp + 1) * 9, none⟩) (i - (jp + 1)) (d - (jp + 1))) (i - (jp + 1)) (podCs (fun t => P (T.getD ((jp + 1) + t) 0)) (i - (jp + 1))) (by simp [Act.eval]) (src_hi RQ.out hji hid2 (K2.out.trans K4.out)) (podCs_one _ _) (by omega) (by have := K4.out.size; simp <;> omega) (i + 1) (by omega) ?_; intro v5 w5 hr5 hg5; have K5 : Hid (Keep w2 w5) := keep_grown K4.out hg5 (fun q hq => (hr4.out.lt q hq).1); replace hg5 := Lib.hid hg5; obtain ⟨B5, d5, hv5, _⟩ := own_form hr5; subst hv5; replace hr5 := Lib.hid hr5))
            all_goals
              have GF : Hid (Keep w w5) := GK.out.trans (K2.out.trans K5.out)
              have RF : Hid (w5.ownsRow w.heap.size 35 9 (.slice B5 (i + 1) d5) (i + 1) (podCs (fun t => P ((insAt T (jp + 1) i).getD t 0)) (i + 1))) := by
                show World.ownsRow _ _ _ _ _ _ _
                rw [fin2.out.2.2]
                exact own_base hr5.out (GK.out.trans K2.out).size
              go_wp2
              all_goals
                go_roundg (n - (i + 1))
                case measure => omega
                case rel => exact ⟨i + 1, insAt T (jp + 1) i, B5, d5, hlt, rfl, by go_num, rfl, GF, RF, fin2.out.1, fin2.out.2.1⟩
        · obtain rfl : j = 0 := by omega
          have fin2 := Lib.hid (fin.out (Or.inl rfl))
          clear fin
          go_wp2_with fail
          go_quiet (fail)
          have G2 : Hid (Gr w1 (wr.drewN nq)) := GQ.out.drewN nq
          have K2 : Hid (Keep wr (wr.drewN nq)) := (Gr.refl wr).drewN nq |>.keep
          generalize wr.drewN nq = w2 at G2 K2 ⊢
          have X3 := X.keep G2.out.keep
          have hbl := cell_lt X3.e0; have x0 := X3.e0; have x1 := X3.e1; have x2 := X3.e2; have x3 := X3.e3; have x4 := X3.e4; have x5 := X3.e5; have x6 := X3.e6; have x7 := X3.e7; have x8 := X3.e8
          clear X3 X2
          rcases RQ.out.2 with ⟨hv, hi0⟩ | ⟨g, cap, cur, hv, _, _, hid2, _⟩
          · simp only [Value.slice.injEq] at hv
            obtain ⟨rfl, hv⟩ := hv
            have hi1 : i ≤ 0 := by omega
            obtain rfl : d = 0 := hv.2
            replace hv := Lib.hid hv
            replace hi0 := Lib.hid hi0
            go_wp2_with fail
            go_region_law (first
              | (refine step_own rfl (.tmp 31) (.tmp 34) rfl w2.heap.size (.slice (some ⟨w2.heap.size, 0, none⟩) 0 0) 0 [] (by simp [Act.eval]) (own_empty (by omega) (heap_alloc_new _ _)) (.slice none 0 0) (0) (podCs (fun t => P (T.getD t 0)) (0)) (by simp [Act.eval]) ((fun (_ : Keep wr _) => (.inl ⟨rfl, rfl, rfl⟩ : SrcP _ _ _ _)) (K2.out.trans (by repeat (first | exact Keep.refl _ | apply Keep.alloc | apply Keep.drew)))) (podCs_one _ _) (by omega) (by simp <;> omega) _ (Nat.zero_add _) ?_; intro v3 w3 hr3 hg3; have K3 : Hid (Keep w2 w3) := keep_grown (by repeat (first | exact Keep.refl _ | apply Keep.alloc | apply Keep.drew)) hg3 (fun q hq => by simp [Value.ownBlock] at hq; omega); have z0 := K3.out.cell x0; have z1 := K3.out.cell x1; have z2 := K3.out.cell x2; have z3 := K3.out.cell x3; have z4 := K3.out.cell x4; have z5 := K3.out.cell x5; have z6 := K3.out.cell x6; have z7 := K3.out.cell x7; have z8 := K3.out.cell x8; simp only [List.nil_append] at hr3; replace hr3 := Lib.hid hr3; replace hg3 := Lib.hid hg3)
              | (refine step_own rfl (.tmp 31) (.tmp 34) rfl w2.heap.size (.slice (some ⟨w2.heap.size, 0, none⟩) 0 0) 0 [] (by simp [Act.eval]) (own_empty (by omega) (hp1 _ _ _ _)) (.slice none 0 0) (0) (podCs (fun t => P (T.getD t 0)) (0)) (by simp [Act.eval]) ((fun (_ : Keep wr _) => (.inl ⟨rfl, rfl, rfl⟩ : SrcP _ _ _ _)) (K2.out.trans (by repeat (first | exact Keep.refl _ | apply Keep.alloc | apply Keep.drew)))) (podCs_one _ _) (by omega) (by simp <;> omega) _ (Nat.zero_add _) ?_; intro v3 w3 hr3 hg3; have K3 : Hid (Keep w2 w3) := keep_grown (by repeat (first | exact Keep.refl _ | apply Keep.alloc | apply Keep.drew)) hg3 (fun q hq => by simp [Value.ownBlock] at hq; omega); have z0 := K3.out.cell x0; have z1 := K3.out.cell x1; have z2 := K3.out.cell x2; have z3 := K3.out.cell x3; have z4 := K3.out.cell x4; have z5 := K3.out.cell x5; have z6 := K3.out.cell x6; have z7 := K3.out.cell x7; have z8 := K3.out.cell x8; have B3 : Hid (w3.heap[w2.heap.size + 1]? = some (.cells #[.int .i64 x.k, .int .i64 x.p, .bool x.f, .int .i64 x.g, .slice x.A x.m x.c, .int .i64 x.a, .int .i64 x.h, .int .i64 x.d, .int .i64 x.t] 35 (0, 0))) := (hg3.block (w2.heap.size + 1) (by simp) (by simp [Value.ownBlock])).trans (hp2 _ _ _ _); simp only [List.nil_append] at hr3; replace hr3 := Lib.hid hr3; replace hg3 := Lib.hid hg3)
              | (refine step_own rfl (.tmp 31) (.tmp 34) rfl w2.heap.size (.slice (some ⟨w2.heap.size + 1, 0, none⟩) 0 0) 0 [] (by simp [Act.eval]) (own_empty (by omega) (hp2 _ _ _ _)) (.slice none 0 0) (0) (podCs (fun t => P (T.getD t 0)) (0)) (by simp [Act.eval]) ((fun (_ : Keep wr _) => (.inl ⟨rfl, rfl, rfl⟩ : SrcP _ _ _ _)) (K2.out.trans (by repeat (first | exact Keep.refl _ | apply Keep.alloc | apply Keep.drew)))) (podCs_one _ _) (by omega) (by simp <;> omega) _ (Nat.zero_add _) ?_; intro v3 w3 hr3 hg3; have K3 : Hid (Keep w2 w3) := keep_grown (by repeat (first | exact Keep.refl _ | apply Keep.alloc | apply Keep.drew)) hg3 (fun q hq => by simp [Value.ownBlock] at hq; omega); have z0 := K3.out.cell x0; have z1 := K3.out.cell x1; have z2 := K3.out.cell x2; have z3 := K3.out.cell x3; have z4 := K3.out.cell x4; have z5 := K3.out.cell x5; have z6 := K3.out.cell x6; have z7 := K3.out.cell x7; have z8 := K3.out.cell x8; have B3 : Hid (w3.heap[w2.heap.size]? = some (.cells #[.int .i64 x.k, .int .i64 x.p, .bool x.f, .int .i64 x.g, .slice x.A x.m x.c, .int .i64 x.a, .int .i64 x.h, .int .i64 x.d, .int .i64 x.t] 35 (0, 0))) := (hg3.block w2.heap.size (by simp <;> omega) (by simp [Value.ownBlock])).trans (hp1 _ _ _ _); simp only [List.nil_append] at hr3; replace hr3 := Lib.hid hr3; replace hg3 := Lib.hid hg3)
              | (refine step_own rfl (.tmp 35) (.tmp 40) rfl w2.heap.size v3 (0) (podCs (fun t => P (T.getD t 0)) (0)) (by simp [Act.eval]) (hr3.out) (.slice (some ⟨w2.heap.size + 1, 0, none⟩) 1 1) 1 x.cells (by simp [Act.eval]) (src_one B3.out) (cells_one _) (by omega) (by have := K3.out.size; simp <;> omega) _ rfl ?_; intro v4 w4 hr4 hg4; have K4 : Hid (Keep w2 w4) := keep_grown (K3.out) hg4 (fun q hq => (hr3.out.lt q hq).1); replace hr4 := Lib.hid hr4; replace hg4 := Lib.hid hg4)
              | (refine step_own rfl (.tmp 35) (.tmp 40) rfl w2.heap.size v3 (0) (podCs (fun t => P (T.getD t 0)) (0)) (by simp [Act.eval]) (hr3.out) (.slice (some ⟨w2.heap.size, 0, none⟩) 1 1) 1 x.cells (by simp [Act.eval]) (src_one B3.out) (cells_one _) (by omega) (by have := K3.out.size; simp <;> omega) _ rfl ?_; intro v4 w4 hr4 hg4; have K4 : Hid (Keep w2 w4) := keep_grown (K3.out) hg4 (fun q hq => (hr3.out.lt q hq).1); replace hr4 := Lib.hid hr4; replace hg4 := Lib.hid hg4)
              | (refine step_own rfl (.tmp 35) (.tmp 40) rfl w2.heap.size v3 (0) (podCs (fun t => P (T.getD t 0)) (0)) (by simp [Act.eval]) (own_keep hr3.out (Keep.one _ _)) (.slice (some ⟨w3.heap.size, 0, none⟩) 1 1) 1 x.cells (by simp [Act.eval]) (src_one (heap_alloc_new _ _)) (cells_one _) (by omega) (by have := K3.out.size; simp <;> omega) _ rfl ?_; intro v4 w4 hr4 hg4; have K4 : Hid (Keep w2 w4) := keep_grown (K3.out.trans (Keep.one _ _)) hg4 (fun q hq => (hr3.out.lt q hq).1); replace hr4 := Lib.hid hr4; replace hg4 := Lib.hid hg4)
              | (refine step_own rfl (.tmp 41) (.tmp 44) rfl w2.heap.size v4 (0 + 1) (podCs (fun t => P (T.getD t 0)) (0) ++ x.cells) (by simp [Act.eval]) hr4.out (.slice none 0 0) (i - (0)) (podCs (fun t => P (T.getD ((0) + t) 0)) (i - (0))) (by simp [Act.eval]) ((fun (_ : Keep wr _) => (.inl ⟨rfl, by rw [hi0.out], by rw [hi0.out]; rfl⟩ : SrcP _ _ _ _)) (K2.out.trans K4.out)) (podCs_one _ _) (by omega) (by have := K4.out.size; simp <;> omega) (i + 1) (by omega) ?_; intro v5 w5 hr5 hg5; have K5 : Hid (Keep w2 w5) := keep_grown K4.out hg5 (fun q hq => (hr4.out.lt q hq).1); replace hg5 := Lib.hid hg5; obtain ⟨B5, d5, hv5, _⟩ := own_form hr5; subst hv5; replace hr5 := Lib.hid hr5))
            all_goals
              have GF : Hid (Keep w w5) := GK.out.trans (K2.out.trans K5.out)
              have RF : Hid (w5.ownsRow w.heap.size 35 9 (.slice B5 (i + 1) d5) (i + 1) (podCs (fun t => P ((insAt T (0) i).getD t 0)) (i + 1))) := by
                show World.ownsRow _ _ _ _ _ _ _
                rw [fin2.out.2.2]
                exact own_base hr5.out (GK.out.trans K2.out).size
              go_wp2
              all_goals
                go_roundg (n - (i + 1))
                case measure => omega
                case rel => exact ⟨i + 1, insAt T (0) i, B5, d5, hlt, rfl, by go_num, rfl, GF, RF, fin2.out.1, fin2.out.2.1⟩
          · simp only [Value.slice.injEq] at hv
            obtain ⟨rfl, _, rfl⟩ := hv
            go_wp2_with fail
            go_region_law (first
              | (refine step_own rfl (.tmp 31) (.tmp 34) rfl w2.heap.size (.slice (some ⟨w2.heap.size, 0, none⟩) 0 0) 0 [] (by simp [Act.eval]) (own_empty (by omega) (heap_alloc_new _ _)) (.slice (some ⟨g, 0, none⟩) 0 d) (0) (podCs (fun t => P (T.getD t 0)) (0)) (by simp [Act.eval]) (src_lo RQ.out (Nat.zero_le _) (K2.out.trans (by repeat (first | exact Keep.refl _ | apply Keep.alloc | apply Keep.drew)))) (podCs_one _ _) (by omega) (by simp <;> omega) _ (Nat.zero_add _) ?_; intro v3 w3 hr3 hg3; have K3 : Hid (Keep w2 w3) := keep_grown (by repeat (first | exact Keep.refl _ | apply Keep.alloc | apply Keep.drew)) hg3 (fun q hq => by simp [Value.ownBlock] at hq; omega); have z0 := K3.out.cell x0; have z1 := K3.out.cell x1; have z2 := K3.out.cell x2; have z3 := K3.out.cell x3; have z4 := K3.out.cell x4; have z5 := K3.out.cell x5; have z6 := K3.out.cell x6; have z7 := K3.out.cell x7; have z8 := K3.out.cell x8; simp only [List.nil_append] at hr3; replace hr3 := Lib.hid hr3; replace hg3 := Lib.hid hg3)
              | (refine step_own rfl (.tmp 31) (.tmp 34) rfl w2.heap.size (.slice (some ⟨w2.heap.size, 0, none⟩) 0 0) 0 [] (by simp [Act.eval]) (own_empty (by omega) (hp1 _ _ _ _)) (.slice (some ⟨g, 0, none⟩) 0 d) (0) (podCs (fun t => P (T.getD t 0)) (0)) (by simp [Act.eval]) (src_lo RQ.out (Nat.zero_le _) (K2.out.trans (by repeat (first | exact Keep.refl _ | apply Keep.alloc | apply Keep.drew)))) (podCs_one _ _) (by omega) (by simp <;> omega) _ (Nat.zero_add _) ?_; intro v3 w3 hr3 hg3; have K3 : Hid (Keep w2 w3) := keep_grown (by repeat (first | exact Keep.refl _ | apply Keep.alloc | apply Keep.drew)) hg3 (fun q hq => by simp [Value.ownBlock] at hq; omega); have z0 := K3.out.cell x0; have z1 := K3.out.cell x1; have z2 := K3.out.cell x2; have z3 := K3.out.cell x3; have z4 := K3.out.cell x4; have z5 := K3.out.cell x5; have z6 := K3.out.cell x6; have z7 := K3.out.cell x7; have z8 := K3.out.cell x8; have B3 : Hid (w3.heap[w2.heap.size + 1]? = some (.cells #[.int .i64 x.k, .int .i64 x.p, .bool x.f, .int .i64 x.g, .slice x.A x.m x.c, .int .i64 x.a, .int .i64 x.h, .int .i64 x.d, .int .i64 x.t] 35 (0, 0))) := (hg3.block (w2.heap.size + 1) (by simp) (by simp [Value.ownBlock])).trans (hp2 _ _ _ _); simp only [List.nil_append] at hr3; replace hr3 := Lib.hid hr3; replace hg3 := Lib.hid hg3)
              | (refine step_own rfl (.tmp 31) (.tmp 34) rfl w2.heap.size (.slice (some ⟨w2.heap.size + 1, 0, none⟩) 0 0) 0 [] (by simp [Act.eval]) (own_empty (by omega) (hp2 _ _ _ _)) (.slice (some ⟨g, 0, none⟩) 0 d) (0) (podCs (fun t => P (T.getD t 0)) (0)) (by simp [Act.eval]) (src_lo RQ.out (Nat.zero_le _) (K2.out.trans (by repeat (first | exact Keep.refl _ | apply Keep.alloc | apply Keep.drew)))) (podCs_one _ _) (by omega) (by simp <;> omega) _ (Nat.zero_add _) ?_; intro v3 w3 hr3 hg3; have K3 : Hid (Keep w2 w3) := keep_grown (by repeat (first | exact Keep.refl _ | apply Keep.alloc | apply Keep.drew)) hg3 (fun q hq => by simp [Value.ownBlock] at hq; omega); have z0 := K3.out.cell x0; have z1 := K3.out.cell x1; have z2 := K3.out.cell x2; have z3 := K3.out.cell x3; have z4 := K3.out.cell x4; have z5 := K3.out.cell x5; have z6 := K3.out.cell x6; have z7 := K3.out.cell x7; have z8 := K3.out.cell x8; have B3 : Hid (w3.heap[w2.heap.size]? = some (.cells #[.int .i64 x.k, .int .i64 x.p, .bool x.f, .int .i64 x.g, .slice x.A x.m x.c, .int .i64 x.a, .int .i64 x.h, .int .i64 x.d, .int .i64 x.t] 35 (0, 0))) := (hg3.block w2.heap.size (by simp <;> omega) (by simp [Value.ownBlock])).trans (hp1 _ _ _ _); simp only [List.nil_append] at hr3; replace hr3 := Lib.hid hr3; replace hg3 := Lib.hid hg3)
              | (refine step_own rfl (.tmp 35) (.tmp 40) rfl w2.heap.size v3 (0) (podCs (fun t => P (T.getD t 0)) (0)) (by simp [Act.eval]) (hr3.out) (.slice (some ⟨w2.heap.size + 1, 0, none⟩) 1 1) 1 x.cells (by simp [Act.eval]) (src_one B3.out) (cells_one _) (by omega) (by have := K3.out.size; simp <;> omega) _ rfl ?_; intro v4 w4 hr4 hg4; have K4 : Hid (Keep w2 w4) := keep_grown (K3.out) hg4 (fun q hq => (hr3.out.lt q hq).1); replace hr4 := Lib.hid hr4; replace hg4 := Lib.hid hg4)
              | (refine step_own rfl (.tmp 35) (.tmp 40) rfl w2.heap.size v3 (0) (podCs (fun t => P (T.getD t 0)) (0)) (by simp [Act.eval]) (hr3.out) (.slice (some ⟨w2.heap.size, 0, none⟩) 1 1) 1 x.cells (by simp [Act.eval]) (src_one B3.out) (cells_one _) (by omega) (by have := K3.out.size; simp <;> omega) _ rfl ?_; intro v4 w4 hr4 hg4; have K4 : Hid (Keep w2 w4) := keep_grown (K3.out) hg4 (fun q hq => (hr3.out.lt q hq).1); replace hr4 := Lib.hid hr4; replace hg4 := Lib.hid hg4)
              | (refine step_own rfl (.tmp 35) (.tmp 40) rfl w2.heap.size v3 (0) (podCs (fun t => P (T.getD t 0)) (0)) (by simp [Act.eval]) (own_keep hr3.out (Keep.one _ _)) (.slice (some ⟨w3.heap.size, 0, none⟩) 1 1) 1 x.cells (by simp [Act.eval]) (src_one (heap_alloc_new _ _)) (cells_one _) (by omega) (by have := K3.out.size; simp <;> omega) _ rfl ?_; intro v4 w4 hr4 hg4; have K4 : Hid (Keep w2 w4) := keep_grown (K3.out.trans (Keep.one _ _)) hg4 (fun q hq => (hr3.out.lt q hq).1); replace hr4 := Lib.hid hr4; replace hg4 := Lib.hid hg4)
              | (refine step_own rfl (.tmp 41) (.tmp 44) rfl w2.heap.size v4 (0 + 1) (podCs (fun t => P (T.getD t 0)) (0) ++ x.cells) (by simp [Act.eval]) hr4.out (.slice (some ⟨g, 0, none⟩) i d) (i - (0)) (podCs (fun t => P (T.getD ((0) + t) 0)) (i - (0))) (by simp [Act.eval]) (src_all RQ.out (K2.out.trans K4.out)) (podCs_one _ _) (by omega) (by have := K4.out.size; simp <;> omega) (i + 1) (by omega) ?_; intro v5 w5 hr5 hg5; have K5 : Hid (Keep w2 w5) := keep_grown K4.out hg5 (fun q hq => (hr4.out.lt q hq).1); replace hg5 := Lib.hid hg5; obtain ⟨B5, d5, hv5, _⟩ := own_form hr5; subst hv5; replace hr5 := Lib.hid hr5))
            all_goals
              have GF : Hid (Keep w w5) := GK.out.trans (K2.out.trans K5.out)
              have RF : Hid (w5.ownsRow w.heap.size 35 9 (.slice B5 (i + 1) d5) (i + 1) (podCs (fun t => P ((insAt T (0) i).getD t 0)) (i + 1))) := by
                show World.ownsRow _ _ _ _ _ _ _
                rw [fin2.out.2.2]
                exact own_base hr5.out (GK.out.trans K2.out).size
              go_wp2
              all_goals
                go_roundg (n - (i + 1))
                case measure => omega
                case rel => exact ⟨i + 1, insAt T (0) i, B5, d5, hlt, rfl, by go_num, rfl, GF, RF, fin2.out.1, fin2.out.2.1⟩
    · obtain rfl : i = n := by omega
      have pl := perm_range_lt PM.out
      go_wp2
      go_ret
      refine ⟨_, rfl, G.out, B, d, T, rfl, ⟨by omega, fun h0 => ?_, fun t ht => (hR.out.is _ (by have := pl.2 t (by omega); omega)).keep G.out⟩, PM.out, SO.out⟩
      obtain ⟨g, cap, e, _, _⟩ := RW.out.form h0
      have e' := e
      simp only [Value.slice.injEq] at e'
      obtain ⟨rfl, _, rfl⟩ := e'
      exact ⟨g, 0, rfl, fun t ht => row_cel RW.out ht⟩
end Go.Proofs.YtpkpmoiekjhdnaaDoor
