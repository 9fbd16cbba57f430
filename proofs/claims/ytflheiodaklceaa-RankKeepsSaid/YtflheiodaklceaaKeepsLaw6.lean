/-
  The walk of RankKeeps. No condition but that a slice without an array has no room.
-/
import Derived.Test.YtflheiodaklceaaMatchLaw6
namespace Go.Proofs.Ytflheiodaklceaa
open Go.RowKit Go.Sort Go.Lib Go.Shelf

theorem fz_keep {w w' : World} {g t : Nat} (k : Keep w w') (hg : g < w.heap.size) (h : w.frozen? ⟨g, t, none⟩ = false) : w'.frozen? ⟨g, t, none⟩ = false := by
  have e : w'.heap[g]? = w.heap[g]? := (show Below w.heap.size w w' from k).block g hg
  simp only [World.frozen?, e] at h ⊢
  exact h
theorem rows_rd {w : World} {base n : Nat} {B : Option Addr} {d : Nat} {Q : Nat → PodV} (h : w.ownsRow base 25 9 (.slice B n d) n (podCs Q n)) (hn : n ≤ 100) (hi : ∀ j, j < n → PodIs w (Q j)) : RdPods w B n Q :=
  ⟨by omega, fun hp => by
    obtain ⟨g, cap, e, _, _⟩ := h.form hp
    have e' := e
    simp only [Value.slice.injEq] at e'
    obtain ⟨rfl, _, rfl⟩ := e'
    exact ⟨g, 0, rfl, fun t ht => row_cel h ht⟩, hi⟩

set_option maxRecDepth 100000 in
set_option maxHeartbeats 16000000 in
theorem keeps_walk (A : Option Addr) (n c : Nat) (P : Nat → PodV) (w : World) (hR : RdPods w A n P) (h0 : A = none → n = 0 ∧ c = 0) : Calls Try.prog 6 #[.slice A n c] w fun e w' => e = .returned (.bool true) ∧ Keep w w' := by
  have mixed : Try.prog.follows .mixedOrders = true := by kernel_rfl
  have aw := Lib.hid awake_true
  replace hR := Lib.hid hR
  replace h0 := Lib.hid h0
  go_enter Try.func6, Try.ntmps6
  go_wp2_with fail
  refine (aw.out _).mono ?_
  rintro e w1 ⟨rfl, k1⟩
  have R1 := Lib.hid (hR.out.keep k1)
  replace k1 := Lib.hid k1
  by_cases hf : FewP P n
  · have hfew := rfew_fn A n c P w1 R1.out true ⟨fun _ => hf, fun _ => rfl⟩
    replace hf := Lib.hid hf
    go_wp2_with fail
    refine hfew.mono ?_
    rintro e w2 ⟨rfl, rfl⟩
    clear hfew
    have hn := hf.out.1
    have s3 : Hid (SrcP (w1.alloc (.cells #[] 25)) (.slice A n c) n (podCs P n)) := src_rd (R1.out.keep (Keep.one _ _)) h0.out
    go_wp2_with (at_builtin; refine wpl_own rfl _ _ rfl w1.heap.size (.slice (some ⟨w1.heap.size, 0, none⟩) 0 0) 0 [] (by simp [Act.eval]) (own_empty (Nat.le_refl _) (heap_alloc_new _ _)) (.slice A n c) n (podCs P n) (by simp [Act.eval]) s3.out (podCs_one P n) (by omega) (by simp) n (by omega) ?_; intro v3 w3 hr3 hg3)
    have K3 : Hid (Keep w1 w3) := keep_grown (Keep.one _ _) hg3 (fun q hq => by
      have e : w1.heap.size = q := Option.some.inj hq
      omega)
    rw [List.nil_append] at hr3
    replace hg3 := Lib.hid hg3
    obtain ⟨B, d, hB, _⟩ := own_form hr3
    subst hB
    have R3 : Hid (RdPods w3 B n P) := rows_rd hr3 hn (fun j hj => (R1.out.is j hj).keep K3.out)
    have L3 : Hid (RdPods w3 A n P) := R1.out.keep K3.out
    have K3' := Lib.hid (k1.out.trans K3.out)
    replace hr3 := Lib.hid hr3
    clear s3 hg3 R1 k1
    go_wp2_with fail
    refine (ksort_fn B n d P _ R3.out (by omega) (fun j hj => by have := (hf.out.2 j hj).2.2; omega)).mono ?_
    rintro e w4 ⟨v4, rfl, k4, g, rfl, hg, hg2, fz, S, dk, rS, _, pS, sS, cS⟩
    have hin : Hid (∀ t, t < n → dk[t]! < n) := fun t ht => permIn_all (Array.range n) dk 0 n (fun v => v < n) (by simp) pS (fun i _ hi => by rw [getElem!_pos _ _ (by simpa using hi)]; simpa using hi) t (Nat.zero_le _) ht
    have srt : Hid (∀ s t, s < t → t < n → cmpP (S t) (S s) < 0 → False) := fun s t h1 h2 h3 => by
      have := sS s t (Nat.zero_le _) h1 h2
      rw [cmp_same (cS t h2) (cS s (by omega))] at h3
      unfold lo ltOf cfP at this
      rw [decide_eq_true h3] at this
      simp at this
    have sm : Hid (∀ j, j < n → (S j).m ≤ 1048576) := fun j hj => by
      obtain ⟨A', c', e⟩ := cS j hj
      rw [e]
      have := (hf.out.2 _ (hin.out j hj)).2.2
      show (P dk[j]!).m ≤ _
      omega
    have K4 := Lib.hid (K3'.out.trans k4)
    replace k4 := Lib.hid k4
    replace hg := Lib.hid hg
    replace fz := Lib.hid fz
    replace rS := Lib.hid rS
    replace pS := Lib.hid pS
    replace sS := Lib.hid sS
    replace cS := Lib.hid cS
    go_wp2
    go_loopg [5] n (fun gx s5 wr => ∃ k j : Nat, (k = 0 ∨ k < n) ∧ Hid (j = k + 1) ∧ gx = n - k ∧ s5 = .int .i64 j ∧ Hid (Gr w4 wr))
    case atStart => exact ⟨0, 1, .inl rfl, rfl, rfl, rfl, Gr.refl _⟩
    case round =>
      obtain ⟨k, j, hk, hj, rfl, rfl, G⟩ := hrel
      have RW := Lib.hid (rS.out.keep G.out.keep)
      have hjk := hj.out
      by_cases hlt : j < n
      · obtain ⟨b, off, hA, ca⟩ := RW.out.adr (by omega)
        obtain ⟨rfl, rfl⟩ : b = g ∧ off = 0 := by
          simp only [Option.some.injEq, Addr.mk.injEq] at hA
          exact ⟨hA.1.symm, hA.2.1.symm⟩
        clear hA
        have q1 := pods_at b 0 n n j hlt
        have q2 := pods_at b 0 n n k (by omega)
        have X := ca j hlt
        have Y := ca k (by omega)
        have hb : befP (S j) (S k) = false := by
          unfold befP
          exact decide_eq_false (fun h => srt.out k j (by omega) hlt h)
        have bf := fun W => before_fn (S j) (S k) W
        rw [hb] at bf
        obtain ⟨x, hx⟩ : ∃ x, x = S j := ⟨_, rfl⟩
        obtain ⟨y, hy⟩ : ∃ y, y = S k := ⟨_, rfl⟩
        rw [← hx] at X bf
        rw [← hy] at Y bf
        unfold PodV.val Gr at bf
        replace bf := Lib.hid bf
        have ew : IntKind.i64.wrap ((j : Int) - 1) = (k : Int) := by rw [IntKind.wrap_i64]; omega
        clear ca hb
        rw [Nat.zero_add] at X Y q1 q2
        replace hx := Lib.hid hx
        replace hy := Lib.hid hy
        replace hjk := Lib.hid hjk
        have x0 := X.e0; have x1 := X.e1; have x2 := X.e2; have x3 := X.e3; have x4 := X.e4; have x5 := X.e5; have x6 := X.e6; have x7 := X.e7; have x8 := X.e8
        have y0 := Y.e0; have y1 := Y.e1; have y2 := Y.e2; have y3 := Y.e3; have y4 := Y.e4; have y5 := Y.e5; have y6 := Y.e6; have y7 := Y.e7; have y8 := Y.e8
        clear X Y
        go_wp2_with fail
        have gx0 := grows x0; have gx1 := grows x1; have gx2 := grows x2; have gx3 := grows x3; have gx4 := grows x4; have gx5 := grows x5; have gx6 := grows x6; have gx7 := grows x7; have gx8 := grows x8
        have gy0 := grows y0; have gy1 := grows y1; have gy2 := grows y2; have gy3 := grows y3; have gy4 := grows y4; have gy5 := grows y5; have gy6 := grows y6; have gy7 := grows y7; have gy8 := grows y8
        clear x0 x1 x2 x3 x4 x5 x6 x7 x8 y0 y1 y2 y3 y4 y5 y6 y7 y8
        refine wp_region_quiet_grown (by assumption) (by kernel_rfl) ?_
        repeat (go_big_quiet_step (first | (go_at_call 12; with_reducible refine Calls.grown_of (bf.out _))))
        refine wpQuiet_nil ?_
        intro _ hw'
        obtain ⟨⟨nq, osq⟩, hw''⟩ := hw'
        subst hw''
        clear gx0 gx1 gx2 gx3 gx4 gx5 gx6 gx7 gx8 gy0 gy1 gy2 gy3 gy4 gy5 gy6 gy7 gy8
        have G2 : Hid (Gr w4 (grow (wr.drewN nq) osq)) := G.out.trans ⟨nq, osq, rfl⟩
        generalize grow (wr.drewN nq) osq = w7 at G2 ⊢
        go_wp2
        go_roundg (n - (k + 1))
        case measure => omega
        case rel => exact ⟨k + 1, j + 1, .inr (by have := hjk.out; omega), by have := hjk.out; show _ = _; omega, rfl, by go_num, G2⟩
      · replace hjk := Lib.hid hjk
        clear hk
        replace hj := Lib.hid hj
        have K5 := Lib.hid (K4.out.trans G.out.keep)
        have L5 : Hid (Keep w3 wr) := k4.out.trans G.out.keep
        have fz5 : Hid (∀ t, t < n * 9 → wr.frozen? ⟨g, t, none⟩ = false) := fun t ht => fz_keep G.out.keep hg2 (fz.out t ht)
        have hgr := G.out.keep.size
        go_wp2_with fail
        refine (ksort_fn (some ⟨g, 0, none⟩) n n S _ RW.out (by omega) sm.out).mono ?_
        rintro e w6 ⟨v6, rfl, k6, g6, rfl, _, _, _, S6, dk6, rS6, _, pS6, sS6, cS6⟩
        have od := one_row (T := List.range n) (cmpP_swo S) pS6 sS6 (List.Perm.refl _) (fun s t h1 h2 => by
          rw [List.length_range] at h2
          have e1 : ∀ i, i < n → (List.range n).getD i 0 = i := fun i hi => by simp [List.getD_eq_getElem?_getD, List.getElem?_range hi]
          rw [e1 t h2, e1 s (by omega), lo_cross h1]
          exact decide_eq_false (fun h => srt.out s t h1 h2 h))
        have cS7 : Hid (∀ j, j < n → SameV (S6 j) (S j)) := fun j hj => by
          have := cS6 j hj
          rw [od j hj] at this
          simpa [List.getD_eq_getElem?_getD, List.getElem?_range hj] using this
        have rS6' := Lib.hid rS6
        have RW6 := Lib.hid (RW.out.keep k6)
        have K6 := Lib.hid (K5.out.trans k6)
        have L6 := Lib.hid (L5.out.trans k6)
        have fz6 : Hid (∀ t, t < n * 9 → w6.frozen? ⟨g, t, none⟩ = false) := fun t ht => fz_keep k6 (by omega) (fz5.out t ht)
        have hg6 := k6.size
        clear od cS6 sS6 pS6 rS6 fz5 L5 K5
        replace k6 := Lib.hid k6
        go_wp2_with fail
        refine (rsame6_fn (some ⟨g6, 0, none⟩) (some ⟨g, 0, none⟩) n n n S6 S _ rS6'.out RW6.out cS7.out).mono ?_
        rintro e w7 ⟨rfl, k7⟩
        have RW7 := Lib.hid (RW6.out.keep k7)
        have K7 := Lib.hid (K6.out.trans k7)
        have L7 := Lib.hid (L6.out.trans k7)
        have fz7 : Hid (∀ t, t < n * 9 → w7.frozen? ⟨g, t, none⟩ = false) := fun t ht => fz_keep k7 (by omega) (fz6.out t ht)
        have ce : Hid (∀ t, t < n → w7.cell? ⟨g, t * 9, none⟩ = some (.int .i64 (S t).k)) := fun t ht => by
          obtain ⟨b, off, hA, ca⟩ := RW7.out.adr (by omega)
          obtain ⟨rfl, rfl⟩ : b = g ∧ off = 0 := by
            simp only [Option.some.injEq, Addr.mk.injEq] at hA
            exact ⟨hA.1.symm, hA.2.1.symm⟩
          have := (ca t ht).e0
          rwa [Nat.zero_add] at this
        replace k7 := Lib.hid k7
        clear fz6 L6 K6 RW6 RW rS6'
        rename World => wq
        go_wp2
        go_loopg [8] n (fun gx s8 wr => ∃ j : Nat, j ≤ n ∧ gx = n - j ∧ s8 = .int .i64 j ∧ Hid (Keep w3 wr) ∧ Hid (∀ t, j ≤ t → t < n → wr.cell? ⟨g, t * 9, none⟩ = some (.int .i64 (S t).k)) ∧ Hid (∀ t, t < n * 9 → wr.frozen? ⟨g, t, none⟩ = false))
        case atStart => exact ⟨0, Nat.zero_le _, rfl, rfl, L7, fun t _ ht => ce.out t ht, fz7⟩
        case round =>
          clear ce fz7 L7
          obtain ⟨j, hj, rfl, rfl, L8, ce, fz8⟩ := hrel
          by_cases hlt : j < n
          · have q1 := pods_at g 0 n n j hlt
            rw [Nat.zero_add] at q1
            have c1 := ce.out j (Nat.le_refl _) hlt
            have f1 := fz8.out (j * 9) (by omega)
            generalize (S j).k = u at c1
            go_wp2
            go_roundg (n - (j + 1))
            case measure => omega
            case rel =>
              refine ⟨j + 1, hlt, rfl, by go_num, L8.out.set (by exact hg.out) _, fun t ht1 ht2 => ?_, fun t ht => ?_⟩
              · rw [World.cell?_setCell_other]
                · exact ce.out t (by omega) ht2
                · intro e
                  simp at e <;> omega
              · rw [World.frozen?_setCell]
                exact fz8.out t ht
          · obtain rfl : j = n := by omega
            have L9 := Lib.hid (L3.out.keep L8.out)
            have R9 := Lib.hid (R3.out.keep L8.out)
            have K9 := Lib.hid (K3'.out.trans L8.out)
            go_wp2_with fail
            refine (rsame6_fn B A j d c P P _ R9.out L9.out (fun _ _ => SameV.refl _)).mono ?_
            rintro e w9 ⟨rfl, k9⟩
            have K10 := Lib.hid (K9.out.trans k9)
            replace k9 := Lib.hid k9
            go_wp2
            go_ret
            exact ⟨rfl, K10.out⟩
  · have hfew := rfew_fn A n c P w1 R1.out false ⟨fun h => (by cases h), fun h => absurd h hf⟩
    replace hf := Lib.hid hf
    replace hfew := Lib.hid hfew
    go_wp2_with fail
    refine hfew.out.mono ?_
    rintro e w2 ⟨rfl, rfl⟩
    go_wp2_with fail
    refine (aw.out _).mono ?_
    rintro e w3 ⟨rfl, k3⟩
    have K3 := Lib.hid (k1.out.trans k3)
    replace k3 := Lib.hid k3
    go_wp2
    go_ret
    exact ⟨rfl, K3.out⟩
end Go.Proofs.Ytflheiodaklceaa
