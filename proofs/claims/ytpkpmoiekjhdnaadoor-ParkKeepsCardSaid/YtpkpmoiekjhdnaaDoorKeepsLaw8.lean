/-
  The walk of ParkKeeps. Condition: the table of names holds its own; a slice without an array has no room.
-/
import Derived.Test.YtpkpmoiekjhdnaaDoorWakesLaw8
import Derived.Test.YtpkpmoiekjhdnaaDoorSpoil8
namespace Go.Proofs.YtpkpmoiekjhdnaaDoor
open Go.RowKit Go.Sort Go.Lib Go.Shelf

set_option maxRecDepth 100000 in
set_option maxHeartbeats 8000000 in
theorem keeps_walk {A : Option Addr} {n c : Nat} {P : Nat → PodV} {w : World} (hR : RdPods w A n P) (hv : V8 w) : Calls Tryd.prog 5 #[.slice A n c] w fun e w' => e = .returned (.bool true) ∧ Keep w w' := by
  have hv := Lib.hid hv
  have aw := Lib.hid awake_true
  replace hR := Lib.hid hR
  go_enter Tryd.func5, Tryd.ntmps5
  go_wp2_with fail
  refine (pnew_fn _).mono ?_
  rintro e w1 ⟨bl, rfl, k1, hQ⟩
  have hQ := Lib.hid hQ
  replace k1 := Lib.hid k1
  go_wp2_with fail
  refine (pnew_fn _).mono ?_
  rintro e w2 ⟨br, rfl, k12, hQr⟩
  have hQr := Lib.hid hQr
  have k12 := Lib.hid k12
  have K2 := Lib.hid (k1.out.trans k12.out)
  go_wp2_with fail
  refine (aw.out _ (hv.out.keep K2.out)).mono ?_
  rintro e w3 ⟨rfl, k23⟩
  have k23 := Lib.hid k23
  have K3 := Lib.hid (K2.out.trans k23.out)
  have R3 := Lib.hid (hR.out.keep K3.out)
  have hfew : ∀ b : Bool, (b = true ↔ FewP P n) → Calls Tryd.prog 19 #[.slice A n c] w3 fun e w' => e = .returned (.bool b) ∧ w3 = w' := fun b hb => rfew_fn A n c P w3 R3.out b hb
  replace hfew := Lib.hid hfew
  by_cases hf : FewP P n
  rotate_left
  · have hfew2 := Lib.hid (hfew.out false (by simp only [Bool.false_eq_true, false_iff]; exact hf))
    clear hfew
    replace hf := Lib.hid hf
    go_wp2_with fail
    refine hfew2.out.mono ?_
    rintro e w4 ⟨rfl, rfl⟩
    clear hfew2
    go_wp2_with fail
    refine (aw.out _ (hv.out.keep K3.out)).mono ?_
    rintro e w4 ⟨rfl, k4⟩
    go_wp2
    go_ret
    exact ⟨rfl, K3.out.trans k4⟩
  have hfew2 := Lib.hid (hfew.out true ⟨fun _ => hf, fun _ => rfl⟩)
  clear hfew
  have hn := hf.1
  have hf := Lib.hid hf
  obtain ⟨D, Q3, hD⟩ := hQ.out w.heap.size w3 (Nat.le_refl _) (k12.out.trans k23.out) K3.out.size
  obtain ⟨Dr, Qr3, hDr⟩ := hQr.out w1.heap.size w3 (Nat.le_refl _) k23.out (k12.out.trans k23.out).size
  have loD := fun k hk => (Q3.lo k hk).1
  have loDr := fun k hk => (Qr3.lo k hk).1
  obtain ⟨B, E0, M0, hp0, rfl⟩ := Q3
  obtain ⟨Br, Er, Mr0, hpr, rfl⟩ := Qr3
  have eE0 : E0 = [] := by have h := hp0.length_eq; simp at h; exact h
  have eEr : Er = [] := by have h := hpr.length_eq; simp at h; exact h
  subst eE0 eEr
  have ap : Hid (∀ k, Foot8 br Br k → ¬ Foot8 bl B k) := fun k h1 h2 => by
    have a1 := loDr k h1
    have a2 := hD k h2
    omega
  replace loD := Lib.hid loD
  replace loDr := Lib.hid loDr
  replace M0 := Lib.hid M0
  replace Mr0 := Lib.hid Mr0
  replace hp0 := Lib.hid hp0
  replace hpr := Lib.hid hpr
  replace hD := Lib.hid hD
  replace hDr := Lib.hid hDr
  go_wp2_with fail
  refine hfew2.out.mono ?_
  rintro e w4 ⟨rfl, rfl⟩
  clear hfew2
  go_wp2
  go_loopg [5, 6, 7] n (fun gx s5 _ _ wr => ∃ (i : Nat) (E : List (PodV × Int)), i ≤ n ∧ gx = n - i ∧ s5 = .int .i64 i ∧ Hid (Keep w wr) ∧ Hid (LMem wr w.heap.size w.heap.size bl B E) ∧ Hid (LMem wr w1.heap.size w1.heap.size br Br []) ∧ Hid (podsE (E.map nmE) = addN [] P i))
  case atStart => exact ⟨0, [], Nat.zero_le _, rfl, rfl, K3, M0, Mr0, rfl⟩
  case round =>
    clear M0 Mr0
    obtain ⟨i, E, hi, rfl, rfl, K, M, Mr, EL⟩ := hrel
    by_cases hlt : i < n
    · obtain ⟨b, off, hA, ca⟩ := hR.out.adr (by omega)
      subst hA
      have q1 := pods_at b off n c i hlt
      have X := (ca i hlt).keep K.out
      have Xi := (hR.out.is i hlt).keep K.out
      have hxm := (hf.out.2 i hlt).2.2
      clear ca
      have ha : addN [] P (i + 1) = addP (addN [] P i) (P i) := rfl
      obtain ⟨x, hx⟩ : ∃ x, x = P i := ⟨_, rfl⟩
      rw [← hx] at X Xi hxm ha
      replace hx := Lib.hid hx
      have hlen : E.length ≤ i := by
        have h1 := (addN_len [] P i).2
        rw [← EL.out] at h1
        simp [podsE] at h1
        exact h1
      have x0 := X.e0; have x1 := X.e1; have x2 := X.e2; have x3 := X.e3; have x4 := X.e4; have x5 := X.e5; have x6 := X.e6; have x7 := X.e7; have x8 := X.e8
      clear X
      obtain ⟨W1, hW1⟩ : ∃ W, W = wr.alloc (.cells #[.int .i64 x.k, .int .i64 x.p, .bool x.f, .int .i64 x.g, .slice x.A x.m x.c, .int .i64 x.a, .int .i64 x.h, .int .i64 x.d, .int .i64 x.t] 35) := ⟨_, rfl⟩
      have KW1 : Keep wr W1 := by rw [hW1]; exact Keep.one _ _
      have zW1 : W1.heap.size = wr.heap.size + 1 := by rw [hW1, World.size_alloc]
      have vW1 : W1.heap[wr.heap.size]? = some (.cells #[.int .i64 x.k, .int .i64 x.p, .bool x.f, .int .i64 x.g, .slice x.A x.m x.c, .int .i64 x.a, .int .i64 x.h, .int .i64 x.d, .int .i64 x.t] 35 (0, 0)) := by rw [hW1]; exact heap_alloc_new _ _
      obtain ⟨W2, hW2⟩ : ∃ W, W = W1.alloc (Obj.cells #[] 2) := ⟨_, rfl⟩
      have KW2 : Keep wr W2 := by rw [hW2]; exact KW1.alloc _
      have zW2 : W2.heap.size = wr.heap.size + 1 + 1 := by rw [hW2, World.size_alloc, zW1]
      have vW2 : W2.heap[wr.heap.size]? = some (.cells #[.int .i64 x.k, .int .i64 x.p, .bool x.f, .int .i64 x.g, .slice x.A x.m x.c, .int .i64 x.a, .int .i64 x.h, .int .i64 x.d, .int .i64 x.t] 35 (0, 0)) := by rw [hW2]; exact (Keep.one _ _).block vW1
      have eW2 : W2.heap[wr.heap.size + 1]? = some (.cells #[] 2 (0, 0)) := by rw [hW2, ← zW1]; exact heap_alloc_new _ _
      have t2 : W2.ownsRow (wr.heap.size + 1) 2 1 (Value.slice (some ⟨wr.heap.size + 1, 0, none⟩) 0 0) 0 [] := ⟨rfl, .inr ⟨wr.heap.size + 1, 0, #[], rfl, Nat.le_refl _, eW2, Nat.le_refl _, Nat.zero_le _, rfl, rfl⟩⟩
      have t4 : Rd W2 x.A x.m x.Z := Xi.rd.keep KW2
      have t5 : x.A = none → x.m = 0 ∧ x.c = 0 := Xi.nil
      have t6 : 0 + x.m ≤ 1048576 := by omega
      have t7 : wr.heap.size + 1 ≤ W2.heap.size := by omega
      have c4 : W2.cell? ⟨wr.heap.size, 4, none⟩ = some (.slice x.A x.m x.c) := by rw [cell_of_row _ _ _ _ _ _ vW2]; rfl
      have POST : Hid (∀ v5 w5, w5.ownsRow (wr.heap.size + 1) 2 1 v5 (0 + x.m) ([] ++ rowL x.m x.Z) → W2.grownBy w5 (Value.slice (some ⟨wr.heap.size + 1, 0, none⟩) 0 0).ownBlock → ∃ A5 c5, v5 = .slice A5 x.m c5 ∧ w5.cell? ⟨wr.heap.size, 4, none⟩ = some (.slice x.A x.m x.c) ∧ w5.frozen? ⟨wr.heap.size, 4, none⟩ = false ∧ ∀ w6, w6 = w5.setCell ⟨wr.heap.size, 4, none⟩ (.slice A5 x.m c5) →
          Keep wr w6 ∧ w6.heap[wr.heap.size]? = some (.cells #[.int .i64 x.k, .int .i64 x.p, .bool x.f, .int .i64 x.g, .slice A5 x.m c5, .int .i64 x.a, .int .i64 x.h, .int .i64 x.d, .int .i64 x.t] 35 (0, 0)) ∧ Req w6 (wr.heap.size + 1) (x.at A5 c5) ∧ PodOk (x.at A5 c5)) := fun v5 w5 hr hg => by
        rw [List.nil_append, Nat.zero_add] at hr
        obtain ⟨A5, c5, rfl, hnil⟩ := own_form hr
        have v5 : w5.heap[wr.heap.size]? = some (.cells #[.int .i64 x.k, .int .i64 x.p, .bool x.f, .int .i64 x.g, .slice x.A x.m x.c, .int .i64 x.a, .int .i64 x.h, .int .i64 x.d, .int .i64 x.t] 35 (0, 0)) := (hg.block _ (by omega) (fun e => by have h : wr.heap.size = wr.heap.size + 1 := Option.some.inj e; omega)).trans vW2
        refine ⟨A5, c5, rfl, by rw [cell_of_row w5 _ _ _ _ _ v5]; rfl, frozen_of_row w5 _ _ _ _ v5, fun w6 hw6 => ⟨?_, ?_, ?_, ⟨Xi.rd.small, Xi.rd.range, hnil, Xi.rng⟩⟩⟩
        · rw [hw6]
          exact (keep_grown KW2 hg fun g e => by have h : wr.heap.size + 1 = g := Option.some.inj e; omega).set (Nat.le_refl _) _
        · rw [hw6]
          exact heap_setCell_same w5 wr.heap.size 4 _ _ (.slice A5 x.m c5) v5
        · have h1 : Req w5 (wr.heap.size + 1) (x.at A5 c5) := hr
          refine own_blocks1 h1 fun g hg2 => ?_
          rw [hw6]
          refine Below.heap_setCell w5 _ _ g fun e => ?_
          have := (h1.lt g hg2).1
          simp only at e
          omega
      rw [hW2, hW1] at c4 t2 t4 t7 POST
      replace t2 := Lib.hid t2
      replace t4 := Lib.hid t4
      replace t5 := Lib.hid t5
      replace t6 := Lib.hid t6
      replace t7 := Lib.hid t7
      replace KW1 := Lib.hid KW1
      replace KW2 := Lib.hid KW2
      replace zW1 := Lib.hid zW1
      replace zW2 := Lib.hid zW2
      replace vW1 := Lib.hid vW1
      replace vW2 := Lib.hid vW2
      replace eW2 := Lib.hid eW2
      replace Xi := Lib.hid Xi
      replace ha := Lib.hid ha
      replace hW1 := Lib.hid hW1
      replace hW2 := Lib.hid hW2
      go_wp2_with (at_builtin; refine wpl_ownI rfl (.tmp 47) (.tmp 49) rfl (wr.heap.size + 1) (.slice (some ⟨wr.heap.size + 1, 0, none⟩) 0 0) 0 [] rfl t2.out x.A x.m x.c x.Z rfl t4.out t5.out t6.out t7.out ?_; intro v5 w5 hr5 hg5; obtain ⟨A5, c5, hv5, y4, f4, post⟩ := POST.out v5 w5 hr5 hg5; subst hv5; have v6c := (post _ rfl).2.1; have z0 : (w5.setCell ⟨wr.heap.size, 4, none⟩ (.slice A5 x.m c5)).cell? ⟨wr.heap.size, 0, none⟩ = some (.int .i64 x.k) := (cell_of_row _ _ _ _ _ _ v6c).trans rfl; have z1 : (w5.setCell ⟨wr.heap.size, 4, none⟩ (.slice A5 x.m c5)).cell? ⟨wr.heap.size, 1, none⟩ = some (.int .i64 x.p) := (cell_of_row _ _ _ _ _ _ v6c).trans rfl; have z2 : (w5.setCell ⟨wr.heap.size, 4, none⟩ (.slice A5 x.m c5)).cell? ⟨wr.heap.size, 2, none⟩ = some (.bool x.f) := (cell_of_row _ _ _ _ _ _ v6c).trans rfl; have z3 : (w5.setCell ⟨wr.heap.size, 4, none⟩ (.slice A5 x.m c5)).cell? ⟨wr.heap.size, 3, none⟩ = some (.int .i64 x.g) := (cell_of_row _ _ _ _ _ _ v6c).trans rfl; have z4 : (w5.setCell ⟨wr.heap.size, 4, none⟩ (.slice A5 x.m c5)).cell? ⟨wr.heap.size, 4, none⟩ = some (.slice A5 x.m c5) := (cell_of_row _ _ _ _ _ _ v6c).trans rfl; have z5 : (w5.setCell ⟨wr.heap.size, 4, none⟩ (.slice A5 x.m c5)).cell? ⟨wr.heap.size, 5, none⟩ = some (.int .i64 x.a) := (cell_of_row _ _ _ _ _ _ v6c).trans rfl; have z6 : (w5.setCell ⟨wr.heap.size, 4, none⟩ (.slice A5 x.m c5)).cell? ⟨wr.heap.size, 6, none⟩ = some (.int .i64 x.h) := (cell_of_row _ _ _ _ _ _ v6c).trans rfl; have z7 : (w5.setCell ⟨wr.heap.size, 4, none⟩ (.slice A5 x.m c5)).cell? ⟨wr.heap.size, 7, none⟩ = some (.int .i64 x.d) := (cell_of_row _ _ _ _ _ _ v6c).trans rfl; have z8 : (w5.setCell ⟨wr.heap.size, 4, none⟩ (.slice A5 x.m c5)).cell? ⟨wr.heap.size, 8, none⟩ = some (.int .i64 x.t) := (cell_of_row _ _ _ _ _ _ v6c).trans rfl; replace v6c := Lib.hid v6c; replace hr5 := Lib.hid hr5; replace hg5 := Lib.hid hg5; replace post := Lib.hid post)
      clear x0 x1 x2 x3 x4 x5 x6 x7 x8 q1 c4 y4 f4
      obtain ⟨KW6, v6, rq6, ok6⟩ := post.out _ rfl
      generalize w5.setCell ⟨wr.heap.size, 4, none⟩ (.slice A5 x.m c5) = w6 at *
      have z4' := z4
      have M6 := M.out.keep KW6
      have hgs : wr.heap.size < w6.heap.size := cell_lt z4
      have cA : Hid (Calls Tryd.prog 20 #[.pointer (some ⟨bl, 0, none⟩), .agg #[.int .i64 x.k, .int .i64 x.p, .bool x.f, .int .i64 x.g, .slice A5 x.m c5, .int .i64 x.a, .int .i64 x.h, .int .i64 x.d, .int .i64 x.t], .int .i64 1] w6 fun e w' => ∃ (b : Bool) (E' : List (PodV × Int)), e = .returned (.bool b) ∧ LMem w' w.heap.size w.heap.size bl B E' ∧ podsE (E'.map nmE) = addN [] P (i + 1) ∧ Fr (Foot8 bl B) w6 w' ∧ ∀ y ∈ E', ∀ g, (Value.slice y.1.A y.1.m y.1.c).ownBlock = some g → g < wr.heap.size ∨ w6.heap.size ≤ g) := by
        have old : ∀ y ∈ E, ∀ g, (Value.slice y.1.A y.1.m y.1.c).ownBlock = some g → g < wr.heap.size ∨ w6.heap.size ≤ g := fun y hy g hg => Or.inl ((M.out.own y hy).1.lt g hg).2
        by_cases hk : x.k ∈ keysE E
        · refine (padd_there (L := E.map nmE) ⟨B, E, M6, List.Perm.refl _, rfl⟩ (x.at A5 c5) 1 (by decide) (by decide) (by rw [keys_nm]; exact hk)).mono fun e w' ⟨he, k⟩ => ⟨false, E, he, M6.keep k, ?_, Fr.of k, old⟩
          rw [ha.out, EL.out]
          refine (addP_in ?_).symm
          rw [← EL.out, pods_keys, keys_nm]
          exact hk
        · refine (padd_mem M6 (x.at A5 c5) 1 (by decide) (by decide) hk (rq6.is ok6) (by show x.m ≤ 1000; omega) (by omega)).mono fun e w' ⟨he, A6, c6, M7, r7, F7⟩ => ⟨true, _, he, M7, ?_, F7, fun y hy g hg => ?_⟩
          · have e1 : podsE ((E ++ [((x.at A5 c5).at A6 c6, (1 : Int))]).map nmE) = podsE (E.map nmE) ++ [nm x] := by unfold podsE; rw [List.map_append, List.map_append]; rfl
            rw [e1, ha.out, EL.out]
            refine (addP_out ?_).symm
            rw [← EL.out, pods_keys, keys_nm]
            exact hk
          · rcases List.mem_append.1 hy with h | h
            · exact old y h g hg
            · rw [List.mem_singleton.1 h] at hg
              exact Or.inr (r7.lt g hg).1
      have sp : SpI w6 (fun k => wr.heap.size ≤ k ∧ k < w6.heap.size) wr.heap.size 0 1 (fun _ => x.at A5 c5) := by
        refine ⟨fun j hj => ?_, fun j hj => ?_, fun j hj => frozen_of_row _ _ _ _ _ v6, fun _ => ⟨Nat.le_refl _, hgs⟩, fun j hj hm => ?_⟩
        · obtain rfl : j = 0 := by omega
          exact ⟨x.k, z0⟩
        · obtain rfl : j = 0 := by omega
          exact z4'
        · obtain ⟨g, cap, e, hb3, hl⟩ := World.ownsRow.form rq6 hm
          simp only [Value.slice.injEq] at e
          have e1 : (x.at A5 c5).A = some ⟨g, 0, none⟩ := e.1
          refine ⟨g, 0, e1, ⟨by omega, hl⟩, by omega, fun k hk => ?_⟩
          have r := rq6
          unfold Req at r
          rw [e1] at r
          refine ⟨?_, x.Z k, ?_⟩
          · rw [Nat.zero_add]; exact r.frozenAt k
          · rw [Nat.zero_add, r.cellAt k (by omega)]
            have hk : k < x.m := hk
            simp [rowL, hk, PodV.at]
      replace KW6 := Lib.hid KW6
      replace v6 := Lib.hid v6
      replace rq6 := Lib.hid rq6
      replace ok6 := Lib.hid ok6
      replace M6 := Lib.hid M6
      replace sp := Lib.hid sp
      clear z4'
      go_wp2_with fail
      refine cA.out.mono ?_
      rintro e w7 ⟨b7, E7, rfl, M7, e7, F7, far7⟩
      have ftl : Hid (∀ k, Foot8 bl B k → k < wr.heap.size) := fun k hk => (M.out.foot_lt k hk).2
      have sp7 : SpI w7 (fun k => wr.heap.size ≤ k ∧ k < w6.heap.size) wr.heap.size 0 1 (fun _ => x.at A5 c5) := by
        have nf : ∀ k, wr.heap.size ≤ k → ¬ Foot8 bl B k := fun k h1 h2 => by have := ftl.out k h2; omega
        have S := sp.out
        have fz : ∀ a o, wr.heap.size ≤ a → a < w6.heap.size → w7.frozen? ⟨a, o, none⟩ = w6.frozen? ⟨a, o, none⟩ := fun a o h1 h2 => by
          simp only [World.frozen?, F7.block a h2 (nf a h1)]
        refine ⟨fun j hj => ?_, fun j hj => F7.cell (S.rq j hj) (nf _ (Nat.le_refl _)), fun j hj => (fz _ _ (Nat.le_refl _) hgs).trans (S.fz j hj), S.d, fun j hj hm => ?_⟩
        · obtain ⟨k, hk⟩ := S.id j hj
          exact ⟨k, F7.cell hk (nf _ (Nat.le_refl _))⟩
        · obtain ⟨b', off', e1, hd, hne, hc⟩ := S.el j hj hm
          refine ⟨b', off', e1, hd, hne, fun k hk => ?_⟩
          obtain ⟨h1, z, h2⟩ := hc k hk
          exact ⟨(fz _ _ hd.1 hd.2).trans h1, z, F7.cell h2 (nf _ hd.1)⟩
      replace M7 := Lib.hid M7
      replace e7 := Lib.hid e7
      replace F7 := Lib.hid F7
      replace far7 := Lib.hid far7
      have sp7 := Lib.hid sp7
      have rqs : Hid (∀ W, SpI W (fun k => wr.heap.size ≤ k ∧ k < w6.heap.size) wr.heap.size 0 1 (fun _ => x.at A5 c5) → W.cell? ⟨wr.heap.size, 4, none⟩ = some (.slice A5 x.m c5) ∧ (0 < x.m → ∃ b' off', A5 = some ⟨b', off', none⟩ ∧ (wr.heap.size ≤ b' ∧ b' < w6.heap.size) ∧ b' ≠ wr.heap.size ∧ ∀ k, k < x.m → W.frozen? ⟨b', off' + k, none⟩ = false ∧ ∃ z, W.cell? ⟨b', off' + k, none⟩ = some (.int .i64 z))) := fun W hW => ⟨hW.rq 0 (by omega), hW.el 0 (by omega)⟩
      clear cA z0 z1 z2 z3 z4 z5 z6 z7 z8
      generalize hwo : wr = wo at *
      clear hwo
      go_wp2
      go_loopg [7] x.m (fun gy s7 wq => ∃ t : Nat, s7 = .int .i64 t ∧ t ≤ x.m ∧ gy = x.m - t ∧ Hid (SpI wq (fun k => wo.heap.size ≤ k ∧ k < w6.heap.size) wo.heap.size 0 1 (fun _ => x.at A5 c5)) ∧ Hid (Fr (fun k => wo.heap.size ≤ k ∧ k < w6.heap.size) w7 wq))
      case atStart => exact ⟨0, rfl, Nat.zero_le _, rfl, sp7, Fr.refl _ _⟩
      case round =>
        clear sp7
        obtain ⟨t, rfl, ht, rfl, I2, F2⟩ := hrel
        have c4 := (rqs.out _ I2.out).1
        by_cases hlt2 : t < x.m
        · obtain ⟨b', off', hA5, hd', hne', he⟩ := (rqs.out _ I2.out).2 (by omega)
          rw [hA5] at c4
          obtain ⟨f5, z, c5'⟩ := he t hlt2
          have q2 := nums_at b' off' x.m c5 t hlt2
          have I3 := Lib.hid (I2.out.set2 hne' c5' (wrap64 (z + 1)))
          have F3 := Lib.hid (F2.out.set (p := ⟨b', off' + t, none⟩) (Or.inl hd') (.int .i64 (wrap64 (z + 1))))
          replace hd' := Lib.hid hd'
          replace hne' := Lib.hid hne'
          replace he := Lib.hid he
          replace hA5 := Lib.hid hA5
          go_wp2
          go_roundg (x.m - (t + 1))
          case measure => omega
          case rel => exact ⟨t + 1, by first | rfl | go_num, hlt2, rfl, I3, F3⟩
        · obtain rfl : t = x.m := by omega
          have F8 : Hid (Fr (Foot8 bl B) wo wr) := ((Fr.of KW6.out).trans F7.out fun _ h => Or.inl h).trans F2.out fun k hk => Or.inr hk.1
          have K8 : Hid (Keep w wr) := F8.out.low K.out loD.out
          have M8 : Hid (LMem wr w.heap.size w.heap.size bl B E7) := M7.out.frame F2.out (fun k hk hd => by have := ftl.out k hk; omega) fun y hy g hg hd => by
            have := far7.out y hy g hg
            omega
          have Mr8 : Hid (LMem wr w1.heap.size w1.heap.size br Br []) := Mr.out.frame F8.out (fun k hk => ap.out k hk) fun y hy => by cases hy
          go_wp2
          go_roundg (n - (i + 1))
          case measure => omega
          case rel => exact ⟨i + 1, E7, hlt, rfl, by first | rfl | go_num, K8, M8, Mr8, e7⟩
    · obtain rfl : i = n := by omega
      have QL : LInv wr w.heap.size w.heap.size bl (Foot8 bl B) (E.map nmE) := ⟨B, E, M.out, List.Perm.refl _, rfl⟩
      have QR : LInv wr w1.heap.size w1.heap.size br (Foot8 br Br) [] := ⟨Br, [], Mr.out, List.Perm.refl _, rfl⟩
      have kQ := QL.keys
      rw [← pods_keys, EL.out] at kQ
      obtain ⟨m, hm⟩ : ∃ m, m = (E.map nmE).length := ⟨_, rfl⟩
      have hmE : m = (addN [] P i).length := by rw [hm, ← EL.out]; simp [podsE]
      have hm1 : m ≤ 1000 := by have := QL.len; omega
      have hsm : Hid (∀ x, nm x ∈ addN [] P i → x.m ≤ 1000) := fun x hx => by
        rw [← EL.out] at hx
        obtain ⟨y, hy, e⟩ := List.mem_map.1 hx
        have h1 := QL.small y hy
        have h2 : y.1.m = (nm x).m := by rw [e]
        have h3 : (nm x).m = x.m := rfl
        omega
      have cAl : Hid (∀ W, Keep wr W → Calls Tryd.prog 13 #[.pointer (some ⟨bl, 0, none⟩)] W fun e w' => ∃ v S, e = .returned v ∧ AllIs W w' (addN [] P i) m v S) := fun W k => by
        have h := pall_fn (QL.keep k)
        rw [← hm, EL.out] at h
        exact h
      have cA1 := Lib.hid (cAl.out wr (Keep.refl _))
      replace QL := Lib.hid QL
      replace QR := Lib.hid QR
      replace kQ := Lib.hid kQ
      replace hm := Lib.hid hm
      replace hmE := Lib.hid hmE
      go_wp2_with fail
      refine cA1.out.mono ?_
      rintro e w4 ⟨v, S, rfl, AL⟩
      obtain ⟨g, rfl, _⟩ := AL.at_
      have k4 := Lib.hid AL.keep
      have I0 := Lib.hid (spi_all AL)
      have hmS : Hid (∀ j, j < m → (S j).m ≤ 1000) := fun j hj => hsm.out (S j) (AL.perm.mem_iff.1 (List.mem_map_of_mem (lst_mem.2 ⟨j, hj, rfl⟩)))
      replace AL := Lib.hid AL
      clear cA1
      generalize hwo : wr = wo at *
      clear hwo
      go_wp2
      go_loopg [9, 10] m (fun gx s9 _ wx => ∃ j : Nat, s9 = .int .i64 j ∧ j ≤ m ∧ gx = m - j ∧ Hid (SpI wx (fun k => wo.heap.size ≤ k) g 0 m S) ∧ Hid (Fr (fun k => wo.heap.size ≤ k) w4 wx))
      case atStart => exact ⟨0, rfl, Nat.zero_le _, rfl, I0, Fr.refl _ _⟩
      case round =>
        clear I0
        obtain ⟨j, rfl, hj, rfl, I, F⟩ := hrel
        by_cases hlt3 : j < m
        · have q1 := pods_at g 0 m m j hlt3
          obtain ⟨k, c0⟩ := I.out.id j hlt3
          have f0 := I.out.fz j hlt3
          have I1 := Lib.hid (I.out.set1 hlt3 (wrap64 (k + 1)))
          have F1 := Lib.hid (F.out.set (p := ⟨g, 0 + j * 9, none⟩) (Or.inl (I.out.d (by omega))) (.int .i64 (wrap64 (k + 1))))
          have hmj := hmS.out j hlt3
          have rqs : Hid (∀ W, SpI W (fun k => wo.heap.size ≤ k) g 0 m S → W.cell? ⟨g, 0 + j * 9 + 4, none⟩ = some (.slice (S j).A (S j).m (S j).c) ∧ (0 < (S j).m → ∃ b' off', (S j).A = some ⟨b', off', none⟩ ∧ wo.heap.size ≤ b' ∧ b' ≠ g ∧ ∀ k, k < (S j).m → W.frozen? ⟨b', off' + k, none⟩ = false ∧ ∃ z, W.cell? ⟨b', off' + k, none⟩ = some (.int .i64 z))) := fun W hW => ⟨hW.rq j hlt3, hW.el j hlt3⟩
          obtain ⟨y, hy⟩ : ∃ y, y = S j := ⟨_, rfl⟩
          rw [← hy] at rqs hmj
          replace hy := Lib.hid hy
          rw [Nat.zero_add] at q1 c0 f0 I1 F1 rqs
          go_wp2
          generalize wr.setCell ⟨g, j * 9, none⟩ (.int .i64 (wrap64 (k + 1))) = wy at I1 F1 ⊢
          clear c0 f0
          go_loopg [10] y.m (fun gy s10 wq => ∃ t : Nat, s10 = .int .i64 t ∧ t ≤ y.m ∧ gy = y.m - t ∧ Hid (SpI wq (fun k => wo.heap.size ≤ k) g 0 m S) ∧ Hid (Fr (fun k => wo.heap.size ≤ k) w4 wq))
          case atStart => exact ⟨0, rfl, Nat.zero_le _, rfl, I1, F1⟩
          case round =>
            clear I1 F1 I F
            obtain ⟨t, rfl, ht, rfl, I2, F2⟩ := hrel
            have c4 := (rqs.out _ I2.out).1
            by_cases hlt2 : t < y.m
            · obtain ⟨b', off', hA5, hd', hne', he⟩ := (rqs.out _ I2.out).2 (by omega)
              rw [hA5] at c4
              obtain ⟨f5, z, c5⟩ := he t hlt2
              have q2 := nums_at b' off' y.m y.c t hlt2
              have I3 := Lib.hid (I2.out.set2 hne' c5 (wrap64 (z + 1)))
              have F3 := Lib.hid (F2.out.set (p := ⟨b', off' + t, none⟩) (Or.inl hd') (.int .i64 (wrap64 (z + 1))))
              replace hd' := Lib.hid hd'
              replace hne' := Lib.hid hne'
              replace he := Lib.hid he
              replace hA5 := Lib.hid hA5
              go_wp2
              go_roundg (y.m - (t + 1))
              case measure => omega
              case rel => exact ⟨t + 1, by first | rfl | go_num, hlt2, rfl, I3, F3⟩
            · obtain rfl : t = y.m := by omega
              go_wp2
              go_roundg (m - (j + 1))
              case measure => omega
              case rel => exact ⟨j + 1, by first | rfl | go_num, hlt3, rfl, I2, F2⟩
        · obtain rfl : j = m := by omega
          have k5 := Lib.hid (F.out.low k4.out fun k hk => hk)
          have K5 : Hid (Keep w wr) := K.out.trans k5.out
          have cA2 := Lib.hid (cAl.out wr k5.out)
          go_wp2_with fail
          refine cA2.out.mono ?_
          rintro e w6 ⟨v6, T, rfl, AL6⟩
          obtain ⟨k6, ⟨g6, rfl, _, _, _, RT, _⟩, pT, sT⟩ := AL6
          have K6 := Lib.hid (K5.out.trans k6)
          have k6' := Lib.hid (k5.out.trans k6)
          have cR := rpush_fn none 0 0 (fun _ => zpod) A i c P w6 (RdPods.nil _ _ _) (fun _ => ⟨rfl, rfl⟩) (hR.out.keep K6.out) (by omega) (fun j h => absurd h (Nat.not_lt_zero _)) (fun j hj => ⟨(hf.out.2 j hj).1, (hf.out.2 j hj).2.1⟩)
          have eL0 : (lst (fun _ => zpod) 0).map nm = [] := rfl
          rw [eL0, ← hmE.out] at cR
          replace cR := Lib.hid cR
          replace RT := Lib.hid RT
          replace pT := Lib.hid pT
          replace sT := Lib.hid sT
          replace k6 := Lib.hid k6
          replace eL0 := Lib.hid eL0
          clear cA2
          go_wp2_with fail
          refine cR.out.mono ?_
          rintro e w7 ⟨B7, d7, S7, rfl, RL7, _, _⟩
          have same := both_same pT.out sT.out RL7.perm RL7.sort kQ.out
          have cSm := Lib.hid (rsame6_fn (some ⟨g6, 0, none⟩) B7 j j d7 T S7 w7 (RT.out.keep RL7.keep) RL7.rd same.2)
          have K7 := Lib.hid (K6.out.trans RL7.keep)
          have k7 := Lib.hid (k6'.out.trans RL7.keep)
          replace RL7 := Lib.hid RL7
          replace same := Lib.hid same
          clear cR
          go_wp2_with fail
          refine cSm.out.mono ?_
          rintro e w8 ⟨rfl, k8⟩
          have K8 := Lib.hid (K7.out.trans k8)
          have c9 : Hid (Calls Tryd.prog 13 #[.pointer (some ⟨br, 0, none⟩)] w8 fun e w' => ∃ v S, e = .returned v ∧ AllIs w8 w' [] 0 v S) := pall_fn (QR.out.keep (k7.out.trans k8))
          replace k8 := Lib.hid k8
          clear cSm
          go_wp2_with fail
          refine c9.out.mono ?_
          rintro e w9 ⟨v9, T9, rfl, AL9⟩
          obtain ⟨g9, rfl, _⟩ := AL9.at_
          have K9 := Lib.hid (K8.out.trans AL9.keep)
          replace AL9 := Lib.hid AL9
          clear c9
          go_wp2
          go_ret
          exact ⟨rfl, K9.out⟩
end Go.Proofs.YtpkpmoiekjhdnaaDoor
