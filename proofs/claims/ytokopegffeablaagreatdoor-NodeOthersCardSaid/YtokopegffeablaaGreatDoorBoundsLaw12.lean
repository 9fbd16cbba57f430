/-
  The walk of NodeBounds. Condition: errors.errorType holds its own.
-/
import Derived.Test.YtokopegffeablaaGreatDoorAwake12
namespace Go.Proofs.YtokopegffeablaaGreatDoor.T12
open Go.RowKit Go.Sort Go.Lib V12

section
variable {SI : World → Nat → Int → Nat → (Nat → Prop) → List NodeV → Prop} {w w1 w2 : World} {d : Nat} {s : Int} {q : Nat} {L M : List NodeV}
theorem own_play (C : Con SI) (o : Own SI w d s q L w1) (hg : ErrT w) {B : Option Addr} {cp : Nat} {l : List RnV} (hr : RL w1 d B cp l) (hL : l.map node = L) (op : OpV) (ho : OpIs w1 op) (hn : op.n ≤ 1000) (hd : d ≤ 64) (hl : l.length ≤ 1000) :
    Calls Tryz.prog 8 #[.pointer (some ⟨q, 0, none⟩), .slice B l.length cp, .int .i64 s, op.val] w1 fun e w' => ∃ B' c' l' b, e = .returned (.tuple #[.slice B' l'.length c', .bool b]) ∧ RL w' d B' c' l' ∧ l'.map node = opL L d s op ∧ Own SI w d s q (opL L d s op) w' := by
  obtain ⟨D, h, k, hD⟩ := o
  refine (play_fn C h hr hL (hg.keep k) op ho hn hd hl).mono ?_
  rintro e w' ⟨B', c', l', tb, rfl, a, b, c⟩
  exact ⟨B', c', l', tb, rfl, a, b, Own.eff k hD c⟩
theorem own_ok (C : Con SI) (o : Own SI w d s q L w1) : NSrt L ∧ ∀ x ∈ L, NodeOk d x := by
  obtain ⟨D, h, _, _⟩ := o
  exact ⟨C.srt h, C.ok h⟩
theorem nrow_mem {j : Nat} (hj : j < L.length) : nrow L j ∈ L := by
  unfold nrow
  rw [List.getD_eq_getElem?_getD, List.getElem?_eq_getElem hj]
  exact List.getElem_mem hj
theorem nrow_keys {j : Nat} (hj : j < L.length) : (nrow L j).k ∈ nkeys L := List.mem_map_of_mem (nrow_mem hj)
theorem nget_nrow (hs : NSrt L) {j : Nat} (hj : j < L.length) : nget L (nrow L j).k = nrow L j := G.get_at hs (nrow_mem hj)
end
set_option maxRecDepth 100000 in
set_option maxHeartbeats 4000000 in
theorem bounds_walk {SI : World → Nat → Int → Nat → (Nat → Prop) → List NodeV → Prop} (C : Con SI) (cE : EqC) (A : Option Addr) (n c : Nat) (P : Nat → OpV) (w : World) (hR : RdO w A n P) (hg : ErrT w) : Calls Tryz.prog 3 #[.slice A n c] w fun e w' => e = .returned (.bool true) ∧ Keep w w' := by
  have hs := hR.small
  obtain ⟨fb, hfb⟩ := few_or P n
  have cF : Hid (∀ W, Keep w W → Calls Tryz.prog 7 #[.slice A n c] W fun e w' => e = .returned (.bool fb) ∧ W = w') := fun W k => few_fn A n c P W (hR.keep k) fb hfb
  have aw : Hid (∀ W, Keep w W → Calls Tryz.prog 6 #[] W fun e w' => e = .returned (.bool true) ∧ Keep W w') := fun W k => awake_true C cE W (hg.keep k)
  have cN : Hid (Calls Tryz.prog 5 #[.int .i64 2, .int .i64 5] w fun e w' => ∃ q, e = .returned (.pointer (some ⟨q, 0, none⟩)) ∧ Own SI w 2 5 q [] w') := own_new C 2 5 w (Keep.refl w) (by omega) (by omega) (by omega)
  replace hfb := Lib.hid hfb
  replace hg := Lib.hid hg
  replace hR := Lib.hid hR
  go_enter Tryz.func3, Tryz.ntmps3
  go_wp2_with fail
  refine cN.out.mono ?_
  rintro e w1 ⟨q, rfl, o1⟩
  have K1 := Lib.hid o1.kp
  replace o1 := Lib.hid o1
  go_wp2_with fail
  refine (aw.out _ K1.out).mono ?_
  rintro e w2 ⟨rfl, k2⟩
  have o2 := Lib.hid (o1.out.keep C k2)
  have K2 := Lib.hid o2.out.kp
  replace k2 := Lib.hid k2
  go_wp2_with fail
  refine (cF.out w2 K2.out).mono ?_
  rintro e w2' ⟨rfl, rfl⟩
  cases fb with
  | false =>
    go_wp2_with fail
    refine (aw.out _ K2.out).mono ?_
    rintro e w4 ⟨rfl, k4⟩
    go_wp2
    go_ret
    exact ⟨rfl, K2.out.trans k4⟩
  | true =>
  have hf := hfb.out.1 rfl
  have hn := hf.1
  replace hf := Lib.hid hf
  clear cN aw cF
  go_wp2
  go_loopg [4, 5] n (fun gx s4 s5 wr => ∃ (i : Nat) (l : List RnV) (B : Option Addr) (cp : Nat), i ≤ n ∧ gx = n - i ∧ s5 = .int .i64 i ∧ s4 = .slice B l.length cp ∧ l.length ≤ i ∧ Hid (RL wr 2 B cp l) ∧ Hid (Own SI w 2 5 q (l.map node) wr))
  case atStart => exact ⟨0, [], none, 0, Nat.zero_le _, rfl, rfl, rfl, Nat.le_refl _, rl_nil _ _, o2.out⟩
  case round =>
    clear o1 K1 o2 K2 k2
    obtain ⟨i, l, B, cp, hi, rfl, rfl, rfl, hli, RR, OR⟩ := hrel
    by_cases hlt : i < n
    · have KR := Lib.hid OR.out.kp
      have RP := hR.out.keep KR.out
      obtain ⟨b, off, hA, ca⟩ := RP.adr (by omega)
      subst hA
      have q1 := atO b off n c i hlt
      obtain ⟨x0, x1, x2⟩ := ca i hlt
      have ox := RP.is i hlt
      have hnx := hf.out.2 i hlt
      clear ca RP
      obtain ⟨x, hx⟩ : ∃ x, x = P i := ⟨_, rfl⟩
      rw [← hx] at x0 x1 x2 ox hnx
      replace hx := Lib.hid hx
      have cP := own_play C OR.out hg.out RR.out rfl x ox (by omega) (by omega) (by omega)
      unfold OpV.val at cP
      obtain ⟨N, hN⟩ : ∃ N, N = l.length := ⟨_, rfl⟩
      rw [← hN] at cP hli ⊢
      have hM := opL_len (l.map node) 2 5 x
      rw [List.length_map, ← hN] at hM
      obtain ⟨M, hMM⟩ : ∃ M, M = opL (l.map node) 2 5 x := ⟨_, rfl⟩
      rw [← hMM] at cP hM
      replace hMM := Lib.hid hMM
      replace hN := Lib.hid hN
      replace cP := Lib.hid cP
      replace ox := Lib.hid ox
      go_wp2_with fail
      refine cP.out.mono ?_
      rintro e w3 ⟨B3, c3, l3, tb, rfl, R3, E3, O3⟩
      clear x0 x1 x2 cP
      have hl3 : l3.length ≤ i + 1 := by
        have : (l3.map node).length ≤ N + 1 := by rw [E3]; exact hM
        rw [List.length_map] at this
        omega
      have okM := Lib.hid (own_ok C O3)
      have cI := own_ids C O3 (n := M.length) rfl (Z := fun j => (nrow M j).k) (fun _ _ => rfl)
      obtain ⟨m, hm⟩ : ∃ m, m = M.length := ⟨_, rfl⟩
      rw [← hm] at cI
      replace hm := Lib.hid hm
      replace cI := Lib.hid cI
      replace O3 := Lib.hid O3
      replace R3 := Lib.hid R3
      replace E3 := Lib.hid E3
      go_wp2_with fail
      refine cI.out.mono ?_
      rintro e w4 ⟨A4, d4, rfl, r4, k4⟩
      have O4 := Lib.hid (O3.out.keep C k4)
      have R4 := Lib.hid (R3.out.keep k4)
      have hms := r4.small
      replace r4 := Lib.hid r4
      replace k4 := Lib.hid k4
      clear cI
      go_wp2
      go_loopg [7] m (fun gx s7 wr2 => ∃ (k : Nat), k ≤ m ∧ gx = m - k ∧ s7 = .int .i64 k ∧ Hid (Keep w4 wr2))
      case atStart => exact ⟨0, Nat.zero_le _, rfl, rfl, Keep.refl _⟩
      case round =>
        obtain ⟨k, hk, rfl, rfl, KQ⟩ := hrel
        by_cases hlk : k < m
        · obtain ⟨b4, off4, e4, c4⟩ := (r4.out.keep KQ.out).adr (by omega)
          subst e4
          have z0 := c4 k hlk
          clear c4
          have hkM : k < M.length := by rw [← hm.out]; exact hlk
          have hin := Lib.hid (nrow_keys hkM)
          have okx := okM.out.2 _ (nrow_mem hkM)
          have hgx := nget_nrow okM.out.1 hkM
          obtain ⟨y, hy⟩ : ∃ y, y = nrow M k := ⟨_, rfl⟩
          replace z0 : wr.cell? ⟨b4, off4 + k, none⟩ = some (.int .i64 y.k) := by rw [hy]; exact z0
          rw [← hy] at okx hgx hin
          replace hy := Lib.hid hy
          have o5 := Lib.hid (O4.out.keep C KQ.out)
          have cG := own_get C o5.out y.k okx.k hin.out
          rw [hgx] at cG
          have cU : Hid (∀ W, Keep wr W → Calls Tryz.prog 11 #[.pointer (some ⟨q, 0, none⟩), .int .i64 y.k] W fun e w' => ∃ A c, e = .returned (.slice A 2 c) ∧ Rd w' A 2 y.U ∧ Keep W w') := fun W kk => own_used C (o5.out.keep C kk) y.k okx.k hin.out (fun j _ => by rw [hgx])
          obtain ⟨yk, hyk⟩ : ∃ yk, yk = y.k := ⟨_, rfl⟩
          rw [← hyk] at z0 cG cU
          replace hyk := Lib.hid hyk
          replace hgx := Lib.hid hgx
          replace cG := Lib.hid cG
          have l0 := okx.lo 0 (by omega)
          have l1 := okx.lo 1 (by omega)
          replace okx := Lib.hid okx
          go_wp2_with fail
          refine cG.out.mono ?_
          rintro e w5 ⟨A5, d5, rfl, r5, k5⟩
          obtain ⟨W5, hW5⟩ : ∃ W, W = w5.alloc (.cells #[.int .i64 yk, .slice A5 2 d5] 36) := ⟨_, rfl⟩
          have K5 : Hid (Keep w5 W5) := by rw [hW5]; exact Keep.one _ _
          have B5 : Hid (W5.heap[w5.heap.size]? = some (.cells #[.int .i64 yk, .slice A5 2 d5] 36 (0, 0))) := by rw [hW5]; exact heap_alloc_new _ _
          have z5 := k5.cell z0
          have hbl := cell_lt z5
          have c5 := Lib.hid (cU.out W5 (k5.trans K5.out))
          have k5' := Lib.hid k5
          replace r5 := Lib.hid r5
          clear z0 cG cU k5
          go_wp2_with fail
          rw [← hW5]
          replace hW5 := Lib.hid hW5
          refine c5.out.mono ?_
          rintro e w6 ⟨A6, d6, rfl, r6, k6⟩
          have n1 : w6.cell? ⟨w5.heap.size, 1, none⟩ = some (.slice A5 2 d5) := by rw [cell_of_row w6 _ _ _ _ _ (k6.block B5.out)]; rfl
          have cT := Lib.hid (rfits_is A6 A5 2 2 d6 d5 y.U y.C w6 r6 (r5.out.keep (K5.out.trans k6)) true (fits_yes rfl (fun j hj => okx.out.hi j hj)))
          have k6' := Lib.hid k6
          replace r6 := Lib.hid r6
          clear z5 hbl c5 k6
          go_wp2_with fail
          refine cT.out.mono ?_
          rintro e w7 ⟨rfl, k7⟩
          have k7' := Lib.hid k7.keep
          obtain ⟨b6, off6, e6, c6⟩ := (r6.out.keep k7'.out).adr (by omega)
          subst e6
          have u0 := c6 0 (by omega)
          have u1 := c6 1 (by omega)
          rw [Nat.add_zero] at u0
          obtain ⟨U0, hU0⟩ : ∃ U0, U0 = y.U 0 := ⟨_, rfl⟩
          obtain ⟨U1, hU1⟩ : ∃ U1, U1 = y.U 1 := ⟨_, rfl⟩
          rw [← hU0] at u0 l0
          rw [← hU1] at u1 l1
          replace hU0 := Lib.hid hU0
          replace hU1 := Lib.hid hU1
          clear c6 n1 cT k7
          have KF : Hid (Keep w4 w7) := ((KQ.out.trans k5'.out).trans K5.out).trans (k6'.out.trans k7'.out)
          go_wp2
          go_roundg (m - (k + 1))
          case measure => omega
          case rel => exact ⟨k + 1, hlk, rfl, by go_num, KF⟩
        · obtain rfl : k = m := by omega
          go_wp2
          go_roundg (n - (i + 1))
          case measure => omega
          case rel => exact ⟨i + 1, l3, B3, c3, hlt, rfl, by go_num, rfl, hl3, R4.out.keep KQ.out, by rw [E3.out]; exact O4.out.keep C KQ.out⟩
    · obtain rfl : i = n := by omega
      go_wp2
      go_ret
      exact ⟨rfl, OR.out.kp⟩
end Go.Proofs.YtokopegffeablaaGreatDoor.T12
