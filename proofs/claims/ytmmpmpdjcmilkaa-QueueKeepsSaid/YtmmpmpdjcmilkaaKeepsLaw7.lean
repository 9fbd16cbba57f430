/-
  The walk of QueueKeeps. No condition but that a slice without an array has no room.
-/
import Derived.Test.YtmmpmpdjcmilkaaKeep7
namespace Go.Proofs.Ytmmpmpdjcmilkaa
open Go.RowKit Go.Sort Go.Lib Go.Shelf

set_option maxRecDepth 100000 in
set_option maxHeartbeats 8000000 in
theorem keeps_walk (A : Option Addr) (n c : Nat) (P : Nat → PodV) (w : World) (hR : RdPods w A n P) (h0 : A = none → n = 0 ∧ c = 0) : Calls Try.prog 5 #[.slice A n c] w fun e w' => e = .returned (.bool true) ∧ Keep w w' := by
  have mixed : Try.prog.follows .mixedOrders = true := by kernel_rfl
  have aw := Lib.hid awake_true
  replace hR := Lib.hid hR
  replace h0 := Lib.hid h0
  go_enter Try.func5, Try.ntmps5
  go_wp2_with fail
  refine (qnew_fn _).mono ?_
  rintro e w1 ⟨bq, rfl, k1, hQ⟩
  have hQ := Lib.hid hQ
  replace k1 := Lib.hid k1
  go_wp2_with fail
  refine (qnew_fn _).mono ?_
  rintro e w2 ⟨br, rfl, k12, hQr⟩
  have hQr := Lib.hid hQr
  have k12 := Lib.hid k12
  go_wp2_with fail
  refine (aw.out _).mono ?_
  rintro e w3 ⟨rfl, k23⟩
  have k23 := Lib.hid k23
  have K3 : Hid (Keep w w3) := (k1.out.trans k12.out).trans k23.out
  have R3 := Lib.hid (hR.out.keep K3.out)
  have hfew : ∀ b : Bool, (b = true ↔ FewP P n) → Calls Try.prog 17 #[.slice A n c] w3 fun e w' => e = .returned (.bool b) ∧ w3 = w' := fun b hb => rfew_fn A n c P w3 R3.out b hb
  replace hfew := Lib.hid hfew
  by_cases hf : FewP P n
  rotate_left
  · have hfew2 := Lib.hid (hfew.out false (by simp only [Bool.false_eq_true, false_iff]; exact hf))
    clear hfew
    replace hf := Lib.hid hf
    go_wp2_with fail
    refine hfew2.out.mono ?_
    rintro e w4 ⟨rfl, rfl⟩
    clear hfew2
    go_wp2_with fail
    refine (aw.out _).mono ?_
    rintro e w4 ⟨rfl, k4⟩
    go_wp2
    go_ret
    exact ⟨rfl, K3.out.trans k4⟩
  have hfew2 := Lib.hid (hfew.out true ⟨fun _ => hf, fun _ => rfl⟩)
  clear hfew
  have hn := hf.1
  have hf := Lib.hid hf
  go_wp2_with fail
  refine hfew2.out.mono ?_
  rintro e w4 ⟨rfl, rfl⟩
  clear hfew2
  have s3 : Hid (SrcP (w3.alloc (.cells #[] 32)) (.slice A n c) n (podCs P n)) := src_rd (R3.out.keep (Keep.one _ _)) h0.out
  go_wp2_with (at_builtin; refine wpl_own rfl _ _ rfl w3.heap.size (.slice (some ⟨w3.heap.size, 0, none⟩) 0 0) 0 [] (by simp [Act.eval]) (own_empty (Nat.le_refl _) (heap_alloc_new _ _)) (.slice A n c) n (podCs P n) (by simp [Act.eval]) s3.out (podCs_one P n) (by omega) (by simp) n (by omega) ?_; intro v4 w4 hr4 hg4)
  have K4 : Hid (Keep w3 w4) := keep_grown (Keep.one _ _) hg4 (fun q hq => by
    have e : w3.heap.size = q := Option.some.inj hq
    omega)
  rw [List.nil_append] at hr4
  replace hg4 := Lib.hid hg4
  obtain ⟨B, d, hB, _⟩ := own_form hr4
  subst hB
  replace hr4 := Lib.hid hr4
  clear s3
  go_wp2
  go_loopg [6] n (fun gx s6 wr => ∃ (i : Nat) (O : Nat → PodV), i ≤ n ∧ gx = n - i ∧ s6 = .int .i64 i ∧ Hid (Keep w3 wr) ∧ Hid (wr.ownsRow w3.heap.size 32 9 (.slice B n d) n (podCs O n)) ∧ Hid (∀ j, j < i → Req wr w3.heap.size (O j) ∧ PodOk (O j) ∧ nm (O j) = nm (P j)) ∧ Hid (∀ j, i ≤ j → O j = P j))
  case atStart => exact ⟨0, P, Nat.zero_le _, rfl, rfl, K4, hr4, fun _ h => absurd h (Nat.not_lt_zero _), fun _ _ => rfl⟩
  case round =>
    clear hr4 hg4 K4
    obtain ⟨i, O, hi, rfl, rfl, KR, RW, DN, TD⟩ := hrel
    by_cases hlt : i < n
    · obtain ⟨g, cap, eB, _, _⟩ := RW.out.form (by omega)
      simp only [Value.slice.injEq] at eB
      obtain ⟨rfl, _, rfl⟩ := eB
      have q1 := pods_at g 0 n d i hlt
      rw [Nat.zero_add] at q1
      have X := row_cel RW.out hlt
      rw [Nat.zero_add] at X
      have eO : O i = P i := TD.out i (Nat.le_refl _)
      have Xi : PodIs wr (P i) := (R3.out.is i hlt).keep KR.out
      have hxm := (hf.out.2 i hlt).2.2
      have glt : g < wr.heap.size := (RW.out.lt g rfl).2
      rw [eO] at X
      obtain ⟨x, hx⟩ : ∃ x, x = P i := ⟨_, rfl⟩
      rw [← hx] at X Xi hxm eO
      have x4 := X.e4
      have ksz : w3.heap.size ≤ wr.heap.size := KR.out.size
      have hmb : x.m ≤ 1048576 := by omega
      replace eO := Lib.hid eO
      replace hx := Lib.hid hx
      replace Xi := Lib.hid Xi
      clear X
      have t2 : (wr.alloc (Obj.cells #[] 2)).ownsRow w3.heap.size 2 1 (Value.slice (some ⟨wr.heap.size, 0, none⟩) 0 0) 0 [] := ⟨rfl, .inr ⟨wr.heap.size, 0, #[], rfl, ksz, heap_alloc_new _ _, Nat.le_refl _, Nat.zero_le _, rfl, rfl⟩⟩
      have t4 : Rd (wr.alloc (Obj.cells #[] 2)) x.A x.m x.Z := Xi.out.rd.keep (Keep.one _ _)
      have t5 : x.A = none → x.m = 0 ∧ x.c = 0 := Xi.out.nil
      have t6 : 0 + x.m ≤ 1048576 := by omega
      have t7 : w3.heap.size ≤ (wr.alloc (Obj.cells #[] 2)).heap.size := by rw [World.size_alloc]; omega
      replace t2 := Lib.hid t2
      replace t4 := Lib.hid t4
      replace t5 := Lib.hid t5
      replace t6 := Lib.hid t6
      replace t7 := Lib.hid t7
      go_wp2_with (
        at_builtin
        refine wpl_ownI rfl _ _ rfl w3.heap.size (.slice (some ⟨wr.heap.size, 0, none⟩) 0 0) 0 [] rfl t2.out x.A x.m x.c x.Z rfl t4.out t5.out t6.out t7.out ?_
        intro v5 w5 hr5 hg5
        rw [List.nil_append, Nat.zero_add] at hr5
        obtain ⟨A5, c5, hv5, hnil5⟩ := own_form hr5
        subst hv5
        have K5 : Keep wr w5 := keep_grown (Keep.one _ _) hg5 (fun q hq => by
          have e : wr.heap.size = q := Option.some.inj hq
          omega)
        have RW5 := own_keep RW.out K5
        have y4 : w5.cell? ⟨g, i * 9 + 4, none⟩ = some (.slice x.A x.m x.c) := K5.cell x4
        have f4 : w5.frozen? ⟨g, i * 9 + 4, none⟩ = false := RW5.frozenAt _
        have st := RW5.stored (i * 9 + 4) (.slice A5 x.m c5)
        have RW6 : Hid ((w5.setCell ⟨g, i * 9 + 4, none⟩ (.slice A5 x.m c5)).ownsRow w3.heap.size 32 9 (.slice (some ⟨g, 0, none⟩) n d) n (podCs (put O i (x.at A5 c5)) n)) := by
          have h1 := st.1
          have h2 := podCs_set1 O n i A5 c5
          rw [eO.out] at h2
          rw [h2] at h1
          exact h1
        have K6 : Hid (Keep w3 (w5.setCell ⟨g, i * 9 + 4, none⟩ (.slice A5 x.m c5))) := (KR.out.trans K5).set (RW.out.lt g rfl).1 _
        have okx : PodOk (x.at A5 c5) := ⟨Xi.out.rd.small, Xi.out.rd.range, hnil5, Xi.out.rng⟩
        have req6 : ∀ z, Req w5 w3.heap.size z → Req (w5.setCell ⟨g, i * 9 + 4, none⟩ (.slice A5 x.m c5)) w3.heap.size z := fun z hz => World.ownsRow.kept hz st.2 (rows_apart hz RW5 (by decide))
        have DN6 : Hid (∀ j, j < i + 1 → Req (w5.setCell ⟨g, i * 9 + 4, none⟩ (.slice A5 x.m c5)) w3.heap.size (put O i (x.at A5 c5) j) ∧ PodOk (put O i (x.at A5 c5) j) ∧ nm (put O i (x.at A5 c5) j) = nm (P j)) := fun j hj => by
          by_cases e : j = i
          · rw [e, put_at, ← hx.out]
            exact ⟨req6 _ hr5, okx, rfl⟩
          · rw [put_ne _ _ _ e]
            obtain ⟨h1, h2, h3⟩ := DN.out j (by omega)
            exact ⟨req6 _ (own_keep h1 K5), h2, h3⟩
        have TD6 : Hid (∀ j, i + 1 ≤ j → put O i (x.at A5 c5) j = P j) := fun j hj => by rw [put_ne _ _ _ (by omega)]; exact TD.out j (by omega)
        have glt5 : g < w5.heap.size := Nat.lt_of_lt_of_le glt K5.size
        replace hr5 := Lib.hid hr5
        replace hg5 := Lib.hid hg5
        replace hnil5 := Lib.hid hnil5
        replace K5 := Lib.hid K5
        replace RW5 := Lib.hid RW5
        replace st := Lib.hid st
        replace okx := Lib.hid okx
        replace req6 := Lib.hid req6)
      go_roundg (n - (i + 1))
      case measure => omega
      case rel => exact ⟨i + 1, put O i (x.at A5 c5), hlt, rfl, by go_num, K6, RW6, DN6, TD6⟩
    · obtain rfl : i = n := by omega
      have RP : RowP wr w3.heap.size (.slice B i d) i O := ⟨RW.out, fun j hj => (DN.out j hj).1, fun j hj => (DN.out j hj).2.1⟩
      have ow : RdPods wr B i O := rows_rd RW.out (by omega) (fun j hj => (DN.out j hj).1.is (DN.out j hj).2.1)
      have hmO : ∀ j, j < i → (O j).m ≤ 1000 := fun j hj => by
        have h1 := congrArg PodV.m (DN.out j hj).2.2
        have h2 := (hf.out.2 j hj).2.2
        have h3 : (O j).m = (P j).m := h1
        omega
      have K5 : Hid (Keep w wr) := K3.out.trans KR.out
      have ksz : Hid (w3.heap.size ≤ wr.heap.size) := KR.out.size
      obtain ⟨D, Q5, hD⟩ := hQ.out wr.heap.size wr K5.out.size ((k12.out.trans k23.out).trans KR.out) (Nat.le_refl _)
      obtain ⟨Dr, Qr5, hDr⟩ := hQr.out wr.heap.size wr ((k12.out.trans k23.out).trans KR.out).size (k23.out.trans KR.out) (Nat.le_refl _)
      have z12 : w1.heap.size ≤ w2.heap.size := k12.out.size
      have z23 : w2.heap.size ≤ w3.heap.size := k23.out.size
      have z01 : w.heap.size ≤ w1.heap.size := k1.out.size
      have SO : Src wr D B i O := ⟨ow, fun b off e h hd => by
        have h1 := hD b hd
        have h2 := (RW.out.lt b (by rw [e]; rfl)).1
        omega, fun j hj a ha hm hd => by
        have h1 := hD _ hd
        have h2 := ((DN.out j hj).1.lt a.block (by rw [ha]; rfl)).1
        omega⟩
      have cP := qpush_fn Q5 B i d O SO (by simp; omega) hmO
      have eL : addN [] O i = addN [] P i := addN_same fun t ht => (DN.out t ht).2.2
      rw [eL] at cP
      obtain ⟨L, hL⟩ : ∃ L, L = addN [] P i := ⟨_, rfl⟩
      rw [← hL] at cP
      have hLl := addN_len [] P i
      rw [← hL] at hLl
      have loD : Hid (∀ k, D k → w.heap.size ≤ k ∧ k < w1.heap.size) := fun k hk => ⟨(Q5.lo k hk).1, hD k hk⟩
      have loDr : Hid (∀ k, Dr k → w1.heap.size ≤ k ∧ k < w2.heap.size) := fun k hk => ⟨(Qr5.lo k hk).1, hDr k hk⟩
      replace hL := Lib.hid hL
      replace hLl := Lib.hid hLl
      replace cP := Lib.hid cP
      replace RP := Lib.hid RP
      replace ow := Lib.hid ow
      replace hmO := Lib.hid hmO
      replace SO := Lib.hid SO
      replace Q5 := Lib.hid Q5
      replace Qr5 := Lib.hid Qr5
      replace hD := Lib.hid hD
      replace hDr := Lib.hid hDr
      replace eL := Lib.hid eL
      replace z12 := Lib.hid z12
      replace z23 := Lib.hid z23
      replace z01 := Lib.hid z01
      go_wp2_with fail
      refine cP.out.mono ?_
      rintro e w6 ⟨rfl, D6, Q6, F6, N6⟩
      have RP6 := RP.out.fr F6 (fun k h1 _ hd => by have := (loD.out k hd).2; have := z12.out; have := z23.out; omega)
      have Qr6 := Qr5.out.frame F6 (fun k hk hd => by have := (loD.out k hd).2; have := (loDr.out k hk).1; omega) (fun k hk hd => by have := (loD.out k hd).2; have := z12.out; have := z23.out; have := ksz.out; omega)
      have K6 : Hid (Keep w w6) := F6.low K5.out fun k hk => (loD.out k hk).1
      have cSp := spoil_fn (fun k => w3.heap.size ≤ k ∧ k < wr.heap.size) B i d O w6 (by omega) hmO.out (fun hp => by
        obtain ⟨g, cap, eB, _, _⟩ := RP6.row.form hp
        simp only [Value.slice.injEq, true_and] at eB
        obtain ⟨rfl, _⟩ := eB
        refine ⟨g, 0, rfl, ?_⟩
        have s := spi_row (E := fun k => w3.heap.size ≤ k ∧ k < wr.heap.size) RP.out (fun k h1 h2 => ⟨h1, h2⟩)
        exact ⟨fun j hj => ⟨_, (row_cel RP6.row hj).e0⟩, fun j hj => (row_cel RP6.row hj).e4, fun j _ => RP6.row.frozenAt _, s.d, fun j hj hm => by
          obtain ⟨b', off', e, hd', hne, hc⟩ := s.el j hj hm
          have s6 := spi_row (E := fun _ => True) RP6 (fun _ _ _ => trivial)
          obtain ⟨b2, off2, e2, _, _, hc2⟩ := s6.el j hj hm
          rw [e] at e2
          simp only [Option.some.injEq, Addr.mk.injEq, and_true] at e2
          obtain ⟨rfl, rfl⟩ := e2
          exact ⟨b', off', e, hd', hne, hc2⟩⟩)
      have N6' : Hid (∀ k, D6 k → ¬ (w3.heap.size ≤ k ∧ k < wr.heap.size)) := fun k hk hd => by
        rcases N6 k hk with h | h
        · have := (loD.out k h).2; have := z12.out; have := z23.out; omega
        · omega
      replace cSp := Lib.hid cSp
      replace Q6 := Lib.hid Q6
      replace F6 := Lib.hid F6
      replace N6 := Lib.hid N6
      replace RP6 := Lib.hid RP6
      replace Qr6 := Lib.hid Qr6
      clear cP
      go_wp2_with fail
      refine cSp.out.mono ?_
      rintro e w7 ⟨rfl, F7⟩
      have Q7 := Q6.out.frame F7 N6'.out (fun k hk hd => by omega)
      have Qr7 := Lib.hid (Qr6.out.frame F7 (fun k hk hd => by have := (loDr.out k hk).2; have := z23.out; omega) (fun k hk hd => by omega))
      have K7 : Hid (Keep w w7) := F7.low K6.out fun k hk => by have := z01.out; have := z12.out; have := z23.out; omega
      have cA := qall_fn Q7
      have hl100 : L.length ≤ 1000 := by have := hLl.out.2; simp at this; omega
      obtain ⟨m, hm⟩ : ∃ m, m = L.length := ⟨_, rfl⟩
      rw [← hm] at cA hl100
      have hmL := Lib.hid (fun x hx => Q7.small (x := x) hx)
      replace hm := Lib.hid hm
      replace cA := Lib.hid cA
      have Q7 := Lib.hid Q7
      replace F7 := Lib.hid F7
      clear cSp
      go_wp2_with fail
      refine cA.out.mono ?_
      rintro e w8 ⟨v8, S, rfl, AL⟩
      obtain ⟨g8, rfl, _⟩ := AL.at_
      have si := spi_all AL
      have k78 := AL.keep
      have hmS : ∀ j, j < m → (S j).m ≤ 1000 := fun j hj => hmL.out (S j) (AL.perm.mem_iff.1 (List.mem_map_of_mem (lst_mem.2 ⟨j, hj, rfl⟩)))
      have cSp := Lib.hid (spoil_fn (fun k => w7.heap.size ≤ k) (some ⟨g8, 0, none⟩) m m S w8 hl100 hmS (fun _ => ⟨g8, 0, rfl, si⟩))
      replace AL := Lib.hid AL
      replace si := Lib.hid si
      replace hmS := Lib.hid hmS
      replace k78 := Lib.hid k78
      clear cA
      go_wp2_with fail
      refine cSp.out.mono ?_
      rintro e w9 ⟨rfl, F9⟩
      have k79 : Hid (Keep w7 w9) := F9.low k78.out fun k hk => hk
      have Q9 := Lib.hid (Q7.out.keep k79.out)
      have Qr9 := Lib.hid (Qr7.out.keep k79.out)
      have K9 : Hid (Keep w w9) := K7.out.trans k79.out
      replace F9 := Lib.hid F9
      clear cSp
      have cK : Hid (Calls Try.prog 23 #[.pointer (some ⟨bq, 0, none⟩)] w9 fun e w' => ∃ (x : PodV) (b : Bool), e = .returned (.tuple #[.agg #[.int .i64 x.k, .int .i64 x.p, .bool x.f, .int .i64 x.g, .slice x.A x.m x.c, .int .i64 x.a, .int .i64 x.h, .int .i64 x.d, .int .i64 x.t], .bool b]) ∧ Keep w9 w' ∧ Req w' w9.heap.size x ∧ PodOk x ∧ x.m ≤ 1000) := by
        by_cases hL0 : L = []
        · have q := Q9.out
          rw [hL0] at q
          refine (qpeek_none q).mono ?_
          rintro e w' ⟨rfl, k⟩
          exact ⟨zpod, false, rfl, k, zpod_req _ _, zpod_ok, by show (0 : Nat) ≤ 1000; omega⟩
        · refine (qpeek_fn Q9.out hL0).mono ?_
          rintro e w' ⟨x, rfl, xi, _, k, rq, ok⟩
          exact ⟨x, true, rfl, k, rq, ok, hmL.out x xi⟩
      go_wp2_with fail
      refine cK.out.mono ?_
      rintro e wa ⟨x, pb, rfl, ka, rqa, oka, hxm⟩
      have zka : w9.heap.size ≤ wa.heap.size := ka.size
      have rq1 : Req (wa.alloc (.cells #[.int .i64 x.k, .int .i64 x.p, .bool x.f, .int .i64 x.g, .slice x.A x.m x.c, .int .i64 x.a, .int .i64 x.h, .int .i64 x.d, .int .i64 x.t] 32)) w9.heap.size x := own_keep rqa (Keep.one _ _)
      have sp := spi_one rq1 (fun k => w9.heap.size ≤ k) (fun k hk => hk) (by rw [World.size_alloc]; omega)
      have kz : Keep w9 ((wa.alloc (.cells #[.int .i64 x.k, .int .i64 x.p, .bool x.f, .int .i64 x.g, .slice x.A x.m x.c, .int .i64 x.a, .int .i64 x.h, .int .i64 x.d, .int .i64 x.t] 32)).alloc (.cells #[.int .i64 x.k, .int .i64 x.p, .bool x.f, .int .i64 x.g, .slice x.A x.m x.c, .int .i64 x.a, .int .i64 x.h, .int .i64 x.d, .int .i64 x.t] 32)) := ka.trans ((Keep.one _ _).alloc _)
      have sz : (wa.alloc (.cells #[.int .i64 x.k, .int .i64 x.p, .bool x.f, .int .i64 x.g, .slice x.A x.m x.c, .int .i64 x.a, .int .i64 x.h, .int .i64 x.d, .int .i64 x.t] 32)).heap.size = wa.heap.size + 1 := World.size_alloc _ _
      rw [sz] at sp
      have cSp := Lib.hid (spoil_fn (fun k => w9.heap.size ≤ k) (some ⟨wa.heap.size + 1, 0, none⟩) 1 1 (fun t => [x].getD t x) _ (by omega) (fun j hj => by
        obtain rfl : j = 0 := by omega
        exact hxm) (fun _ => ⟨wa.heap.size + 1, 0, rfl, sp⟩))
      replace kz := Lib.hid kz
      replace sp := Lib.hid sp
      replace rq1 := Lib.hid rq1
      replace sz := Lib.hid sz
      replace ka := Lib.hid ka
      replace rqa := Lib.hid rqa
      replace oka := Lib.hid oka
      replace zka := Lib.hid zka
      clear cK
      go_wp2_with fail
      refine cSp.out.mono ?_
      rintro e wb ⟨rfl, Fb⟩
      have k9b : Keep w9 wb := Fb.low kz.out fun k hk => hk
      have Qb := Lib.hid (Q9.out.keep k9b)
      have Qrb := Lib.hid (Qr9.out.keep k9b)
      have Kb : Hid (Keep w wb) := K9.out.trans k9b
      have cA := qall_fn Qb.out
      rw [← hm.out] at cA
      have cA := Lib.hid cA
      replace k9b := Lib.hid k9b
      replace Fb := Lib.hid Fb
      clear cSp
      go_wp2_with fail
      refine cA.out.mono ?_
      rintro e wc ⟨vc, T, rfl, ALc⟩
      obtain ⟨kc, ⟨gc, rfl, _, _, _, RT, _⟩, pT, sT⟩ := ALc
      have Kc : Hid (Keep w wc) := Kb.out.trans kc
      have cR := rpush_fn none 0 0 (fun _ => zpod) A i c P wc (RdPods.nil _ _ _) (fun _ => ⟨rfl, rfl⟩) (hR.out.keep Kc.out) (by omega) (fun j h => absurd h (Nat.not_lt_zero _)) (fun j hj => ⟨(hf.out.2 j hj).1, (hf.out.2 j hj).2.1⟩)
      have eL0 : (lst (fun _ => zpod) 0).map nm = [] := rfl
      rw [eL0, ← hL.out, ← hm.out] at cR
      have cR := Lib.hid cR
      replace RT := Lib.hid RT
      replace pT := Lib.hid pT
      replace sT := Lib.hid sT
      replace kc := Lib.hid kc
      replace eL0 := Lib.hid eL0
      clear cA
      go_wp2_with fail
      refine cR.out.mono ?_
      rintro e wd ⟨Bd, dd, Sd, rfl, RLd, _, _⟩
      have same := both_same pT.out sT.out RLd.perm RLd.sort Qb.out.keys
      have cSm := Lib.hid (rsame6_fn (some ⟨gc, 0, none⟩) Bd m m dd T Sd wd (RT.out.keep RLd.keep) RLd.rd same.2)
      have Qrd := Lib.hid (Qrb.out.keep (kc.out.trans RLd.keep))
      have Kd : Hid (Keep w wd) := Kc.out.trans RLd.keep
      replace RLd := Lib.hid RLd
      replace same := Lib.hid same
      clear cR
      go_wp2_with fail
      refine cSm.out.mono ?_
      rintro e we ⟨rfl, ke⟩
      have cL := Lib.hid (qlen_fn (Qrd.out.keep ke))
      have Ke : Hid (Keep w we) := Kd.out.trans ke
      replace ke := Lib.hid ke
      clear cSm
      go_wp2_with fail
      refine cL.out.mono ?_
      rintro e wf ⟨rfl, rfl⟩
      go_wp2
      go_ret
      exact ⟨rfl, Ke.out⟩
end Go.Proofs.Ytmmpmpdjcmilkaa
