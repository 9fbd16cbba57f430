/-
  Push of a queue. Conditions: fewer than 1000 pods afterwards, each with at most 1000 amounts; the list lies apart from the queue.
-/
import Derived.Test.YtmmpmpdjcmilkaaQMeth7
import Derived.Deep.RegionWith
namespace Go.Proofs.Ytmmpmpdjcmilkaa
open Go.RowKit Go.Sort Go.Lib Go.Shelf

set_option maxHeartbeats 1000000 in
theorem qpush_nil (v : Value) (w : World) : Calls Try.prog 19 #[.pointer none, v] w fun e w' => e = .returned (.int .i64 0) ∧ w = w' := by
  go_enter Try.func19, Try.ntmps19
  go_wp2
  go_ret
  exact ⟨rfl, rfl⟩

theorem push_more {w w3 : World} {b0 b1 bq B : Nat} {A A3 : Option Addr} {c3 n : Nat} {Q Q3 : Nat → PodV} {L : List PodV} {x y : PodV} (h3 : ((lst Q n).map nm).Perm L) (h5 : ∀ x ∈ L, x.m ≤ 1000) (hx : x.k ∉ L.map (·.k)) (hm : x.m ≤ 1000) (hy : nm y = nm x) (H : QMem w3 b0 b1 bq B A3 c3 (n + 1) Q3) (hh : HeapQ Q3 (n + 1)) (p : (lst Q3 (n + 1)).Perm (y :: lst Q n)) (N : ∀ k, Foot bq B A3 k → Foot bq B A k ∨ w.heap.size ≤ k) :
    ∃ D', QInv w3 b0 b1 bq D' (addP L x) ∧ ∀ k, D' k → Foot bq B A k ∨ w.heap.size ≤ k := by
  refine ⟨_, ⟨B, A3, c3, n + 1, Q3, H, hh, ?_, rfl, fun z hz => ?_⟩, N⟩
  · refine (p.map nm).trans ?_
    rw [List.map_cons, hy]
    unfold addP
    rw [if_neg hx]
    exact (h3.cons _).trans (List.perm_append_singleton _ _).symm
  · rcases addP_mem hz with h | h
    · exact h5 z h
    · rw [h]; exact hm

set_option maxRecDepth 100000 in
set_option maxHeartbeats 16000000 in
theorem qpush_fn {w : World} {b0 b1 bq : Nat} {D : Nat → Prop} {L : List PodV} (h : QInv w b0 b1 bq D L) (A : Option Addr) (n c : Nat) (P : Nat → PodV) (hS : Src w D A n P) (hn : L.length + n ≤ 999) (hm : ∀ j, j < n → (P j).m ≤ 1000) :
    Calls Try.prog 19 #[.pointer (some ⟨bq, 0, none⟩), .slice A n c] w fun e w' => e = .returned (.int .i64 (((addN L P n).length : Int) - (L.length : Int))) ∧ ∃ D', QInv w' b0 b1 bq D' (addN L P n) ∧ Fr D w w' ∧ ∀ k, D' k → D k ∨ w.heap.size ≤ k := by
  have mixed : Try.prog.follows .mixedOrders = true := by kernel_rfl
  have H := Lib.hid h
  have cL := Lib.hid (qlen_fn h)
  have S := Lib.hid hS
  have hm := Lib.hid hm
  obtain ⟨Ll, hLl⟩ : ∃ l, l = L.length := ⟨_, rfl⟩
  rw [← hLl] at cL hn ⊢
  have hfin := addN_len L P n
  rw [← hLl] at hfin
  obtain ⟨M, hM⟩ : ∃ M, M = (addN L P n).length := ⟨_, rfl⟩
  rw [← hM] at hfin ⊢
  replace hLl := Lib.hid hLl
  replace hM := Lib.hid hM
  clear h hS
  go_enter Try.func19, Try.ntmps19
  go_wp2_with fail
  refine cL.out.mono ?_
  rintro e w1 ⟨rfl, rfl⟩
  clear cL
  go_wp2_with fail
  go_loopg [7, 14] n (fun gx _ s14 wr => ∃ (j : Nat) (E : Nat → Prop), s14 = .int .i64 j ∧ j ≤ n ∧ n - j ≤ gx ∧ Hid (QInv wr b0 b1 bq E (addN L P j)) ∧ Hid (Fr D w wr) ∧ Hid (∀ k, E k → D k ∨ w.heap.size ≤ k))
  case atStart => exact ⟨0, D, rfl, Nat.zero_le _, Nat.le_refl _, H, Fr.refl _ _, fun _ h => Or.inl h⟩
  case round =>
    clear H
    obtain ⟨j, E, rfl, hjn, hgx, HQ, FR, NE⟩ := hrel
    by_cases hlt : j < n
    · have S2 := S.out.fr FR.out NE.out
      have hS2 := Lib.hid S2
      obtain ⟨b, off, hA, ca⟩ := S2.rd.adr (by omega)
      subst hA
      have q1 := pods_at b off n c j hlt
      have X := ca j hlt
      have Xi := S2.rd.is j hlt
      have hxm := hm.out j hlt
      have hjz : (j : Int) < (n : Int) := by omega
      clear ca S2
      obtain ⟨x, hx⟩ : ∃ x, x = P j := ⟨_, rfl⟩
      rw [← hx] at X Xi hxm
      have hadd : Hid (addN L P (j + 1) = addP (addN L P j) x) := by rw [hx]; exact rfl
      replace hx := Lib.hid hx
      have x0 := X.e0; have x1 := X.e1; have x2 := X.e2; have x3 := X.e3; have x4 := X.e4; have x5 := X.e5; have x6 := X.e6; have x7 := X.e7; have x8 := X.e8
      clear X
      have K1 : Hid (Keep wr (wr.alloc (.cells #[.int .i64 x.k, .int .i64 x.p, .bool x.f, .int .i64 x.g, .slice x.A x.m x.c, .int .i64 x.a, .int .i64 x.h, .int .i64 x.d, .int .i64 x.t] 32))) := Keep.one _ _
      have C1 := Cel9.new wr x 32 _ rfl
      replace hxm := Lib.hid hxm
      replace Xi := Lib.hid Xi
      by_cases hin : x.k ∈ (addN L P j).map (·.k)
      · have cH := Lib.hid (qhas_fn (HQ.out.keep K1.out) x.k true (by simp only [true_iff]; exact hin))
        replace hin := Lib.hid hin
        clear C1
        go_wp2_with fail
        refine cH.out.mono ?_
        rintro e w2 ⟨rfl, rfl⟩
        have F2 : Hid (Fr D w (wr.alloc (.cells #[.int .i64 x.k, .int .i64 x.p, .bool x.f, .int .i64 x.g, .slice x.A x.m x.c, .int .i64 x.a, .int .i64 x.h, .int .i64 x.d, .int .i64 x.t] 32))) := FR.out.keep K1.out
        have H2 := HQ.out.keep K1.out
        have e2 : addN L P (j + 1) = addN L P j := by rw [hadd.out]; exact if_pos hin.out
        rw [← e2] at H2
        replace H2 := Lib.hid H2
        replace e2 := Lib.hid e2
        clear cH x0 x1 x2 x3 x4 x5 x6 x7 x8 q1
        go_wp2
        go_roundg (n - (j + 1))
        case measure => omega
        case rel => exact ⟨j + 1, E, by first | rfl | go_num, hlt, by first | exact Nat.le_refl _ | omega, H2, F2, NE⟩
      · have cH := Lib.hid (qhas_fn (HQ.out.keep K1.out) x.k false (by simp only [Bool.false_eq_true, false_iff]; exact hin))
        have hin := Lib.hid hin
        go_wp2_with fail
        refine cH.out.mono ?_
        rintro e w2 ⟨rfl, rfl⟩
        have F1 : Hid (Fr D w (wr.alloc (.cells #[.int .i64 x.k, .int .i64 x.p, .bool x.f, .int .i64 x.g, .slice x.A x.m x.c, .int .i64 x.a, .int .i64 x.h, .int .i64 x.d, .int .i64 x.t] 32))) := FR.out.keep K1.out
        have H1 := Lib.hid (HQ.out.keep K1.out)
        have I1 := Lib.hid (Xi.out.keep K1.out)
        clear cH x0 x1 x2 x3 x4 x5 x6 x7 x8 q1 K1
        have szl : Hid (w.heap.size ≤ wr.heap.size) := FR.out.size
        have szw : Hid (wr.heap.size ≤ (wr.alloc (.cells #[.int .i64 x.k, .int .i64 x.p, .bool x.f, .int .i64 x.g, .slice x.A x.m x.c, .int .i64 x.a, .int .i64 x.h, .int .i64 x.d, .int .i64 x.t] 32)).heap.size) := by show _ ≤ _; rw [World.size_alloc]; omega
        generalize wr.alloc (.cells #[.int .i64 x.k, .int .i64 x.p, .bool x.f, .int .i64 x.g, .slice x.A x.m x.c, .int .i64 x.a, .int .i64 x.h, .int .i64 x.d, .int .i64 x.t] 32) = W1 at *
        have y0 := C1.e0; have y1 := C1.e1; have y2 := C1.e2; have y3 := C1.e3; have y4 := C1.e4; have y5 := C1.e5; have y6 := C1.e6; have y7 := C1.e7; have y8 := C1.e8
        simp only [Nat.zero_add] at y1 y2 y3 y4 y5 y6 y7 y8
        clear C1
        have hlen : Hid ((addN L P j).length ≤ Ll + j) := by rw [hLl.out]; exact (addN_len L P j).2
        obtain ⟨B, Aq, cq, nq, Q, h1, h2, h3, rfl, h5⟩ := H1.out
        have hnq : nq < 1000 := by
          have e : (addN L P j).length = nq := by rw [← h3.length_eq, List.length_map, lst_len]
          have := hlen.out
          omega
        have hnew : ∀ t, t < nq → (Q t).k ≠ x.k := fun t ht e => hin.out (by
          rw [← (h3.map (·.k)).mem_iff, List.map_map]
          exact List.mem_map.2 ⟨Q t, lst_mem.2 ⟨t, ht, rfl⟩, e⟩)
        have cC : Hid (∀ W, Keep W1 W → Calls Try.prog 31 #[.agg #[.int .i64 x.k, .int .i64 x.p, .bool x.f, .int .i64 x.g, .slice x.A x.m x.c, .int .i64 x.a, .int .i64 x.h, .int .i64 x.d, .int .i64 x.t]] W fun e w' => ∃ A c, e = .returned (.agg #[.int .i64 x.k, .int .i64 x.p, .bool x.f, .int .i64 x.g, .slice A x.m c, .int .i64 x.a, .int .i64 x.h, .int .i64 x.d, .int .i64 x.t]) ∧ Keep W w' ∧ PodIs w' (x.at A c) ∧ w'.ownsRow W.heap.size 2 1 (.slice A x.m c) x.m (rowL x.m x.Z)) := fun W k => qclone_fn x W (I1.out.keep k) (by have := hxm.out; omega)
        have cP : Hid (∀ W, Keep W1 W → ∀ A' c', Req W b1 (x.at A' c') → PodOk (x.at A' c') → Calls Try.prog 30 #[.iface 59 (.pointer (some ⟨bq, 0, none⟩)), .iface 32 (.agg #[.int .i64 x.k, .int .i64 x.p, .bool x.f, .int .i64 x.g, .slice A' x.m c', .int .i64 x.a, .int .i64 x.h, .int .i64 x.d, .int .i64 x.t])] W fun e w' => e = .returned (.tuple #[]) ∧ (∃ D', QInv w' b0 b1 bq D' (addP (addN L P j) x) ∧ ∀ k, D' k → Foot bq B Aq k ∨ W.heap.size ≤ k) ∧ Fr (Foot bq B Aq) W w') := fun W k A' c' hr hok => (heappush_fn (h1.keep k) h2 hnq (x.at A' c') hnew hr hok).mono fun e w' ⟨he, A3, c3, Q3, H3, HQ3, P3, F3, N3⟩ => ⟨he, push_more h3 h5 hin.out hxm.out (show nm (x.at A' c') = nm x from rfl) H3 HQ3 P3 N3, F3⟩
        have hb1 : b1 ≤ W1.heap.size := h1.lo.2.2.2
        replace h1 := Lib.hid h1
        replace h2 := Lib.hid h2
        replace h3 := Lib.hid h3
        replace h5 := Lib.hid h5
        replace hnew := Lib.hid hnew
        go_wp2_with fail
        go_region_with (first
          | (go_at_call 31
             refine (cC.out _ (by repeat (first | exact Keep.refl _ | apply Keep.drew))).mono ?_
             rintro e w3 ⟨A', c', rfl, k3, is3, ow3⟩
             have K3 : Hid (Keep W1 w3) := Keep.trans (by repeat (first | exact Keep.refl _ | apply Keep.drew)) k3
             have rq3 : Hid (Req w3 b1 (x.at A' c')) := own_base ow3 (by first | exact hb1 | (simp; exact hb1))
             have ok3 : Hid (PodOk (x.at A' c')) := is3.ok
             replace k3 := Lib.hid k3
             replace is3 := Lib.hid is3
             replace ow3 := Lib.hid ow3)
          | (go_at_call 30
             refine (cP.out _ (by first | exact K3.out | exact K3.out.drew) A' c' (by first | exact rq3.out | exact own_keep rq3.out (Keep.drew (Keep.refl _))) ok3.out).mono ?_
             rintro e w4 ⟨rfl, ⟨E4, H4, N4⟩, F4⟩
             have F5 : Hid (Fr (Foot bq B Aq) W1 w4) := Fr.after (by first | exact K3.out | exact K3.out.drew) F4
             replace H4 := Lib.hid H4
             replace N4 := Lib.hid N4
             replace F4 := Lib.hid F4))
        all_goals
          clear y0 y1 y2 y3 y4 y5 y6 y7 y8 cC cP
          have F6 : Hid (Fr D w w4) := F1.out.trans F5.out NE.out
          have N6 : Hid (∀ k, E4 k → D k ∨ w.heap.size ≤ k) := fun k hk => by
            rcases N4.out k hk with h | h
            · exact NE.out k h
            · right
              have := szl.out
              have := szw.out
              have hk3 := K3.out.size
              have h : w3.heap.size ≤ k := h
              omega
          rw [← hadd.out] at H4
          go_wp2
          go_roundg (n - (j + 1))
          case measure => omega
          case rel => exact ⟨j + 1, E4, by first | rfl | go_num, hlt, by first | exact Nat.le_refl _ | omega, H4, F6, N6⟩
    · obtain rfl : j = n := by omega
      have cL := Lib.hid (qlen_fn HQ.out)
      rw [← hM.out] at cL
      go_wp2_with fail
      refine cL.out.mono ?_
      rintro e w2 ⟨rfl, rfl⟩
      go_wp2
      go_ret
      exact ⟨rfl, E, HQ.out, FR.out, NE.out⟩
end Go.Proofs.Ytmmpmpdjcmilkaa
