/-
  The walk of PodKeeps. Condition: errors.errorType holds its own.
-/
import Derived.Test.YtfidlljhmebpmaaDoorKeepsMath13
namespace Go.Proofs.YtfidlljhmebpmaaDoor.T13
open Go.RowKit Go.Sort Go.Lib V12

theorem hp2 (w : World) (o : Obj) (cs : Array Value) (T : TypeId) : ((w.alloc o).alloc (.cells cs T)).heap[w.heap.size + 1]? = some (.cells cs T (0, 0)) := by
  have := heap_alloc_new (w.alloc o) (.cells cs T)
  rwa [World.size_alloc] at this
theorem hp1 (w : World) (o : Obj) (cs : Array Value) (T : TypeId) : ((w.alloc (.cells cs T)).alloc o).heap[w.heap.size]? = some (.cells cs T (0, 0)) := (Keep.one _ _).block (heap_alloc_new w _)
theorem row_ne {w : World} {b n z k : Nat} {e1 e2 : TypeId} {v : Value} {xs : List Value} {cs : Array Value} {fl : Nat × Nat} (h : w.ownsRow b e1 z v n xs) (hb : w.heap[k]? = some (.cells cs e2 fl)) (he : e1 ≠ e2) : ∀ g, v.ownBlock = some g → g ≠ k := by
  intro g hg e
  subst e
  rcases h.2 with ⟨rfl, _⟩ | ⟨g1, c1, u1, rfl, _, k1, _⟩
  · simp [Value.ownBlock] at hg
  · simp [Value.ownBlock] at hg
    subst hg
    rw [hb] at k1
    simp at k1
    exact he k1.2.1.symm
section
variable {ops : Array Oper} {rest : List Oper} {o : Oper} {a : Act} {w : World} {Q : Exit → Act → World → Prop}
theorem wpl_amounts (hgd : o.guard = none) (s x : Operand) (ho : o.op = .call { callee := .builtin .append, args := #[s, x], argTypes := #[30, 30] })
    (base : Nat) (v : Value) (hs : a.eval s = v) (hown : w.ownsRow base 2 1 v 0 []) (A : Option Addr) (m c : Nat) (Z : Nat → Int) (hx : a.eval x = .slice A m c) (hr : Rd w A m Z) (h0 : A = none → m = 0 ∧ c = 0)
    (hlim : m ≤ 1048576) (hbase : base ≤ w.heap.size)
    (h : ∀ v' w', w'.ownsRow base 2 1 v' m (rowL m Z) → w.grownBy w' v.ownBlock → wpList Tryd.prog ops Q rest (a.put o.dst v') w') : wpList Tryd.prog ops Q (o :: rest) a w := by
  obtain ⟨i0, hi0, hz0, hz1, hz2⟩ := info_parts Tryd.infoN13
  cases A with
  | none =>
    obtain ⟨rfl, rfl⟩ := h0 rfl
    exact wpList_append_own_none hgd s x 30 ho base 2 i0 1 Tryd.underlying30 hi0 v 0 [] hs hown hx (h v w hown ⟨rfl, rfl, rfl, Nat.le_refl _, fun _ _ _ => rfl⟩)
  | some ad =>
    refine wpList_append_own (P := Tryd.prog) w hgd s x 30 ho base 2 i0 _ 1 8 Tryd.underlying30 hi0 hz0 hz1 hz2 rfl (by decide) v 0 [] hs hown ad m c (rowL m Z) hx (by simp [rowL]) (news_of hr) (rowL_one m Z) (by unfold maxLen; omega) (by omega) hbase fun v' w' h2 h3 _ => h v' w' ?_ h3
    rw [Nat.zero_add, List.nil_append] at h2
    exact h2
end
theorem spoil_any {w : World} {ga lo hi m k : Nat} {S : Nat → PodV} (h : Aok w ga lo hi m S) (hk : k < m) (hm : (S k).m ≤ 1000) : Calls Tryd.prog 27 #[.slice (S k).A (S k).m (S k).c] w fun e w' => e = .returned (.tuple #[]) ∧ ∃ g, Spd g w w' ∧ (w' = w ∨ (lo ≤ g ∧ g < hi ∧ g ≠ ga)) := by
  rcases h.sp k hk with ⟨e1, e2, e3⟩ | ⟨g, e1, h1, h2, h3, h4⟩
  · rw [e1, e2, e3]
    refine (spoil_nil w).mono ?_
    rintro e w' ⟨rfl, rfl⟩
    exact ⟨rfl, 0, Spd.refl _ _, Or.inl rfl⟩
  · rw [e1]
    refine (spoil_fn g (S k).m (S k).c w hm h4).mono ?_
    rintro e w' ⟨rfl, F, _⟩
    exact ⟨rfl, g, F, Or.inr ⟨h1, h2, h3⟩⟩
theorem aok_of {w : World} {base m cap ga : Nat} {S : Nat → PodV} (h : RowP w base (.slice (some ⟨ga, 0, none⟩) m cap) m S) : Aok w ga base w.heap.size m S := by
  have fz : ∀ i, w.frozen? ⟨ga, i, none⟩ = false := by
    rcases h.row.2 with ⟨e, _⟩ | ⟨g, c, cur, e, _, hb, _⟩
    · cases e
    · simp only [Value.slice.injEq, Option.some.injEq, Addr.mk.injEq, and_true] at e
      rw [e.1]
      exact fun i => frozen_of_row w g i _ _ hb
  have c : ∀ j, j < m → Cel9 w ga (0 + j * 9) (S j) := fun j hj => row_cel h.row hj
  simp only [Nat.zero_add] at c
  refine ⟨fun j hj => (c j hj).e0, fun j hj => (c j hj).e4, fun j hj => ⟨_, (c j hj).e6⟩, fz, fun j hj => ?_⟩
  have hr := h.own j hj
  rcases hr.2 with ⟨e, _⟩ | ⟨g, c2, cur, e, hb, _⟩
  · simp only [Value.slice.injEq] at e
    exact Or.inl ⟨e.1, e.2.1, e.2.2⟩
  · simp only [Value.slice.injEq] at e
    have hr2 := hr
    unfold Req at hr2
    rw [e.1] at hr2
    refine Or.inr ⟨g, e.1, hb, (hr2.lt g rfl).2, fun e2 => ?_, spg_own hr2⟩
    rcases rows_apart hr2 h.row (by decide) with h5 | h5
    · cases h5
    · exact h5 (by rw [e2]; rfl)
theorem fewp_or (P : Nat → PodV) (n : Nat) : ∃ b, b = true ↔ FewP P n := ⟨@decide (FewP P n) (Classical.propDecidable _), by simp⟩
theorem both_new {OS : Pred} (C : Con OS) {w w1 w2 : World} {qs qt : Nat} (o1 : OS w 100 qs [] (fun _ => False) w1) (t2 : OS w 100 qt [] (fun i => w.heap.size ≤ i ∧ i < w1.heap.size) w2) (k2 : Keep w1 w2) : Both OS w qs qt w1.heap.size w2.heap.size [] (fun i => w1.heap.size ≤ i ∧ i < w2.heap.size) (fun _ => False) w2 none 0 0 (fun _ => zpod) :=
  ⟨C.less (C.more o1 k2 (Z := fun i => w1.heap.size ≤ i ∧ i < w2.heap.size) fun _ h => h) (fun _ h => Or.inr h), ⟨C.less t2 (fun i h => h.elim id fun h => absurd h (by omega)), Nat.le_refl _⟩, RL.nil _ _ _, rfl, (fun y hy => by cases hy), (fun i h1 h2 => ⟨h1, h2⟩), fun _ h => h.elim⟩
set_option maxRecDepth 100000 in
set_option maxHeartbeats 8000000 in
theorem keeps_walk {OS : Pred} (C : Con OS) (NX : NewX OS) (A : Option Addr) (n c : Nat) (P : Nat → PodV) (w : World) (hR : RdPods w A n P) (hg : ErrT w) : Calls Tryd.prog 6 #[.slice A n c] w fun e w' => e = .returned (.bool true) ∧ Keep w w' := by
  have hs := hR.small
  obtain ⟨fb, hfb⟩ := fewp_or P n
  have cF : Hid (∀ W, Keep w W → Calls Tryd.prog 25 #[.slice A n c] W fun e w' => e = .returned (.bool fb) ∧ W = w') := fun W k => rfew_fn A n c P W (hR.keep k) fb hfb
  have aw : Hid (∀ W, Keep w W → Calls Tryd.prog 9 #[] W fun e w' => e = .returned (.bool true) ∧ Keep W w') := fun W k => awake_true C W (hg.keep k)
  have cN := Lib.hid (NX 100 w w (fun _ => False) (Keep.refl w) (by unfold I64; omega) (fun _ h => h.elim))
  have cN2 : Hid (∀ w1, Keep w w1 → Calls Tryd.prog 8 #[.int .i64 100] w1 fun e w' => ∃ q, e = .returned (.pointer (some ⟨q, 0, none⟩)) ∧ OS w 100 q [] (fun i => w.heap.size ≤ i ∧ i < w1.heap.size) w' ∧ Keep w1 w') := fun w1 k => NX 100 w w1 _ k (by unfold I64; omega) (fun _ h => h.2)
  replace hfb := Lib.hid hfb
  replace hg := Lib.hid hg
  replace hR := Lib.hid hR
  go_enter Tryd.func6, Tryd.ntmps6
  go_wp2_with fail
  refine cN.out.mono ?_
  rintro e w1 ⟨qs, rfl, o1, k1⟩
  replace o1 := Lib.hid o1
  go_wp2_with fail
  refine (cN2.out w1 k1).mono ?_
  rintro e w2 ⟨qt, rfl, t2, k2⟩
  obtain ⟨lo, hlo⟩ : ∃ lo, lo = w1.heap.size := ⟨_, rfl⟩
  obtain ⟨hi, hhi⟩ : ∃ hi, hi = w2.heap.size := ⟨_, rfl⟩
  have b2 := both_new C o1.out t2 k2
  rw [← hlo, ← hhi] at b2
  have hwlo : Hid (w.heap.size ≤ lo) := by show _ ≤ lo; rw [hlo]; exact k1.size
  have hlohi : Hid (lo ≤ hi) := by show lo ≤ hi; rw [hlo, hhi]; exact k2.size
  replace b2 := Lib.hid b2
  replace hlo := Lib.hid hlo
  replace hhi := Lib.hid hhi
  replace k1 := Lib.hid k1
  replace k2 := Lib.hid k2
  replace t2 := Lib.hid t2
  clear cN cN2
  go_wp2_with fail
  refine (aw.out _ (b2.out.kp C)).mono ?_
  rintro e w3 ⟨rfl, k3⟩
  replace b2 := Lib.hid (b2.out.keep C k3)
  have K1 := Lib.hid (b2.out.kp C)
  replace k3 := Lib.hid k3
  go_wp2_with fail
  refine (cF.out w3 K1.out).mono ?_
  rintro e w3' ⟨rfl, rfl⟩
  cases fb with
  | false =>
    go_wp2_with fail
    refine (aw.out _ K1.out).mono ?_
    rintro e w4 ⟨rfl, k4⟩
    go_wp2
    go_ret
    exact ⟨rfl, K1.out.trans k4⟩
  | true =>
  have hf := hfb.out.1 rfl
  have hn := hf.1
  replace hf := Lib.hid hf
  clear aw cF
  go_wp2
  go_loopg [5, 6] n (fun gx s5 s6 wr => ∃ (i m : Nat) (B : Option Addr) (d : Nat) (Q : Nat → PodV) (M : List PodV) (XS XR : Nat → Prop), i ≤ n ∧ gx = n - i ∧ s6 = .int .i64 i ∧ s5 = .slice B m d ∧ m ≤ i ∧ Hid (Both OS w qs qt lo hi M XS XR wr B d m Q))
  case atStart => exact ⟨0, 0, none, 0, _, [], _, _, Nat.zero_le _, rfl, rfl, rfl, Nat.le_refl _, b2.out⟩
  case round =>
    clear o1 K1 b2 t2
    obtain ⟨i, m, B, d, Q, M, XS, XR, hi1, rfl, rfl, rfl, hmi, BB⟩ := hrel
    by_cases hlt : i < n
    · have KR := Lib.hid (BB.out.kp C)
      obtain ⟨b, off, hA, ca⟩ := (hR.out.keep KR.out).adr (by omega)
      subst hA
      have q1 := pods_at b off n c i hlt
      have X0 := ca i hlt
      have ox := hR.out.is i hlt
      have hmx := (hf.out.2 i hlt).2.2
      clear ca
      obtain ⟨x, hx⟩ : ∃ x, x = P i := ⟨_, rfl⟩
      rw [← hx] at X0 ox hmx
      replace hx := Lib.hid hx
      have y0 := X0.e0; have y1 := X0.e1; have y2 := X0.e2; have y3 := X0.e3; have y4 := X0.e4; have y5 := X0.e5; have y6 := X0.e6; have y7 := X0.e7; have y8 := X0.e8
      clear X0
      have rdx := Lib.hid (ox.rd.keep KR.out)
      have nlx := Lib.hid ox.nil
      replace ox := Lib.hid ox
      obtain ⟨nb, hnb⟩ : ∃ nb, nb = wr.heap.size := ⟨_, rfl⟩
      have hnb1 := Lib.hid hnb
      clear hnb
      go_wp2_with (at_builtin; refine wpl_amounts rfl _ _ rfl wr.heap.size (.slice (some ⟨wr.heap.size + 1, 0, none⟩) 0 0) (by simp [Act.eval]) (own_none (by omega) (hp2 _ _ _ _)) x.A x.m x.c x.Z (by simp [Act.eval]) (rdx.out.keep ((Keep.one _ _).alloc _)) nlx.out (by omega) (by simp; omega) ?_; intro v6 w6 hr6 hg6; have N6 : w6.heap[wr.heap.size]? = some (.cells (podB x) 32 (0, 0)) := (hg6.block wr.heap.size (by simp; omega) (by simp [Value.ownBlock])).trans (hp1 _ _ _ _); have k6 : Hid (Keep wr w6) := keep_grown ((Keep.one _ _).alloc _) hg6 (fun y hy => by simp [Value.ownBlock] at hy; omega); obtain ⟨A6, c6, hv6, hn6⟩ := own_form hr6; subst hv6; rw [← hnb1.out] at N6; obtain ⟨n0, n1, n2, n3, n4, n5, n6, n7, n8, f6⟩ := blk9 N6; replace N6 := Lib.hid N6; replace hr6 := Lib.hid hr6; replace hg6 := Lib.hid hg6; replace hn6 := Lib.hid hn6; clear y0 y1 y2 y3 y4 y5 y6 y7 y8; rw [← hnb1.out])
      obtain ⟨W7, hW7⟩ : ∃ W, W = w6.setCell ⟨nb, 4, none⟩ (.slice A6 x.m c6) := ⟨_, rfl⟩
      have wn : wr.heap.size ≤ nb := Nat.le_of_eq hnb1.out.symm
      have K7 : Hid (Keep wr W7) := by rw [hW7]; exact k6.out.set wn _
      have N7 : Hid (W7.heap[nb]? = some (.cells (podB (x.at A6 c6)) 32 (0, 0))) := by rw [hW7]; exact (nine_set N6.out).2.2.2.2.1
      have s7 : Hid (W7.heap.size = w6.heap.size) := by show _ = _; rw [hW7]; simp
      have R7 : Hid (Req W7 wr.heap.size (x.at A6 c6)) := by
        have hne := row_ne hr6.out N6.out (by decide)
        show W7.ownsRow _ _ _ _ _ _
        rw [hW7]
        exact own_blocks1 hr6.out fun g hg => Below.heap_setCell _ _ _ _ (hne g hg)
      have I7 : Hid (PodIs W7 (x.at A6 c6)) := ⟨rd_own R7.out ox.out.rd.small ox.out.rd.range, hn6.out, ox.out.rng⟩
      have B7 := Lib.hid (BB.out.grow C K7.out)
      have hML := BB.out.len
      obtain ⟨M2, hM2⟩ : ∃ M2, M2 = subL M 100 x := ⟨_, rfl⟩
      obtain ⟨er, her⟩ : ∃ er, er = fltC (subC M 100 (x.at A6 c6)) := ⟨_, rfl⟩
      obtain ⟨X7, hX7⟩ : ∃ X7 : Nat → Prop, X7 = fun i => XS i ∨ (wr.heap.size ≤ i ∧ i < W7.heap.size) := ⟨_, rfl⟩
      rw [← hX7] at B7
      have cS : Calls Tryd.prog 23 #[.pointer (some ⟨qs, 0, none⟩), (x.at A6 c6).val] W7 fun e w' => ∃ r : PodV, e = .returned (.tuple #[r.val, er]) ∧ r.m ≤ 20 ∧ Req w' W7.heap.size r ∧ OS w 100 qs M2 (fun i => X7 i ∨ rb r i) w' ∧ SameX X7 W7 w' := by
        refine (C.submit (x.at A6 c6) B7.out.s (hg.out.keep (B7.out.kp C)) I7.out (show x.m ≤ 1000 by omega) (by omega)).mono ?_
        rintro e w' ⟨r, rfl, h1, h2, h3, h4, h5, h6⟩
        refine ⟨r, by rw [her], ?_, h4, by rw [hM2]; exact h5, h6⟩
        by_cases h0 : subC M 100 (x.at A6 c6) = 0
        · have := congrArg PodV.m (h1 h0)
          have e2 : r.m = x.m := this
          omega
        · have := congrArg PodV.m (h2 h0)
          have e2 : r.m = 0 := this
          omega
      have m2 : Hid (∀ y ∈ M2, y.m ≤ 20) := by
        rw [hM2]
        intro y hy
        unfold subL at hy
        split at hy
        · rcases List.mem_append.1 hy with h1 | h1
          · exact BB.out.m y h1
          · rw [List.mem_singleton.1 h1]; exact hmx
        · exact BB.out.m y hy
      have hb7 : nb < W7.heap.size := lt_of_block N7.out
      have wn7 : wr.heap.size ≤ nb := wn
      replace wn := Lib.hid wn
      replace her := Lib.hid her
      unfold PodV.val PodV.at at cS
      replace cS := Lib.hid cS
      replace hML := Lib.hid hML
      go_wp2_with fail
      rw [← hW7]
      replace hW7 := Lib.hid hW7
      refine cS.out.mono ?_
      rintro e w8 ⟨r, rfl, hrm, QR, O8, SX⟩
      have s78 : W7.heap.size ≤ w8.heap.size := by
        have := C.lt O8 (W7.heap.size - 1) (Or.inl (by rw [hX7]; exact Or.inr (by omega)))
        omega
      have K8 := Lib.hid (C.kp O8)
      obtain ⟨w9, hw9⟩ : ∃ W, W = w8.alloc (.cells (podB r) 32) := ⟨_, rfl⟩
      obtain ⟨qb, hqb⟩ : ∃ qb, qb = w8.heap.size := ⟨_, rfl⟩
      have K89 : Hid (Keep w8 w9) := by rw [hw9]; exact Keep.one _ _
      have B9 : Hid (w9.heap[qb]? = some (.cells (podB r) 32 (0, 0))) := by rw [hw9, hqb]; exact heap_alloc_new _ _
      have r8 : RL w XR w8 B d m Q := BB.out.r.same K8.out (fun i hi => (SX i (by rw [hX7]; exact Or.inl (BB.out.rs i hi))).trans (Below.block K7.out i (C.lt BB.out.s i (BB.out.rs i hi))))
      have cR := rl_sub (r8.keep K89.out) BB.out.e 100 x ox.out (K8.out.trans K89.out) (by omega)
      rw [← hM2] at cR
      have Z8 := (hR.out.keep K8.out).at hlt
      rw [← hx.out] at Z8
      have y0 := Z8.e0; have y1 := Z8.e1; have y2 := Z8.e2; have y3 := Z8.e3; have y4 := Z8.e4; have y5 := Z8.e5; have y6 := Z8.e6; have y7 := Z8.e7; have y8 := Z8.e8
      have hbl := cell_lt y0
      clear Z8
      replace hM2 := Lib.hid hM2
      replace hX7 := Lib.hid hX7
      replace O8 := Lib.hid O8
      replace SX := Lib.hid SX
      replace QR := Lib.hid QR
      replace r8 := Lib.hid r8
      unfold PodV.val at cR
      replace cR := Lib.hid cR
      unfold podB at hw9
      clear n0 n1 n2 n3 n4 n5 n6 n7 n8 f6 cS
      go_wp2_with fail
      rw [← hw9, ← hqb]
      replace hw9 := Lib.hid hw9
      replace hqb := Lib.hid hqb
      refine cR.out.mono ?_
      rintro e w10 ⟨B', d', m', Q', rfl, k10, R10, E10, _⟩
      have hm' : m' ≤ m + 1 := by
        have := subL_len M 100 x
        rw [← hM2.out, ← E10, List.length_map, lst_len, hML.out] at this
        exact this
      have k810 := K89.out.trans k10
      have s89 := K89.out.size
      have swr : wr.heap.size ≤ W7.heap.size := K7.out.size
      have hhi2 : hi ≤ wr.heap.size := BB.out.t.2
      have swl : w.heap.size ≤ wr.heap.size := KR.out.size
      have X7r : Hid (∀ g, wr.heap.size ≤ g → g < W7.heap.size → X7 g) := fun g h1 h2 => by rw [hX7.out]; exact Or.inr ⟨h1, h2⟩
      have B10 := B7.out.submitted C O8.out (fun i h => Or.inl h) SX.out s78 k810 R10 E10 m2.out (fun i h => h.imp id fun h => ⟨Nat.le_trans s89 h.1, h.2⟩)
      have XRl : Hid (∀ g, wr.heap.size ≤ g → g < w8.heap.size → ¬ (XR g ∨ (w9.heap.size ≤ g ∧ g < w10.heap.size))) := fun g h1 h2 h3 => by
        rcases h3 with h3 | h3
        · have := C.lt BB.out.s g (BB.out.rs g h3)
          omega
        · omega
      have N10 : w10.heap[nb]? = some (.cells (podB (x.at A6 c6)) 32 (0, 0)) := k810.block ((SX.out nb (X7r.out nb wn7 hb7)).trans N7.out)
      have Q10 := k10.block B9.out
      have hq10 := lt_of_block Q10
      have rq10 : Req w10 wr.heap.size (x.at A6 c6) := own_keep (own_blocks1 R7.out fun g hg => SX.out g (X7r.out g (R7.out.lt g hg).1 (R7.out.lt g hg).2)) k810
      have rr10 : Req w10 W7.heap.size r := own_keep QR.out k810
      have cSp := Lib.hid (spoil_req rq10 (show x.m ≤ 1000 by omega))
      obtain ⟨_, _, _, _, n4, _, _, _, _, _⟩ := blk9 N10
      replace B10 := Lib.hid B10
      replace N10 := Lib.hid N10
      replace Q10 := Lib.hid Q10
      replace rq10 := Lib.hid rq10
      replace rr10 := Lib.hid rr10
      replace k10 := Lib.hid k10
      replace k810 := Lib.hid k810
      replace R10 := Lib.hid R10
      replace E10 := Lib.hid E10
      replace s89 := Lib.hid s89
      clear y0 y1 y2 y3 y4 y5 y6 y7 y8 q1 hbl cR
      unfold PodV.at at cSp n4
      go_wp2_with fail
      refine cSp.out.mono ?_
      rintro e w11 ⟨rfl, g, S, hc⟩
      have hc2 : w11 = w10 ∨ (wr.heap.size ≤ g ∧ g < W7.heap.size) := hc.imp id fun ⟨_, hA, h1, _⟩ => ⟨h1, (R7.out.lt g (by
        show (Value.slice A6 x.m c6).ownBlock = some g
        have hA2 : A6 = some ⟨g, 0, none⟩ := hA
        rw [hA2]
        rfl)).2⟩
      have B11 := B10.out.spd C S (hc2.imp id fun ⟨h1, h2⟩ => ⟨by omega, Or.inl (Or.inl (X7r.out g h1 h2)), by omega, XRl.out g h1 (by omega)⟩)
      have s11 : ∀ k, W7.heap.size ≤ k → k < w10.heap.size → w11.heap[k]? = w10.heap[k]? := fun k h1 h2 => by
        rcases hc2 with rfl | h3
        · rfl
        · exact S.fr.block k h2 (by omega)
      have Q11 : w11.heap[qb]? = some (.cells (podB r) 32 (0, 0)) := (s11 qb (by rw [hqb.out]; exact s78) hq10).trans Q10.out
      have rr11 : Req w11 W7.heap.size r := own_blocks1 rr10.out fun g hg => s11 g (rr10.out.lt g hg).1 (rr10.out.lt g hg).2
      have cSq := Lib.hid (spoil_req rr11 (by omega))
      obtain ⟨_, _, _, _, z4, _, _, _, _, _⟩ := blk9 Q11
      replace S := Lib.hid S
      replace hc := Lib.hid hc
      replace hc2 := Lib.hid hc2
      replace B11 := Lib.hid B11
      replace s11 := Lib.hid s11
      replace Q11 := Lib.hid Q11
      replace rr11 := Lib.hid rr11
      clear n4 cSp
      go_wp2_with fail
      refine cSq.out.mono ?_
      rintro e w12 ⟨rfl, g2, S2, hd⟩
      have B12 := Lib.hid (B11.out.spd C S2 (hd.imp id fun ⟨h0, hA, h1, _⟩ => by
        have h2 := (QR.out.lt g2 (by rw [hA]; rfl)).2
        exact ⟨by omega, Or.inl (Or.inr ⟨h0, 0, hA⟩), by omega, XRl.out g2 (by omega) h2⟩))
      replace S2 := Lib.hid S2
      replace hd := Lib.hid hd
      clear z4 cSq
      go_wp2
      go_roundg (n - (i + 1))
      case measure => omega
      case rel => exact ⟨i + 1, m', B', d', Q', M2, _, _, hlt, rfl, by go_num, rfl, by omega, B12.out⟩
    · obtain rfl : i = n := by omega
      obtain ⟨wo, hwo⟩ : ∃ wo, wo = wr := ⟨_, rfl⟩
      subst hwo
      have hlen := BB.out.len
      have m3 : ∀ y ∈ M, y.m ≤ 1000 := fun y hy => by have := BB.out.m y hy; omega
      have cA := C.all BB.out.s m3 (by rw [hlen]; omega)
      rw [hlen] at cA
      replace cA := Lib.hid cA
      replace hlen := Lib.hid hlen
      replace m3 := Lib.hid m3
      go_wp2_with fail
      refine cA.out.mono ?_
      rintro e w5 ⟨v, S, rfl, R5, E5, k5⟩
      obtain ⟨A5, d5, rfl, D5⟩ := R5.rd (by omega)
      have B5 := Lib.hid (BB.out.grow C k5)
      have hga : ∃ ga, 0 < m → A5 = some ⟨ga, 0, none⟩ ∧ wo.heap.size ≤ ga ∧ ga < w5.heap.size := by
        by_cases h0 : 0 < m
        · obtain ⟨g, cap, e, _, _⟩ := R5.row.form h0
          simp only [Value.slice.injEq] at e
          have hl := R5.row.lt g (by rw [e.1]; rfl)
          exact ⟨g, fun _ => ⟨e.1, hl.1, hl.2⟩⟩
        · exact ⟨0, fun h => absurd h h0⟩
      obtain ⟨ga, hga⟩ := hga
      have A0 : Hid (0 < m → Aok w5 ga wo.heap.size w5.heap.size m S) := fun h0 => by
        have e := (hga h0).1
        have R6 := R5
        rw [e] at R6
        exact aok_of R6
      have sm : Hid (∀ j, j < m → (S j).m ≤ 20 ∧ I64 (S j).k) := fun j hj => by
        refine ⟨?_, (D5.is j hj).rng.1⟩
        have : nm (S j) ∈ M := by rw [← E5]; exact List.mem_map_of_mem (lst_mem.2 ⟨j, hj, rfl⟩)
        have h2 : (nm (S j)).m ≤ 20 := BB.out.m _ this
        exact h2
      have hgm : Hid (∀ id, (getL M id).m ≤ 20) := fun id => by
        by_cases hk : id ∈ keys M
        · exact BB.out.m _ (get_some hk).1
        · rw [get_none hk]; exact Nat.zero_le _
      have XRl : Hid (∀ g, wo.heap.size ≤ g → ¬ XR g) := fun g h1 h3 => by
        have := C.lt BB.out.s g (BB.out.rs g h3)
        omega
      have swl : w.heap.size ≤ wo.heap.size := (BB.out.kp C).size
      have hhi2 : hi ≤ wo.heap.size := BB.out.t.2
      have s5 : wo.heap.size ≤ w5.heap.size := k5.size
      replace hga := Lib.hid hga
      replace R5 := Lib.hid R5
      replace D5 := Lib.hid D5
      replace E5 := Lib.hid E5
      replace k5 := Lib.hid k5
      clear cA
      go_wp2
      go_loopg [11] m (fun gx s11 wr2 => ∃ (k : Nat) (X2 : Nat → Prop), k ≤ m ∧ gx = m - k ∧ s11 = .int .i64 k ∧ Hid (Both OS w qs qt lo hi M X2 XR wr2 B d m Q) ∧ Hid (∀ g, wo.heap.size ≤ g → g < w5.heap.size → X2 g) ∧ Hid (0 < m → Aok wr2 ga wo.heap.size w5.heap.size m S) ∧ Hid (w5.heap.size ≤ wr2.heap.size))
      case atStart => exact ⟨0, _, Nat.zero_le _, rfl, rfl, B5.out, (fun g h1 h2 => Or.inr ⟨h1, h2⟩), A0.out, Nat.le_refl _⟩
      case round =>
        clear B5 A0 R5 D5
        obtain ⟨k, X2, hk, rfl, rfl, B2, HX, AO, sz⟩ := hrel
        by_cases hlk : k < m
        · obtain ⟨eA, g1, g2⟩ := hga.out (by omega)
          subst eA
          have AK := Lib.hid (AO.out (by omega))
          have q1 := pods_at ga 0 m d5 k hlk
          simp only [Nat.zero_add] at q1
          have i4 := AK.out.rq k hlk
          have cSp := spoil_any AK.out hlk (by have := (sm.out k hlk).1; omega)
          have ik : Hid (∀ W, Aok W ga wo.heap.size w5.heap.size m S → W.cell? ⟨ga, k * 9, none⟩ = some (.int .i64 (S k).k)) := fun W h => h.ik k hlk
          have hid1 := Lib.hid ((sm.out k hlk).2)
          obtain ⟨sA, hsA⟩ : ∃ a, a = (S k).A := ⟨_, rfl⟩
          obtain ⟨sm1, hsm⟩ : ∃ a, a = (S k).m := ⟨_, rfl⟩
          obtain ⟨sc, hsc⟩ : ∃ a, a = (S k).c := ⟨_, rfl⟩
          obtain ⟨id, hidd⟩ : ∃ a, a = (S k).k := ⟨_, rfl⟩
          rw [← hsA, ← hsm, ← hsc] at i4 cSp
          rw [← hidd] at ik hid1
          replace hsA := Lib.hid hsA
          replace hsm := Lib.hid hsm
          replace hsc := Lib.hid hsc
          replace hidd := Lib.hid hidd
          replace cSp := Lib.hid cSp
          go_wp2_with fail
          refine cSp.out.mono ?_
          rintro e w6 ⟨rfl, g, F, hc⟩
          have B6 := B2.out.spd C F (hc.imp _root_.id fun ⟨h1, h2, h3⟩ => ⟨by omega, HX.out g h1 h2, by omega, XRl.out g h1⟩)
          have AK6 : Aok w6 ga wo.heap.size w5.heap.size m S := by
            rcases hc with rfl | ⟨h1, h2, h3⟩
            · exact AK.out
            · exact AK.out.spd F h3
          have sz6 : w5.heap.size ≤ w6.heap.size := Nat.le_trans sz.out F.fr.size
          have i0 := ik.out w6 AK6
          have cG := C.get id B6.s hid1.out m3.out
          unfold PodV.val at cG
          replace cG := Lib.hid cG
          replace F := Lib.hid F
          replace hc := Lib.hid hc
          replace B6 := Lib.hid B6
          replace AK6 := Lib.hid AK6
          clear i4 cSp
          go_wp2_with fail
          refine cG.out.mono ?_
          rintro e w7 ⟨r, rfl, NE, IR, QR, k7⟩
          obtain ⟨w8, hw8⟩ : ∃ W, W = w7.alloc (.cells (podB r) 32) := ⟨_, rfl⟩
          have K78 : Keep w7 w8 := by rw [hw8]; exact Keep.one _ _
          have N8 : w8.heap[w7.heap.size]? = some (.cells (podB r) 32 (0, 0)) := by rw [hw8]; exact heap_alloc_new _ _
          obtain ⟨_, _, _, _, z4, _, _, _, _, _⟩ := blk9 N8
          have rr8 : Req w8 w6.heap.size r := own_keep QR K78
          have hrm : r.m ≤ 20 := by
            have := congrArg PodV.m NE
            have e2 : r.m = (getL M id).m := this
            rw [e2]; exact hgm.out id
          have cSq := Lib.hid (spoil_req rr8 (by omega))
          have B8 := Lib.hid (B6.out.grow C (k7.trans K78))
          have k68 := k7.trans K78
          have AK8 := Lib.hid (AK6.out.keep k68 (fun a ha => World.frozen?_of_block (Below.block k68 a.block ha)) (by omega) sz6)
          rw [hw8] at z4
          unfold podB at hw8 z4
          replace N8 := Lib.hid N8
          replace NE := Lib.hid NE
          replace IR := Lib.hid IR
          replace QR := Lib.hid QR
          replace k7 := Lib.hid k7
          replace K78 := Lib.hid K78
          have s68 := k68.size
          replace k68 := Lib.hid k68
          replace rr8 := Lib.hid rr8
          clear i0 cG
          go_wp2_with fail
          rw [← hw8]
          replace hw8 := Lib.hid hw8
          refine cSq.out.mono ?_
          rintro e w9 ⟨rfl, gg, F2, hd⟩
          have B9 := Lib.hid (B8.out.spd C F2 (hd.imp _root_.id fun ⟨_, _, h1, h2⟩ => ⟨by omega, Or.inr ⟨h1, h2⟩, by omega, XRl.out gg (by omega)⟩))
          have AK9 : Aok w9 ga wo.heap.size w5.heap.size m S := by
            rcases hd with rfl | ⟨_, _, h1, h2⟩
            · exact AK8.out
            · exact AK8.out.spd F2 (by omega)
          have s89 := F2.fr.size
          obtain ⟨z, c6⟩ := AK9.ph k hlk
          have f6 := AK9.fz (k * 9 + 6)
          have AK10 := Lib.hid (AK9.set hlk 9)
          have B10 := Lib.hid (B9.out.fr C (g := ga) (w2 := w9.setCell ⟨ga, k * 9 + 6, none⟩ (.int .i64 9)) (Fr.set (D := fun i => i = ga) (p := ⟨ga, k * 9 + 6, none⟩) (Fr.refl _ _) (Or.inl rfl) _) (by omega) (Or.inl (HX.out ga g1 g2)) (fun h => by omega) (XRl.out ga g1))
          have s9 : Hid (w5.heap.size ≤ (w9.setCell ⟨ga, k * 9 + 6, none⟩ (.int .i64 9)).heap.size) := by
            show _ ≤ _
            simp
            omega
          have HX10 : Hid (∀ g, wo.heap.size ≤ g → g < w5.heap.size → X2 g ∨ (w6.heap.size ≤ g ∧ g < w8.heap.size)) := fun g h1 h2 => Or.inl (HX.out g h1 h2)
          replace AK9 := Lib.hid AK9
          replace F2 := Lib.hid F2
          replace hd := Lib.hid hd
          clear z4 cSq
          go_wp2
          go_roundg (m - (k + 1))
          case measure => omega
          case rel => exact ⟨k + 1, _, hlk, rfl, by go_num, B10.out, HX10.out, fun _ => AK10.out, s9.out⟩
        · obtain rfl : k = m := by omega
          have cA2 := C.all B2.out.s m3.out (by rw [hlen.out]; omega)
          rw [hlen.out] at cA2
          replace cA2 := Lib.hid cA2
          go_wp2_with fail
          refine cA2.out.mono ?_
          rintro e w6 ⟨v6, T6, rfl, R6, E6, k6⟩
          obtain ⟨A6, d6, rfl, D6⟩ := R6.rd (by omega)
          have cS := Lib.hid (rsame6_fn A6 B k d6 d T6 Q w6 D6 (B2.out.r.rd.keep k6) (same_of (by rw [E6, B2.out.e])))
          replace R6 := Lib.hid R6
          replace D6 := Lib.hid D6
          replace E6 := Lib.hid E6
          replace k6 := Lib.hid k6
          clear cA2
          go_wp2_with fail
          refine cS.out.mono ?_
          rintro e w7 ⟨rfl, k7⟩
          have k67 := k6.out.trans k7
          have cL := Lib.hid ((B2.out.t.keep C k67).len C)
          have KW := Lib.hid ((B2.out.kp C).trans k67)
          replace k7 := Lib.hid k7
          replace k67 := Lib.hid k67
          clear cS
          go_wp2_with fail
          refine cL.out.mono ?_
          rintro e w8 ⟨rfl, k8⟩
          go_wp2
          go_ret
          exact ⟨rfl, KW.out.trans k8⟩
end Go.Proofs.YtfidlljhmebpmaaDoor.T13
