/-
  The methods Count, All and Wake of a lot. No condition.
-/
import Derived.Test.YtpkpmoiekjhdnaaDoorLot8
import Derived.Maps.RangeWalk
namespace Go.Proofs.YtpkpmoiekjhdnaaDoor
open Go.RowKit Go.Sort Go.Lib Go.Shelf
open Go.ChangeMaps (setBlock)

theorem rng_grown {w wr w1 : World} (k : Keep w wr) {r : Nat} (hg : wr.grownBy w1 (some r)) (h : w.heap.size ≤ r) : Keep w w1 := keep_grown k hg (fun g e => by have := Option.some.inj e; omega)
set_option maxRecDepth 100000 in
set_option maxHeartbeats 8000000 in
theorem pcount_fn {w : World} {b0 b1 bl : Nat} {D : Nat → Prop} {L : List (PodV × Int)} (h : LInv w b0 b1 bl D L) (r : Int) :
    Calls Tryd.prog 17 #[.pointer (some ⟨bl, 0, none⟩), .int .i64 r] w fun e w' => e = .returned (.int .i64 (cntE r L : Nat)) ∧ Keep w w' := by
  obtain ⟨B, E, h1, h2, rfl⟩ := h
  have eC : cntE r L = cntE r E := by rw [← cnt_perm h2, cnt_nm]
  rw [eC]
  obtain ⟨N, hN⟩ : ∃ N, N = cntE r E := ⟨_, rfl⟩
  rw [← hN]
  have hNl : N ≤ 1000 := by rw [hN]; exact Nat.le_trans (cnt_le r E) h1.lim
  have c0 := h1.e0
  have hrg := Lib.hid h1.map
  have hne : w.heap.size ≠ B := by have := h1.lt.2; omega
  replace hN := Lib.hid hN
  clear h1 h2 eC
  go_enter Tryd.func17, Tryd.ntmps17
  go_wp2_with (at_range; refine MV.wpl_range rfl (.tmp 13) 53 rfl Tryd.underlying53 rfl hrg.out ?_; intro w0 hR0 k0 s0)
  replace hR0 := Lib.hid hR0
  replace k0 := Lib.hid k0
  clear s0
  go_frame
  go_loopg [5] E.length (fun gx s5 wr => ∃ (c : Nat) (T : List (PodV × Int)), gx = T.length ∧ s5 = .int .i64 c ∧ Hid (c + cntE r T = N) ∧ Hid (Keep w wr) ∧ Hid (MV.Rng wr B w.heap.size (prs T)))
  case atStart => exact ⟨0, E, rfl, rfl, by show 0 + cntE r E = N; rw [hN.out]; omega, k0, hR0⟩
  case round =>
    clear hR0 k0
    obtain ⟨c, T, rfl, rfl, hc, K, RG⟩ := hrel
    have hcl : c ≤ 1000 := by have := hc.out; omega
    go_wp2_with (at_next; refine MV.wpl_next rfl (.tmp 14) rfl rfl RG.out hne ?_ ?_)
    · intro h0
      have hT := prs_nil h0
      subst hT
      have e : c = N := by have := hc.out; simp [cntE] at this; exact this
      subst e
      replace h0 := Lib.hid h0
      go_wp2
      go_ret
      exact ⟨rfl, K.out⟩
    · intro k v rs w1 hp hr hg hs hen
      obtain ⟨x, q, T', hT, rfl, rfl, hrs⟩ := prs_step hp
      have hr' := Lib.hid (hr.perm hrs)
      have hl := hT.length_eq
      rw [List.length_cons] at hl
      have hcn : cntE r T = (if q = r then 1 else 0) + cntE r T' := by rw [cnt_perm hT, cnt_cons]
      have K1 : Hid (Keep w w1) := rng_grown K.out hg (Nat.le_refl _)
      unfold PodV.ent at hen
      replace hp := Lib.hid hp
      replace hr := Lib.hid hr
      replace hg := Lib.hid hg
      replace hs := Lib.hid hs
      replace hT := Lib.hid hT
      replace hrs := Lib.hid hrs
      have R2 := Lib.hid (hr'.out.keep (Keep.one w1 (.cells #[.int .i64 x.k, .int .i64 x.p, .bool x.f, .int .i64 x.g, .slice x.A x.m x.c, .int .i64 x.a, .int .i64 x.h, .int .i64 x.d, .int .i64 x.t, .int .i64 q] 62)))
      have K2 : Hid (Keep w (w1.alloc (.cells #[.int .i64 x.k, .int .i64 x.p, .bool x.f, .int .i64 x.g, .slice x.A x.m x.c, .int .i64 x.a, .int .i64 x.h, .int .i64 x.d, .int .i64 x.t, .int .i64 q] 62))) := K1.out.trans (Keep.one _ _)
      by_cases hq : q = r
      · rw [if_pos hq] at hcn
        have hc2 : Hid (c + 1 + cntE r T' = N) := by show _ = _; have := hc.out; omega
        replace hcn := Lib.hid hcn
        subst hq
        go_wp2
        go_roundg T'.length
        case measure => omega
        case rel => exact ⟨c + 1, T', rfl, by go_num, hc2, K2, R2⟩
      · rw [if_neg hq] at hcn
        have hc2 : Hid (c + cntE r T' = N) := by show _ = _; have := hc.out; omega
        replace hcn := Lib.hid hcn
        go_wp2
        go_roundg T'.length
        case measure => omega
        case rel => exact ⟨c, T', rfl, rfl, hc2, K2, R2⟩

theorem AllIs.low {w w1 w2 : World} {L : List PodV} {n : Nat} {v : Value} {S : Nat → PodV} (k : Keep w w1) (h : AllIs w1 w2 L n v S) : AllIs w w2 L n v S := by
  obtain ⟨k2, ⟨g, hv, hg, hl, hz, hR, hq⟩, p, s⟩ := h
  have hs : w.heap.size ≤ w1.heap.size := k.size
  exact ⟨k.trans k2, ⟨g, hv, Nat.le_trans hs hg, hl, hz, hR, fun j hj => ⟨own_base (hq j hj).1 hs, (hq j hj).2⟩⟩, p, s⟩
theorem AllIs.perm' {w w' : World} {L L' : List PodV} {n : Nat} {v : Value} {S : Nat → PodV} (h : AllIs w w' L n v S) (p : L.Perm L') : AllIs w w' L' n v S := ⟨h.keep, h.at_, h.perm.trans p, h.sort⟩
/-- A row of the call's own is not the iterator. -/
theorem rng_row {w w1 : World} {b r base n z : Nat} {t : List (Int × Value)} {e : TypeId} {v : Value} {xs : List Value} (h : MV.Rng w b r t) (hg : w.grownBy w1 (some r)) (o : w.ownsRow base e z v n xs) : w1.ownsRow base e z v n xs :=
  own_blocks1 o fun g hv => hg.block g (o.lt g hv).2 fun e => by
    obtain ⟨cur, hk⟩ := row_kind o hv
    obtain ⟨es, clock, since, seen, c0, _, h2, _⟩ := h
    rw [Option.some.inj e, h2] at hk
    cases hk

set_option maxRecDepth 100000 in
set_option maxHeartbeats 8000000 in
theorem pall_fn {w : World} {b0 b1 bl : Nat} {D : Nat → Prop} {L : List (PodV × Int)} (h : LInv w b0 b1 bl D L) : Calls Tryd.prog 13 #[.pointer (some ⟨bl, 0, none⟩)] w fun e w' => ∃ v S, e = .returned v ∧ AllIs w w' (podsE L) L.length v S := by
  obtain ⟨B, E, h1, h2, rfl⟩ := h
  have eL : L.length = E.length := by rw [← h2.length_eq, List.length_map]
  have ePp : ((podsE E).map nm).Perm (podsE L) := by rw [← pods_nm]; exact h2.map _
  rw [eL]
  have c0 := h1.e0
  have hrg := Lib.hid h1.map
  have hne : w.heap.size ≠ B := by have := h1.lt.2; omega
  have hlim := h1.lim
  have own := Lib.hid h1.own
  have small := Lib.hid h1.small
  replace ePp := Lib.hid ePp
  clear h1 h2 eL
  go_enter Tryd.func13, Tryd.ntmps13
  go_wp2_with (at_range; refine MV.wpl_range rfl (.tmp 11) 53 rfl Tryd.underlying53 rfl hrg.out ?_; intro w0 hR0 k0 s0)
  replace hR0 := Lib.hid hR0
  replace k0 := Lib.hid k0
  clear s0
  go_frame
  go_loopg [3] E.length (fun gx s3 wr => ∃ (T : List (PodV × Int)) (A : Option Addr) (n c : Nat) (Q : Nat → PodV), gx = T.length ∧ s3 = .slice A n c ∧ n + T.length = E.length ∧ Hid (Keep w wr) ∧ Hid (MV.Rng wr B w.heap.size (prs T)) ∧ Hid (wr.ownsRow w.heap.size 35 9 (.slice A n c) n (podCs Q n)) ∧ Hid ((lst Q n ++ podsE T).Perm (podsE E)))
  case atStart => exact ⟨E, none, 0, 0, fun _ => zpod, rfl, rfl, by omega, k0, hR0, World.ownsRow_nil _ _ _ _, List.Perm.refl _⟩
  case round =>
    clear hR0 k0
    obtain ⟨T, A, n, c, Q, rfl, rfl, hn, K, RG, RW, PM⟩ := hrel
    go_wp2_with (at_next; refine MV.wpl_next rfl (.tmp 12) rfl rfl RG.out hne ?_ ?_)
    · intro h0
      have hT := prs_nil h0
      subst hT
      have e : n = E.length := hn
      subst e
      have PM2 : (lst Q E.length).Perm (podsE E) := by have h := PM.out; simp [podsE] at h; exact h
      have mem : ∀ t, t < E.length → ∃ y ∈ E, y.1 = Q t := fun t ht => by
        have h := PM2.mem_iff.1 (lst_mem.2 ⟨t, ht, rfl⟩)
        obtain ⟨y, hy, e⟩ := List.mem_map.1 h
        exact ⟨y, hy, e⟩
      have hR : RdPods wr A E.length Q := rows_rd RW.out (by omega) fun t ht => by
        obtain ⟨y, hy, e⟩ := mem t ht
        rw [← e]
        exact ((own.out y hy).1.is (own.out y hy).2).keep K.out
      have cS := Lib.hid (ksort7_fn A E.length c Q wr hR (by omega) fun t ht => by
        obtain ⟨y, hy, e⟩ := mem t ht
        rw [← e]
        have := small.out y hy
        omega)
      replace hR := Lib.hid hR
      replace mem := Lib.hid mem
      replace h0 := Lib.hid h0
      replace PM2 := Lib.hid PM2
      clear hn
      go_wp2_with fail
      refine cS.out.mono ?_
      rintro e w1 ⟨v, rfl, hs⟩
      obtain ⟨S, hS⟩ := all_is hs ((PM2.out.map nm).trans ePp.out)
      have hS := Lib.hid (hS.low K.out)
      replace hs := Lib.hid hs
      go_wp2
      go_ret
      exact ⟨v, S, rfl, hS.out⟩
    · intro k v rs w1 hp hr hg hs hen
      obtain ⟨x, q, T', hT, rfl, rfl, hrs⟩ := prs_step hp
      have hr' := Lib.hid (hr.perm hrs)
      have hl := hT.length_eq
      rw [List.length_cons] at hl
      have K1 : Hid (Keep w w1) := rng_grown K.out hg (Nat.le_refl _)
      have RW1 : Hid (w1.ownsRow w.heap.size 35 9 (.slice A n c) n (podCs Q n)) := rng_row RG.out hg RW.out
      have PM1 : Hid ((lst (put Q n x) (n + 1) ++ podsE T').Perm (podsE E)) := by
        show List.Perm _ _
        refine List.Perm.trans ?_ PM.out
        rw [lst_put, List.append_assoc]
        exact List.Perm.append_left _ (hT.map (fun y : PodV × Int => y.1)).symm
      have gsz : Hid (w.heap.size ≤ w1.heap.size) := K1.out.size
      unfold PodV.ent at hen
      replace hp := Lib.hid hp
      replace hr := Lib.hid hr
      replace hg := Lib.hid hg
      replace hs := Lib.hid hs
      replace hT := Lib.hid hT
      replace hrs := Lib.hid hrs
      obtain ⟨E1, hE1⟩ : ∃ E1, E1 = Obj.cells #[.int .i64 x.k, .int .i64 x.p, .bool x.f, .int .i64 x.g, .slice x.A x.m x.c, .int .i64 x.a, .int .i64 x.h, .int .i64 x.d, .int .i64 x.t, .int .i64 q] 62 := ⟨_, rfl⟩
      have ke := Keep.one w1 E1
      have R2 := Lib.hid (hr'.out.keep ke)
      have K2 := Lib.hid (K1.out.trans ke)
      have RW2 := Lib.hid (own_keep RW1.out ke)
      have z2 : (w1.alloc E1).heap.size = w1.heap.size + 1 := World.size_alloc _ _
      rw [hE1] at R2 K2 RW2 z2
      have z2 := Lib.hid z2
      replace ke := Lib.hid ke
      replace hE1 := Lib.hid hE1
      have gsz2 := Lib.hid K2.out.size
      go_wp2_with (at_builtin; refine wpl_own rfl (.tmp 17) (.tmp 20) rfl w.heap.size (.slice A n c) n (podCs Q n) (by simp [Act.eval]) (own_keep RW2.out (Keep.one _ _)) (.slice (some ⟨w1.heap.size + 1, 0, none⟩) 1 1) 1 x.cells (by simp [Act.eval]) (src_one (hp2 _ _ _ _)) (cells_one _) (by omega) (Nat.le_trans gsz2.out (Keep.one _ _).size) (n + 1) rfl ?_; intro v3 w3 hr3 hg3)
      have K3 : Hid (Keep w w3) := keep_grown (K2.out.trans (Keep.one _ _)) hg3 (fun q hq => (RW2.out.lt q hq).1)
      have R3 : Hid (MV.Rng w3 B w.heap.size (prs T')) := by
        have R := R2.out.keep (Keep.one _ (.cells #[.int .i64 x.k, .int .i64 x.p, .bool x.f, .int .i64 x.g, .slice x.A x.m x.c, .int .i64 x.a, .int .i64 x.h, .int .i64 x.d, .int .i64 x.t] 35))
        have RWx := own_keep RW2.out (Keep.one _ (.cells #[.int .i64 x.k, .int .i64 x.p, .bool x.f, .int .i64 x.g, .slice x.A x.m x.c, .int .i64 x.a, .int .i64 x.h, .int .i64 x.d, .int .i64 x.t] 35))
        refine R.of (hg3.block B R.lt.1 fun e => ?_) (hg3.block _ R.lt.2 fun e => ?_)
        · obtain ⟨cur, hk⟩ := row_kind RWx e.symm
          obtain ⟨es, clock, since, seen, c0, h1, _⟩ := R
          rw [h1] at hk
          cases hk
        · obtain ⟨cur, hk⟩ := row_kind RWx e.symm
          obtain ⟨es, clock, since, seen, c0, _, h2, _⟩ := R
          rw [h2] at hk
          cases hk
      obtain ⟨B3, d3, hB3, _⟩ := own_form hr3
      subst hB3
      rw [← podCs_put] at hr3
      replace hr3 := Lib.hid hr3
      replace hg3 := Lib.hid hg3
      go_wp2
      go_roundg T'.length
      case measure => omega
      case rel => exact ⟨T', B3, n + 1, d3, put Q n x, rfl, rfl, by omega, K3, R3, hr3, PM1⟩

/-- What Wake leaves. -/
structure Woke (w w' : World) (b0 b1 bl : Nat) (D : Nat → Prop) (L : List (PodV × Int)) (g : Nat) (S : Nat → PodV) : Prop where
  fr : Fr D w w'
  inv : ∃ D', LInv w' b0 b1 bl D' [] ∧ ∀ k, D' k → D k ∨ w.heap.size ≤ k
  rd : RdPods w' (some ⟨g, 0, none⟩) L.length S
  low : w.heap.size ≤ g
  perm : ((lst S L.length).map nm).Perm (podsE L)
  sort : ((lst S L.length).map nm).Pairwise leP
set_option maxRecDepth 100000 in
set_option maxHeartbeats 4000000 in
theorem pwake_fn {w : World} {b0 b1 bl : Nat} {D : Nat → Prop} {L : List (PodV × Int)} (h : LInv w b0 b1 bl D L) : Calls Tryd.prog 21 #[.pointer (some ⟨bl, 0, none⟩)] w fun e w' => ∃ g S, e = .returned (.slice (some ⟨g, 0, none⟩) L.length L.length) ∧ Woke w w' b0 b1 bl D L g S := by
  have cA := Lib.hid (pall_fn h)
  have h := Lib.hid h
  have hmm := @run_makeMap Tryd.prog
  go_enter Tryd.func21, Tryd.ntmps21
  go_wp2_with fail
  refine cA.out.mono ?_
  rintro e w1 ⟨v, S, rfl, AL⟩
  obtain ⟨g, rfl, hg, hl, hz, hR, hq⟩ := AL.at_
  have H1 := h.out.keep AL.keep
  have hk := Lib.hid AL.keep
  have hpm := Lib.hid AL.perm
  have hso := Lib.hid AL.sort
  replace AL := Lib.hid AL
  obtain ⟨B, E, M1, hp, rfl⟩ := H1
  have M2 := M1.keep (Keep.one w1 (.map #[] 0))
  have c0 := M2.e0
  have f0 := M2.f0
  have fin : Hid (∀ W, W = (w1.alloc (.map #[] 0)).setCell ⟨bl, 0, none⟩ (.map (some w1.heap.size)) → Woke w W b0 b1 bl (Foot8 bl B) L g S) := fun W hW => by
    have hz2 : W.heap.size = w1.heap.size + 1 := by rw [hW]; simp
    have hn : ∀ k, k ≠ bl → W.heap[k]? = (w1.alloc (.map #[] 0)).heap[k]? := fun k hk => by rw [hW]; exact Below.heap_setCell _ _ _ k hk
    have hb : bl < w.heap.size := (h.out.lo bl (Or.inl rfl)).2
    have hB : B < w.heap.size := (h.out.lo B (Or.inr rfl)).2
    have s1 : w.heap.size ≤ w1.heap.size := hk.out.size
    have F : Fr (Foot8 bl B) w W := by
      rw [hW]
      exact (Fr.of (hk.out.trans (Keep.one _ _))).set (Or.inl (Or.inl rfl)) _
    have hq2 : W.heap[bl]? = some (.cells #[.map (some w1.heap.size)] 55 (0, 0)) := by rw [hW]; exact heap_setCell_same (w1.alloc (.map #[] 0)) bl 0 _ _ (.map (some w1.heap.size)) M2.hl
    have hm : W.heap[w1.heap.size]? = some (.map #[] 0) := (hn _ (by omega)).trans (heap_alloc_new _ _)
    refine ⟨F, ⟨Foot8 bl w1.heap.size, ⟨w1.heap.size, [], ⟨hq2, (MV.is_new w1).of (hn _ (by omega)), (fun y h => by cases h), by simp, (fun y h => by cases h), M1.lo.1, ?_, M1.lo.2.2.1, ?_⟩, List.Perm.refl _, rfl⟩, ?_⟩, ?_, hg, hpm.out, hso.out⟩
    · have h1 := M1.lo.2.2.1
      have h2 := M1.lo.2.2.2
      omega
    · have h2 := M1.lo.2.2.2
      omega
    · rintro k (hk | hk)
      · exact Or.inl (Or.inl hk)
      · right; omega
    · have e : Fr (fun k => k = bl) w1 W := by
        rw [hW]
        exact Fr.set (D := fun k => k = bl) (p := ⟨bl, 0, none⟩) (Fr.of (Keep.one _ _)) (Or.inl rfl) _
      have ap : ∀ k, k = bl → ∀ T, T ≠ 55 → ¬ Kind w1 k T := by
        rintro k rfl T hT
        exact M1.foot_kind k (Or.inl rfl) T hT
      refine ⟨hR.small, fun h0 => ?_, fun j hj => ?_⟩
      · obtain ⟨b, off, eb, hc⟩ := hR.adr h0
        refine ⟨b, off, eb, fun j hj => (hc j hj).fr e (fun eb2 => ?_)⟩
        simp only [Option.some.injEq, Addr.mk.injEq, and_true] at eb
        omega
      · have hi := hR.is j hj
        refine ⟨hi.rd.fr e (fun a ha hm hd => ?_), hi.nil, hi.rng⟩
        have hr := (hq j hj).1
        have := (hr.lt a.block (by rw [ha]; rfl)).1
        omega
  replace M1 := Lib.hid M1
  replace M2 := Lib.hid M2
  replace hp := Lib.hid hp
  replace hR := Lib.hid hR
  replace hq := Lib.hid hq
  replace hz := Lib.hid hz
  replace hl := Lib.hid hl
  replace hg := Lib.hid hg
  clear cA
  go_wp2
  go_ret
  exact ⟨g, S, rfl, fin.out _ rfl⟩
set_option maxHeartbeats 1000000 in
theorem pwake_nil (w : World) : Calls Tryd.prog 21 #[.pointer none] w fun e w' => e = .returned (.slice none 0 0) ∧ w = w' := by
  go_enter Tryd.func21, Tryd.ntmps21
  go_wp2
  go_ret
  exact ⟨rfl, rfl⟩
end Go.Proofs.YtpkpmoiekjhdnaaDoor
