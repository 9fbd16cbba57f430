/-
  The walk of ParkMatchesReference. Condition: the table of names holds its own.
-/
import Derived.Test.YtpkpmoiekjhdnaaDoorPlayA8
import Derived.Test.YtpkpmoiekjhdnaaDoorPlayR8
import Derived.Test.YtpkpmoiekjhdnaaDoorPlayW8
import Derived.Test.YtpkpmoiekjhdnaaDoorAwake8
import Derived.Deep.RegionHeld3
import Derived.Deep.RegionWith
import Derived.Deep.Cut
import Derived.Deep.CutRange
import Derived.StillTailTactics
namespace Go.Proofs.YtpkpmoiekjhdnaaDoor
open Go.RowKit Go.Sort Go.Lib Go.Shelf

theorem play_fn {w : World} {b bl : Nat} {V D : Nat → Prop} {B : Option Addr} {m d : Nat} {S : Nat → PodV} {B2 : Option Addr} {d2 : Nat} {Z : Nat → Int} {L : List (PodV × Int)} (h : Side w b bl V D B m d S B2 d2 Z L) (hV : ∀ k, V k → k < w.heap.size) (hm : m ≤ 60) (K : Int) (x : PodV) (r : Int) (hx : PodIs w x) (hxr : ∀ a, x.A = some a → 0 < x.m → ¬ (D a.block ∨ V a.block)) (fx : OneF x) :
    Calls Tryd.prog 11 #[.pointer (some ⟨bl, 0, none⟩), .agg #[.slice B m d, .slice B2 m d2], .agg #[.int .i64 K, .int .i64 x.k, .int .i64 x.p, .bool x.f, .int .i64 x.g, .slice x.A x.m x.c, .int .i64 x.a, .int .i64 x.h, .int .i64 x.d, .int .i64 x.t, .int .i64 r]] w fun e w' => ∃ B' m' d' S' B2' d2' Z', e = .returned (.tuple #[.agg #[.slice B' m' d', .slice B2' m' d2'], .bool true]) ∧ m' ≤ m + 1 ∧ After w w' b bl V D B' m' d' S' B2' d2' Z' := by
  by_cases h0 : K = 0
  · rw [h0]; exact play_add h hV hm x r hx hxr fx
  by_cases h1 : K = 1
  · rw [h1]; exact play_remove h hV hm x r
  exact play_wake h hm K x r h0 h1

set_option maxRecDepth 100000 in
set_option maxHeartbeats 8000000 in
theorem matches_walk {A : Option Addr} {n c : Nat} {K : Nat → Int} {P : Nat → PodV} {R : Nat → Int} {w : World} (hR : RdOps w A n K P R) (hv : V8 w) : Calls Tryd.prog 3 #[.slice A n c] w fun e w' => e = .returned (.bool true) ∧ Keep w w' := by
  have mixed : Tryd.prog.follows .mixedOrders = true := by kernel_rfl
  have hv := Lib.hid hv
  have aw := Lib.hid awake_true
  replace hR := Lib.hid hR
  go_enter Tryd.func3, Tryd.ntmps3
  go_wp2_with fail
  refine (pnew_fn _).mono ?_
  rintro e w1 ⟨bl, rfl, k1, hQ⟩
  have hQ := Lib.hid hQ
  replace k1 := Lib.hid k1
  go_wp2_with fail
  refine (aw.out _ (hv.out.keep k1.out)).mono ?_
  rintro e w2 ⟨rfl, k2⟩
  have K2 := Lib.hid (k1.out.trans k2)
  have R2 := Lib.hid (hR.out.keep K2.out)
  have hfew : ∀ b : Bool, (b = true ↔ FewO P n) → Calls Tryd.prog 10 #[.slice A n c] w2 fun e w' => e = .returned (.bool b) ∧ Keep w2 w' := fun b hb => few8_fn A n c K P R w2 R2.out b hb
  replace hfew := Lib.hid hfew
  by_cases hf : FewO P n
  rotate_left
  · have hfew2 := Lib.hid (hfew.out false (by simp only [Bool.false_eq_true, false_iff]; exact hf))
    clear hfew
    replace hf := Lib.hid hf
    replace k2 := Lib.hid k2
    go_wp2_with fail
    refine hfew2.out.mono ?_
    rintro e w3 ⟨rfl, k3⟩
    have K3 := Lib.hid (K2.out.trans k3)
    replace k3 := Lib.hid k3
    clear hfew2
    go_wp2_with fail
    refine (aw.out _ (hv.out.keep K3.out)).mono ?_
    rintro e w4 ⟨rfl, k4⟩
    go_wp2
    go_ret
    exact ⟨rfl, K3.out.trans k4⟩
  have hfew2 := Lib.hid (hfew.out true ⟨fun _ => hf, fun _ => rfl⟩)
  clear hfew
  have hn := hf.1
  have hf := Lib.hid hf
  have k2 := Lib.hid k2
  go_wp2_with fail
  refine hfew2.out.mono ?_
  rintro e w3 ⟨rfl, k3⟩
  have K3 := Lib.hid (K2.out.trans k3)
  obtain ⟨D, Q3, hD⟩ := hQ.out w.heap.size w3 (Nat.le_refl _) (k2.out.trans k3) K3.out.size
  obtain ⟨v0, hv0⟩ : ∃ v, v = w3.heap.size := ⟨_, rfl⟩
  obtain ⟨W3, hW3⟩ : ∃ W, W = w3.alloc (.cells #[.slice none 0 0, .slice none 0 0] 30) := ⟨_, rfl⟩
  have kW3 : Keep w3 W3 := by rw [hW3]; exact Keep.one _ _
  have KW := Lib.hid (K3.out.trans kW3)
  have b0 : Hid (W3.heap[v0]? = some (.cells #[.slice none 0 0, .slice none 0 0] 30 (0, 0))) := by show _ = _; rw [hW3, hv0]; exact heap_alloc_new _ _
  have SD3 : Hid (Side W3 w.heap.size bl (fun k => k = v0) D none 0 0 (fun _ => zpod) none 0 (fun _ => 0) []) := ⟨Q3.keep kW3, nil_two _ _, List.Perm.refl _⟩
  have lo3 : Hid (∀ k, D k → w.heap.size ≤ k ∧ k ≠ v0) := fun k hk => ⟨(Q3.lo k hk).1, by have := (Q3.lo k hk).2; omega⟩
  have lv : Hid (w.heap.size ≤ v0) := by show _ ≤ _; rw [hv0]; exact K3.out.size
  replace k3 := Lib.hid k3
  replace hD := Lib.hid hD
  replace Q3 := Lib.hid Q3
  replace kW3 := Lib.hid kW3
  clear hfew2 R2
  go_wp2_with fail
  rw [← hv0, ← hW3]
  replace hv0 := Lib.hid hv0
  replace hW3 := Lib.hid hW3
  go_loopg [5, 6, 7, 8, 9, 10] n (fun gx s5 s6 _ _ _ _ wr => ∃ (i m : Nat) (B : Option Addr) (d : Nat) (S : Nat → PodV) (B2 : Option Addr) (d2 : Nat) (Z : Nat → Int) (D : Nat → Prop) (L : List (PodV × Int)), i ≤ n ∧ gx = n - i ∧ s6 = .int .i64 i ∧ s5 = .bool true ∧ m ≤ i ∧ Hid (Keep w wr) ∧ Hid (wr.heap[v0]? = some (.cells #[.slice B m d, .slice B2 m d2] 30 (0, 0))) ∧ Hid (Side wr w.heap.size bl (fun k => k = v0) D B m d S B2 d2 Z L) ∧ Hid (∀ k, D k → w.heap.size ≤ k ∧ k ≠ v0))
  case atStart => exact ⟨0, 0, none, 0, _, none, 0, _, D, [], Nat.zero_le _, rfl, rfl, rfl, Nat.le_refl _, KW, b0, SD3, lo3⟩
  case round =>
    clear SD3 lo3 KW b0
    obtain ⟨i, m, B, d, S, B2, d2, Z, D, L, hi, rfl, rfl, rfl, hmi, KR, vr, SD, lo⟩ := hrel
    by_cases hlt : i < n
    · obtain ⟨ba, off, hA, ca⟩ := hR.out.adr (by omega)
      subst hA
      have q1 := ops_at ba off n c i hlt
      obtain ⟨c0', X0, c2'⟩ := ca i hlt
      have o0 := KR.out.cell c0'
      have o10 := KR.out.cell c2'
      have Xi0 := hR.out.is i hlt
      clear ca
      obtain ⟨x, hx⟩ : ∃ x, x = P i := ⟨_, rfl⟩
      rw [← hx] at X0 Xi0
      have fx : OneF x := by rw [hx]; exact hf.out.2 i hlt
      have X := X0.keep KR.out
      have Xi := Xi0.keep KR.out
      have hxr : ∀ a, x.A = some a → 0 < x.m → ¬ (D a.block ∨ a.block = v0) := fun a ha hm hd => by
        obtain ⟨b2, o2, e2, c2⟩ := Xi0.rd.adr hm
        rw [ha] at e2
        obtain rfl := Option.some.inj e2
        have h1 : b2 < w.heap.size := cell_lt (c2 0 hm)
        simp only at hd
        rcases hd with hd | hd
        · have h2 := (lo.out _ hd).1
          omega
        · have := lv.out
          omega
      obtain ⟨Ki, hKi⟩ : ∃ z, z = K i := ⟨_, rfl⟩
      obtain ⟨Ri, hRi⟩ : ∃ z, z = R i := ⟨_, rfl⟩
      rw [← hKi] at o0
      rw [← hRi] at o10
      replace hKi := Lib.hid hKi
      replace hRi := Lib.hid hRi
      have lv0 := (Array.getElem?_eq_some_iff.1 vr.out).1
      have cP : Hid (∀ W, Keep wr W → Calls Tryd.prog 11 #[.pointer (some ⟨bl, 0, none⟩), .agg #[.slice B m d, .slice B2 m d2], .agg #[.int .i64 Ki, .int .i64 x.k, .int .i64 x.p, .bool x.f, .int .i64 x.g, .slice x.A x.m x.c, .int .i64 x.a, .int .i64 x.h, .int .i64 x.d, .int .i64 x.t, .int .i64 Ri]] W fun e w' => ∃ B' m' d' S' B2' d2' Z', e = .returned (.tuple #[.agg #[.slice B' m' d', .slice B2' m' d2'], .bool true]) ∧ m' ≤ m + 1 ∧ After wr w' w.heap.size bl (fun k => k = v0) D B' m' d' S' B2' d2' Z') := fun W k => by
        refine (play_fn (SD.out.keep k) (fun k' hk' => by have h : wr.heap.size ≤ W.heap.size := k.size; omega) (by omega) Ki x Ri (Xi.keep k) hxr fx).mono ?_
        rintro e w' ⟨B', m', d', S', B2', d2', Z', he, hm', F, D', L', sd, hd⟩
        exact ⟨B', m', d', S', B2', d2', Z', he, hm', Fr.after k F, D', L', sd, fun k' hk' => (hd k' hk').imp id fun h => Nat.le_trans k.size h⟩
      have x0 := X.e0; have x1 := X.e1; have x2 := X.e2; have x3 := X.e3; have x4 := X.e4; have x5 := X.e5; have x6 := X.e6; have x7 := X.e7; have x8 := X.e8
      simp only [Nat.add_assoc, Nat.reduceAdd] at x1 x2 x3 x4 x5 x6 x7 x8
      simp only [← Nat.add_assoc] at x1 x2 x3 x4 x5 x6 x7 x8
      have ox := X0.e0
      replace ox := Lib.hid ox
      replace hx := Lib.hid hx
      replace hxr := Lib.hid hxr
      replace X0 := Lib.hid X0
      replace Xi0 := Lib.hid Xi0
      replace Xi := Lib.hid Xi
      replace fx := Lib.hid fx
      have r0 : wr.cell? ⟨v0, 0, none⟩ = some (.slice B m d) := (cell_of_row _ _ _ _ _ _ vr.out).trans rfl
      have r1 : wr.cell? ⟨v0, 1, none⟩ = some (.slice B2 m d2) := (cell_of_row _ _ _ _ _ _ vr.out).trans rfl
      clear X c0' c2'
      go_upto_region 9 with fail
      go_cut [5] from 29 to 109 (fun s5 wx => ∃ (m' : Nat) (B' : Option Addr) (d' : Nat) (S' : Nat → PodV) (B2' : Option Addr) (d2' : Nat) (Z' : Nat → Int) (D' : Nat → Prop) (L' : List (PodV × Int)), s5 = .bool true ∧ m' ≤ i + 1 ∧ Hid (Keep w wx) ∧ Hid (wx.heap[v0]? = some (.cells #[.slice B' m' d', .slice B2' m' d2'] 30 (0, 0))) ∧ Hid (Side wx w.heap.size bl (fun k => k = v0) D' B' m' d' S' B2' d2' Z' L') ∧ Hid (∀ k, D' k → w.heap.size ≤ k ∧ k ≠ v0))
      case first =>
        go_wp2_with fail
        go_region_with (first
          | (go_at_call 11
             refine (cP.out _ (by repeat (with_reducible first | exact Keep.refl wr | apply Keep.alloc | apply Keep.drew | apply Keep.drewN))).mono ?_
             rintro e w5 ⟨B', m', d', S', B2', d2', Z', rfl, hm1, F5, D5, L5, SD5, N5⟩
             have nv : ¬ D v0 := fun h => (lo.out _ h).2 rfl
             have v5 := (F5.block _ lv0 nv).trans vr.out
             have y0 : w5.cell? ⟨v0, 0, none⟩ = some (.slice B m d) := (cell_of_row _ _ _ _ _ _ v5).trans rfl
             have y1 : w5.cell? ⟨v0, 1, none⟩ = some (.slice B2 m d2) := (cell_of_row _ _ _ _ _ _ v5).trans rfl
             have g0 : w5.frozen? ⟨v0, 0, none⟩ = false := frozen_of_row _ _ _ _ _ v5
             have g1 : w5.frozen? ⟨v0, 1, none⟩ = false := frozen_of_row _ _ _ _ _ v5
             have K5 : Hid (Keep w w5) := F5.low KR.out fun k hk => (lo.out k hk).1
             have lo5 : Hid (∀ k, D5 k → w.heap.size ≤ k ∧ k ≠ v0) := fun k hk => by
               rcases N5 k hk with h | h
               · exact lo.out k h
               · have h1 : w.heap.size ≤ wr.heap.size := KR.out.size
                 exact ⟨by omega, by omega⟩
             replace v5 := Lib.hid v5
             replace F5 := Lib.hid F5
             replace SD5 := Lib.hid SD5
             replace N5 := Lib.hid N5
             replace nv := Lib.hid nv))
        all_goals
          go_wp2
          go_meet
          case rel =>
            have FW : Fr (fun k => k = v0) w5 ((w5.setCell ⟨v0, 0, none⟩ (.slice B' m' d')).setCell ⟨v0, 1, none⟩ (.slice B2' m' d2')) := Fr.set (D := fun k => k = v0) (p := ⟨v0, 1, none⟩) (Fr.set (D := fun k => k = v0) (p := ⟨v0, 0, none⟩) (Fr.refl _ _) (Or.inl rfl) _) (Or.inl rfl) _
            have h1 : (w5.setCell ⟨v0, 0, none⟩ (.slice B' m' d')).heap[v0]? = some (.cells #[.slice B' m' d', .slice B2 m d2] 30 (0, 0)) := heap_setCell_same w5 v0 0 _ _ (.slice B' m' d') v5.out
            have h2 : ((w5.setCell ⟨v0, 0, none⟩ (.slice B' m' d')).setCell ⟨v0, 1, none⟩ (.slice B2' m' d2')).heap[v0]? = some (.cells #[.slice B' m' d', .slice B2' m' d2'] 30 (0, 0)) := heap_setCell_same _ v0 1 _ _ (.slice B2' m' d2') h1
            exact ⟨m', B', d', S', B2', d2', Z', D5, L5, rfl, by omega, FW.low K5.out fun k hk => by rw [hk]; exact lv.out, h2, ⟨SD5.out.q.other (fun h => (lo5.out _ h).2 rfl) ⟨_, _, v5.out⟩ (by decide) FW, SD5.out.two.fr ((Fr.refl (fun k => D5 k ∨ k = v0) w5).trans FW fun k hk => Or.inl (Or.inr hk)) fun k hk => Or.inl hk, SD5.out.perm⟩, lo5⟩
      case rest =>
      clear cP x0 x1 x2 x3 x4 x5 x6 x7 x8 o0 o10 r0 r1 lv0 SD vr lo
      obtain ⟨m', B', d', S', B2', d2', Z', D', L', rfl, hm1, K5, v5, SD, lo⟩ := hcut
      have o1 := K5.out.cell ox.out
      have hkeys := SD.out.q.keys
      rw [← pods_keys] at hkeys
      replace hkeys := Lib.hid hkeys
      have el := SD.out.len
      have cA : Hid (∀ W, Keep wc W → Calls Tryd.prog 13 #[.pointer (some ⟨bl, 0, none⟩)] W fun e w7 => ∃ (g : Nat) (T : Nat → PodV), e = .returned (.slice (some ⟨g, 0, none⟩) m' m') ∧ Keep W w7 ∧ RdPods w7 (some ⟨g, 0, none⟩) m' T ∧ ((lst T m').map nm).Perm (podsE L') ∧ ((lst T m').map nm).Pairwise leP) := fun W k => by
        have h := pall_fn (SD.out.q.keep k)
        rw [el] at h
        refine h.mono ?_
        rintro e w7 ⟨v, T, rfl, AL⟩
        obtain ⟨k7, ⟨g, rfl, _, _, _, RT, _⟩, pT, sT⟩ := AL
        exact ⟨g, T, rfl, k7, RT, pT, sT⟩
      have cL : Hid (∀ W, Keep wc W → Calls Tryd.prog 14 #[.agg #[.slice B' m' d', .slice B2' m' d2']] W fun e w' => ∃ B3 d3 T, e = .returned (.slice B3 m' d3) ∧ Keep W w' ∧ RdPods w' B3 m' T ∧ ((lst T m').map nm).Perm (podsE L') ∧ ((lst T m').map nm).Pairwise leP) := fun W k => by
        have T2 := SD.out.two.keep k
        refine (rall8_fn B' m' d' S' (.slice B2' m' d2') W T2.src.rd (by omega) (fun j hj => ⟨(T2.few j hj).1, (T2.few j hj).2.1⟩)).mono ?_
        rintro e w' ⟨B3, d3, T, rfl, k', rd', p', s'⟩
        exact ⟨B3, d3, T, rfl, k', rd', p'.trans SD.out.pods, s'⟩
      have SS : Hid (∀ W : World, Keep wc W → W.cell? ⟨v0, 0, none⟩ = some (.slice B' m' d') ∧ W.cell? ⟨v0, 1, none⟩ = some (.slice B2' m' d2')) := fun W k => ⟨(cell_of_row _ _ _ _ _ _ (k.block v5.out)).trans rfl, (cell_of_row _ _ _ _ _ _ (k.block v5.out)).trans rfl⟩
      obtain ⟨r0, r1⟩ := SS.out wc (Keep.refl _)
      replace el := Lib.hid el
      go_wp2_with fail
      go_region_held3 (fun w' => w'.cell? ⟨v0, 0, none⟩ = some (.slice B' m' d') ∧ w'.cell? ⟨v0, 1, none⟩ = some (.slice B2' m' d2'))
        (first
          | exact SS.out _ K9.out
          | exact SS.out _ K8.out
          | exact SS.out _ K7.out
          | exact SS.out _ (by repeat (with_reducible first | exact Keep.refl wc | apply Keep.alloc | apply Keep.drew | apply Keep.drewN)))
        (first
          | (go_at_call 13
             refine (cA.out _ (by repeat (with_reducible first | exact Keep.refl wc | apply Keep.alloc | apply Keep.drew | apply Keep.drewN))).mono ?_
             rintro e w7 ⟨g, T, rfl, k7, R7, P7, O7⟩
             have K7 : Hid (Keep wc w7) := Keep.trans (by repeat (with_reducible first | exact Keep.refl wc | apply Keep.alloc | apply Keep.drew | apply Keep.drewN)) k7
             replace k7 := Lib.hid k7
             replace R7 := Lib.hid R7
             replace P7 := Lib.hid P7
             replace O7 := Lib.hid O7)
          | (go_at_call 14
             refine (cL.out _ (K7.out.trans (by repeat (with_reducible first | exact Keep.refl w7 | apply Keep.alloc | apply Keep.drew | apply Keep.drewN)))).mono ?_
             rintro e w8 ⟨B3, d3, T3, rfl, k8, R8, P8, O8⟩
             have k78 : Hid (Keep w7 w8) := Keep.trans (by repeat (with_reducible first | exact Keep.refl w7 | apply Keep.alloc | apply Keep.drew | apply Keep.drewN)) k8
             have K8 : Hid (Keep wc w8) := K7.out.trans k78.out
             have cS := Lib.hid (fun W (k : Keep w8 W) => rsame6_fn (some ⟨g, 0, none⟩) B3 m' m' d3 T T3 W ((R7.out.keep k78.out).keep k) (R8.keep k) (both_same P7.out O7.out P8 O8 hkeys.out).2)
             replace k8 := Lib.hid k8
             replace R8 := Lib.hid R8
             replace P8 := Lib.hid P8
             replace O8 := Lib.hid O8)
          | (go_at_call 12
             refine (cS.out _ (by repeat (with_reducible first | exact Keep.refl w8 | apply Keep.alloc | apply Keep.drew | apply Keep.drewN))).mono ?_
             rintro e w9 ⟨rfl, k9⟩
             have K9 : Hid (Keep wc w9) := K8.out.trans (Keep.trans (by repeat (with_reducible first | exact Keep.refl w8 | apply Keep.alloc | apply Keep.drew | apply Keep.drewN)) k9)
             replace k9 := Lib.hid k9))
      clear K7 K8 cS
      have o2 := K9.out.cell o1
      obtain ⟨u0, u1⟩ := SS.out w9 K9.out
      have SD9 := SD.out.keep K9.out
      have KW9 : Hid (Keep w w9) := K5.out.trans K9.out
      have v59 := Lib.hid (K9.out.block v5.out)
      clear cA cL o1 r0 r1
      have cnts : Hid (∀ W, Keep w9 W → ∀ q : Int, Calls Tryd.prog 17 #[.pointer (some ⟨bl, 0, none⟩), .int .i64 q] W fun e w' => e = .returned (.int .i64 (cntE q L' : Nat)) ∧ Keep W w') := fun W k q => pcount_fn (SD9.q.keep k) q
      have rcnts : Hid (∀ W, Keep w9 W → ∀ q : Int, Calls Tryd.prog 18 #[.agg #[.slice B' m' d', .slice B2' m' d2'], .int .i64 q] W fun e w' => e = .returned (.int .i64 (cntE q L' : Nat)) ∧ Keep W w') := fun W k q => by
        have h := rcount8_fn B2' m' d2' Z' (.slice B' m' d') q W ((SD9.two.keep k).rs) (by omega)
        rw [SD9.cnt q] at h
        exact h
      have hcl : Hid (∀ q : Int, cntE q L' ≤ 61) := fun q => by
        have h1 := cnt_le q L'
        have h2 := SD9.len
        omega
      have SS9 : Hid (∀ W : World, Keep w9 W → W.cell? ⟨v0, 0, none⟩ = some (.slice B' m' d') ∧ W.cell? ⟨v0, 1, none⟩ = some (.slice B2' m' d2')) := fun W k => SS.out W (K9.out.trans k)
      have cF : Hid (∀ W, Keep w9 W → Calls Tryd.prog 16 #[.slice B' m' d', .int .i64 x.k] W fun e w' => e = .returned (.int .i64 (findN S' x.k m')) ∧ W = w') := fun W k => rfind_fn B' m' d' S' x.k W ((SD9.two.keep k).src.rd)
      by_cases hf0 : 0 ≤ findN S' x.k m'
      · obtain ⟨j, hj, ej, hjk⟩ := find_lt hf0
        rw [ej] at cF
        have cR := Lib.hid (preason_fn SD9.q x.k (Z' j) true (fun _ => ⟨(nm (S' j), Z' j), SD9.at_ hj, hjk, rfl⟩) (fun h => by cases h))
        obtain ⟨bz, oz, hB2, hcz⟩ := SD9.two.rs.adr (by omega)
        subst hB2
        have z0 := hcz j hj
        have q2 := ints_at bz oz m' d2' j hj
        obtain ⟨zj, hzj⟩ : ∃ z, z = Z' j := ⟨_, rfl⟩
        rw [← hzj] at z0 cR
        replace hzj := Lib.hid hzj
        replace SD9 := Lib.hid SD9
        replace hf0 := Lib.hid hf0
        replace hjk := Lib.hid hjk
        replace ej := Lib.hid ej
        clear hcz
        go_wp2_with fail
        refine cR.out.mono ?_
        rintro e wa ⟨rfl, ka⟩
        have Ka := Lib.hid ka
        obtain ⟨t0, t1⟩ := SS9.out wa ka
        have o3 := ka.cell o2
        have z1 := ka.cell z0
        replace ka := Lib.hid ka
        clear cR
        go_wp2_with fail
        go_still_tail 8, (by kernel_rfl)
        change wpList _ _ _ _ _ wa.drew
        have cF2 := Lib.hid (cF.out wa.drew Ka.out.drew)
        go_wp2_with fail
        refine cF2.out.mono ?_
        rintro e wb' ⟨rfl, rfl⟩
        clear cF2 cF
        have Kb : Hid (Keep w9 wa.drew) := Ka.out.drew
        have s1 : wa.drew.cell? ⟨v0, 1, none⟩ = some (.slice (some ⟨bz, oz, none⟩) m' d2') := t1
        have z2 : wa.drew.cell? ⟨bz, oz + j, none⟩ = some (.int .i64 zj) := z1
        clear z1 z0
        clear t0 t1 o2 o3 u0 u1
        generalize wa.drew = wb at *
        go_wp2
        go_loopg [10] 7 (fun gx s10 wx => ∃ t : Nat, t ≤ 7 ∧ gx = 7 - t ∧ s10 = .int .i64 ((t : Int) - 1) ∧ Hid (Keep w9 wx))
        case atStart => exact ⟨0, by omega, rfl, rfl, Kb⟩
        case round =>
          clear Kb s1
          obtain ⟨t, ht, rfl, rfl, KX⟩ := hrel
          obtain ⟨r0, r1⟩ := SS9.out wr KX.out
          by_cases h7 : t < 7
          · have hle : (t : Int) - 1 ≤ 5 := by omega
            have hnx : (t : Int) - 1 + 1 = ((t + 1 : Nat) : Int) - 1 := by omega
            have hcq := hcl.out ((t : Int) - 1)
            have cn := fun W (k : Keep wr W) => cnts.out W (KX.out.trans k) ((t : Int) - 1)
            have rn := fun W (k : Keep wr W) => rcnts.out W (KX.out.trans k) ((t : Int) - 1)
            generalize cntE ((t : Int) - 1) L' = cq at cn rn hcq
            replace cn := Lib.hid cn
            replace rn := Lib.hid rn
            replace hnx := Lib.hid hnx
            go_wp2_with fail
            go_region_held3 (fun w' => w'.cell? ⟨v0, 0, none⟩ = some (.slice B' m' d') ∧ w'.cell? ⟨v0, 1, none⟩ = some (.slice (some ⟨bz, oz, none⟩) m' d2'))
              (first
                | exact SS9.out _ (KX.out.trans k2'.out)
                | exact SS9.out _ (KX.out.trans k1'.out)
                | exact SS9.out _ (KX.out.trans (by repeat (with_reducible first | exact Keep.refl wr | apply Keep.alloc | apply Keep.drew | apply Keep.drewN))))
              (first
                | (go_at_call 17
                   refine (cn.out _ (by repeat (with_reducible first | exact Keep.refl wr | apply Keep.alloc | apply Keep.drew | apply Keep.drewN))).mono ?_
                   rintro e wc1 ⟨rfl, kc⟩
                   have k1' : Hid (Keep wr wc1) := Keep.trans (by repeat (with_reducible first | exact Keep.refl wr | apply Keep.alloc | apply Keep.drew | apply Keep.drewN)) kc
                   replace kc := Lib.hid kc)
                | (go_at_call 18
                   refine (rn.out _ (k1'.out.trans (by repeat (with_reducible first | exact Keep.refl wc1 | apply Keep.alloc | apply Keep.drew | apply Keep.drewN)))).mono ?_
                   rintro e wc2 ⟨rfl, kd⟩
                   have k2' : Hid (Keep wr wc2) := k1'.out.trans (Keep.trans (by repeat (with_reducible first | exact Keep.refl wc1 | apply Keep.alloc | apply Keep.drew | apply Keep.drewN)) kd)
                   replace kd := Lib.hid kd))
            all_goals
              go_wp2
              go_roundg (7 - (t + 1))
              case measure => omega
              case rel => exact ⟨t + 1, by omega, rfl, by first | rfl | go_num | rw [hnx.out], KX.out.trans k2'.out⟩
          · obtain rfl : t = 7 := by omega
            go_wp2
            go_roundg (n - (i + 1))
            case measure => omega
            case rel => exact ⟨i + 1, m', B', d', S', (some ⟨bz, oz, none⟩), d2', Z', D', L', by omega, rfl, by first | rfl | go_num, rfl, by omega, KW9.out.trans KX.out, KX.out.block v59.out, SD9.out.keep KX.out, lo⟩
      · have hfn := find_neg hf0
        rw [hfn] at cF
        have cR := Lib.hid (preason_fn SD9.q x.k 0 false (fun h => by cases h) (fun _ => ⟨fun h => hf0 ((SD9.find x.k).2 h), rfl⟩))
        replace SD9 := Lib.hid SD9
        replace hf0 := Lib.hid hf0
        replace hfn := Lib.hid hfn
        go_wp2_with fail
        refine cR.out.mono ?_
        rintro e wa ⟨rfl, ka⟩
        have Ka := Lib.hid ka
        obtain ⟨t0, t1⟩ := SS9.out wa ka
        have o3 := ka.cell o2
        replace ka := Lib.hid ka
        clear cR
        go_wp2_with fail
        go_still_tail 8, (by kernel_rfl)
        change wpList _ _ _ _ _ wa.drew
        have cF2 := Lib.hid (cF.out wa.drew Ka.out.drew)
        go_wp2_with fail
        refine cF2.out.mono ?_
        rintro e wb' ⟨rfl, rfl⟩
        clear cF2 cF
        have Kb : Hid (Keep w9 wa.drew) := Ka.out.drew
        have s1 : wa.drew.cell? ⟨v0, 1, none⟩ = some (.slice B2' m' d2') := t1
        clear t0 t1 o2 o3 u0 u1
        generalize wa.drew = wb at *
        go_wp2
        go_loopg [10] 7 (fun gx s10 wx => ∃ t : Nat, t ≤ 7 ∧ gx = 7 - t ∧ s10 = .int .i64 ((t : Int) - 1) ∧ Hid (Keep w9 wx))
        case atStart => exact ⟨0, by omega, rfl, rfl, Kb⟩
        case round =>
          clear Kb s1
          obtain ⟨t, ht, rfl, rfl, KX⟩ := hrel
          obtain ⟨r0, r1⟩ := SS9.out wr KX.out
          by_cases h7 : t < 7
          · have hle : (t : Int) - 1 ≤ 5 := by omega
            have hnx : (t : Int) - 1 + 1 = ((t + 1 : Nat) : Int) - 1 := by omega
            have hcq := hcl.out ((t : Int) - 1)
            have cn := fun W (k : Keep wr W) => cnts.out W (KX.out.trans k) ((t : Int) - 1)
            have rn := fun W (k : Keep wr W) => rcnts.out W (KX.out.trans k) ((t : Int) - 1)
            generalize cntE ((t : Int) - 1) L' = cq at cn rn hcq
            replace cn := Lib.hid cn
            replace rn := Lib.hid rn
            replace hnx := Lib.hid hnx
            go_wp2_with fail
            go_region_held3 (fun w' => w'.cell? ⟨v0, 0, none⟩ = some (.slice B' m' d') ∧ w'.cell? ⟨v0, 1, none⟩ = some (.slice B2' m' d2'))
              (first
                | exact SS9.out _ (KX.out.trans k2'.out)
                | exact SS9.out _ (KX.out.trans k1'.out)
                | exact SS9.out _ (KX.out.trans (by repeat (with_reducible first | exact Keep.refl wr | apply Keep.alloc | apply Keep.drew | apply Keep.drewN))))
              (first
                | (go_at_call 17
                   refine (cn.out _ (by repeat (with_reducible first | exact Keep.refl wr | apply Keep.alloc | apply Keep.drew | apply Keep.drewN))).mono ?_
                   rintro e wc1 ⟨rfl, kc⟩
                   have k1' : Hid (Keep wr wc1) := Keep.trans (by repeat (with_reducible first | exact Keep.refl wr | apply Keep.alloc | apply Keep.drew | apply Keep.drewN)) kc
                   replace kc := Lib.hid kc)
                | (go_at_call 18
                   refine (rn.out _ (k1'.out.trans (by repeat (with_reducible first | exact Keep.refl wc1 | apply Keep.alloc | apply Keep.drew | apply Keep.drewN)))).mono ?_
                   rintro e wc2 ⟨rfl, kd⟩
                   have k2' : Hid (Keep wr wc2) := k1'.out.trans (Keep.trans (by repeat (with_reducible first | exact Keep.refl wc1 | apply Keep.alloc | apply Keep.drew | apply Keep.drewN)) kd)
                   replace kd := Lib.hid kd))
            all_goals
              go_wp2
              go_roundg (7 - (t + 1))
              case measure => omega
              case rel => exact ⟨t + 1, by omega, rfl, by first | rfl | go_num | rw [hnx.out], KX.out.trans k2'.out⟩
          · obtain rfl : t = 7 := by omega
            go_wp2
            go_roundg (n - (i + 1))
            case measure => omega
            case rel => exact ⟨i + 1, m', B', d', S', B2', d2', Z', D', L', by omega, rfl, by first | rfl | go_num, rfl, by omega, KW9.out.trans KX.out, KX.out.block v59.out, SD9.out.keep KX.out, lo⟩
    · obtain rfl : i = n := by omega
      go_wp2
      go_ret
      exact ⟨rfl, KR.out⟩
end Go.Proofs.YtpkpmoiekjhdnaaDoor
