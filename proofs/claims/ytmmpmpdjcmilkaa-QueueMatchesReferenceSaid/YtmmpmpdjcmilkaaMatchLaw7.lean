/-
  The walk of QueueMatchesReference. No condition.
-/
import Derived.Test.YtmmpmpdjcmilkaaRem7
import Derived.Deep.RegionHeld3
namespace Go.Proofs.Ytmmpmpdjcmilkaa
open Go.RowKit Go.Sort Go.Lib Go.Shelf

theorem play_fn {w : World} {b bq : Nat} {D : Nat → Prop} {B : Option Addr} {m d : Nat} {S : Nat → PodV} {L : List PodV} (h : Side w b bq D B m d S L) (hm : m ≤ 60) (K : Int) (x : PodV) (hx : PodIs w x) (hxr : ∀ a, x.A = some a → 0 < x.m → ¬ D a.block) (fx : OneF x) :
    Calls Try.prog 11 #[.pointer (some ⟨bq, 0, none⟩), .slice B m d, .agg #[.int .i64 K, .int .i64 x.k, .int .i64 x.p, .bool x.f, .int .i64 x.g, .slice x.A x.m x.c, .int .i64 x.a, .int .i64 x.h, .int .i64 x.d, .int .i64 x.t]] w fun e w' => ∃ B' m' d' S', e = .returned (.tuple #[.slice B' m' d', .bool true]) ∧ m' ≤ m + 1 ∧ After w w' b bq D B' m' d' S' := by
  by_cases h0 : K = 0
  · rw [h0]; exact play_push h hm x hx hxr fx
  by_cases h1 : K = 1
  · rw [h1]; exact play_pop h hm x hx hxr fx
  by_cases h2 : K = 2
  · rw [h2]; exact play_peek h hm x hx hxr fx
  exact play_remove h hm K x hx hxr fx ⟨h0, h1, h2⟩

set_option maxRecDepth 100000 in
set_option maxHeartbeats 8000000 in
theorem matches_walk (A : Option Addr) (n c : Nat) (K : Nat → Int) (P : Nat → PodV) (w : World) (hR : RdOps w A n K P) : Calls Try.prog 3 #[.slice A n c] w fun e w' => e = .returned (.bool true) ∧ Keep w w' := by
  have mixed : Try.prog.follows .mixedOrders = true := by kernel_rfl
  have aw := Lib.hid awake_true
  replace hR := Lib.hid hR
  go_enter Try.func3, Try.ntmps3
  go_wp2_with fail
  refine (qnew_fn _).mono ?_
  rintro e w1 ⟨bq, rfl, k1, hQ⟩
  have hQ := Lib.hid hQ
  replace k1 := Lib.hid k1
  go_wp2_with fail
  refine (aw.out _).mono ?_
  rintro e w2 ⟨rfl, k2⟩
  have K2 := Lib.hid (k1.out.trans k2)
  have R2 := Lib.hid (hR.out.keep K2.out)
  replace k2 := Lib.hid k2
  have hfew : ∀ b : Bool, (b = true ↔ FewO P n) → Calls Try.prog 10 #[.slice A n c] w2 fun e w' => e = .returned (.bool b) ∧ Keep w2 w' := fun b hb => few7_fn A n c K P w2 R2.out b hb
  replace hfew := Lib.hid hfew
  by_cases hf : FewO P n
  rotate_left
  · have hfew2 := Lib.hid (hfew.out false (by simp only [Bool.false_eq_true, false_iff]; exact hf))
    clear hfew
    replace hf := Lib.hid hf
    go_wp2_with fail
    refine hfew2.out.mono ?_
    rintro e w3 ⟨rfl, k3⟩
    have K3 := Lib.hid (K2.out.trans k3)
    replace k3 := Lib.hid k3
    clear hfew2
    go_wp2_with fail
    refine (aw.out _).mono ?_
    rintro e w4 ⟨rfl, k4⟩
    go_wp2
    go_ret
    exact ⟨rfl, K3.out.trans k4⟩
  have hfew2 := Lib.hid (hfew.out true ⟨fun _ => hf, fun _ => rfl⟩)
  clear hfew
  have hn := hf.1
  have hf := Lib.hid hf
  go_wp2_with fail
  refine hfew2.out.mono ?_
  rintro e w3 ⟨rfl, k3⟩
  have K3 := Lib.hid (K2.out.trans k3)
  obtain ⟨D, Q3, hD⟩ := hQ.out w.heap.size w3 (Nat.le_refl _) (k2.out.trans k3) K3.out.size
  have SD3 : Hid (Side w3 w.heap.size bq D none 0 0 (fun _ => zpod) []) := ⟨Q3, ⟨RdPods.nil _ _ _, fun _ _ _ h => absurd h (Nat.lt_irrefl _), fun _ h => absurd h (Nat.not_lt_zero _)⟩, List.Perm.refl _, List.Pairwise.nil, fun _ => ⟨rfl, rfl⟩, Nat.le_refl _, fun _ h => absurd h (Nat.not_lt_zero _)⟩
  have lo3 : Hid (∀ k, D k → w.heap.size ≤ k) := fun k hk => (Q3.lo k hk).1
  replace k3 := Lib.hid k3
  replace hD := Lib.hid hD
  replace Q3 := Lib.hid Q3
  clear hfew2 R2
  go_wp2
  go_loopg [4, 5, 6] n (fun gx s4 s5 s6 wr => ∃ (i m : Nat) (B : Option Addr) (d : Nat) (S : Nat → PodV) (D : Nat → Prop) (L : List PodV), i ≤ n ∧ gx = n - i ∧ s6 = .int .i64 i ∧ s5 = .bool true ∧ s4 = .slice B m d ∧ m ≤ i ∧ Hid (Keep w wr) ∧ Hid (Side wr w.heap.size bq D B m d S L) ∧ Hid (∀ k, D k → w.heap.size ≤ k))
  case atStart => exact ⟨0, 0, none, 0, _, D, [], Nat.zero_le _, rfl, rfl, rfl, rfl, Nat.le_refl _, K3, SD3, lo3⟩
  case round =>
    clear SD3 lo3 K3
    obtain ⟨i, m, B, d, S, D, L, hi, rfl, rfl, rfl, rfl, hmi, KR, SD, lo⟩ := hrel
    by_cases hlt : i < n
    · obtain ⟨ba, off, hA, ca⟩ := hR.out.adr (by omega)
      subst hA
      have q1 := ops_at ba off n c i hlt
      have o0 := KR.out.cell (ca i hlt).1
      have X0 := (ca i hlt).2
      have Xi0 := hR.out.is i hlt
      clear ca
      obtain ⟨x, hx⟩ : ∃ x, x = P i := ⟨_, rfl⟩
      rw [← hx] at X0 Xi0
      have fx : OneF x := by rw [hx]; exact hf.out.2 i hlt
      have X := X0.keep KR.out
      have Xi := Xi0.keep KR.out
      have hxr : ∀ a, x.A = some a → 0 < x.m → ¬ D a.block := fun a ha hm hd => by
        obtain ⟨b2, o2, e2, c2⟩ := Xi0.rd.adr hm
        rw [ha] at e2
        have e3 := Option.some.inj e2
        have h1 : b2 < w.heap.size := cell_lt (c2 0 hm)
        have h2 := lo.out _ hd
        rw [e3] at h2
        simp only at h2
        omega
      obtain ⟨Ki, hKi⟩ : ∃ z, z = K i := ⟨_, rfl⟩
      rw [← hKi] at o0
      replace hKi := Lib.hid hKi
      have cP := Lib.hid (play_fn SD.out (by omega) Ki x Xi hxr fx)
      have x0 := X.e0; have x1 := X.e1; have x2 := X.e2; have x3 := X.e3; have x4 := X.e4; have x5 := X.e5; have x6 := X.e6; have x7 := X.e7; have x8 := X.e8
      simp only [Nat.add_assoc, Nat.reduceAdd] at x1 x2 x3 x4 x5 x6 x7 x8
      simp only [← Nat.add_assoc] at x1 x2 x3 x4 x5 x6 x7 x8
      have ox := X0.e0
      replace ox := Lib.hid ox
      replace hx := Lib.hid hx
      replace hxr := Lib.hid hxr
      replace X0 := Lib.hid X0
      replace Xi0 := Lib.hid Xi0
      replace Xi := Lib.hid Xi
      replace fx := Lib.hid fx
      clear X
      go_wp2_with fail
      refine cP.out.mono ?_
      rintro e w5 ⟨B', m', d', S', rfl, hm1, F5, D5, L5, SD5, N5⟩
      clear cP x0 x1 x2 x3 x4 x5 x6 x7 x8 o0
      have K5 : Hid (Keep w w5) := F5.low KR.out lo.out
      have lo5 : Hid (∀ k, D5 k → w.heap.size ≤ k) := fun k hk => by
        rcases N5 k hk with h | h
        · exact lo.out k h
        · exact Nat.le_trans KR.out.size h
      have o1 := K5.out.cell ox.out
      have el := SD5.len
      have hkeys := SD5.q.keys
      have cL : Hid (∀ W, Keep w5 W → Calls Try.prog 12 #[.pointer (some ⟨bq, 0, none⟩)] W fun e w' => e = .returned (.int .i64 m') ∧ W = w') := fun W k => by
        have := qlen_fn (SD5.q.keep k)
        rwa [el] at this
      have cA : Hid (∀ W, Keep w5 W → Calls Try.prog 14 #[.pointer (some ⟨bq, 0, none⟩)] W fun e w7 => ∃ (g : Nat) (_ : Nat → PodV), e = .returned (.slice (some ⟨g, 0, none⟩) m' m') ∧ Keep W w7 ∧ ∀ W', Keep w7 W' → Calls Try.prog 13 #[.slice (some ⟨g, 0, none⟩) m' m', .slice B' m' d'] W' fun e w8 => e = .returned (.bool true) ∧ Keep W' w8) := fun W k => by
        refine (qall_fn (SD5.q.keep k)).mono ?_
        rintro e w7 ⟨v, T, rfl, AL⟩
        obtain ⟨k7, ⟨g, rfl, _, _, _, RT, _⟩, pT, sT⟩ := AL
        rw [el] at RT pT sT ⊢
        have same := both_same pT sT SD5.perm SD5.sort hkeys
        exact ⟨g, T, rfl, k7, fun W' kW' => rsame6_fn (some ⟨g, 0, none⟩) B' m' m' d' T S' W' (RT.keep kW') ((SD5.src.rd.keep k).keep (k7.trans kW')) same.2⟩
      obtain ⟨r, hr⟩ : ∃ r, r = findN S' x.k m' := ⟨_, rfl⟩
      have hfk : 0 ≤ r ↔ x.k ∈ L5.map (·.k) := by rw [hr]; exact find_keys SD5.perm
      have cF : Hid (∀ W, Keep w5 W → Calls Try.prog 16 #[.slice B' m' d', .int .i64 x.k] W fun e w' => e = .returned (.int .i64 r) ∧ W = w') := fun W k => by
        rw [hr]
        exact rfind_fn B' m' d' S' x.k W (SD5.src.rd.keep k)
      have cHb : ∀ W, Keep w5 W → ∀ b : Bool, (b = true ↔ 0 ≤ r) → Calls Try.prog 15 #[.pointer (some ⟨bq, 0, none⟩), .int .i64 x.k] W fun e w' => e = .returned (.bool b) ∧ W = w' := fun W k b hb => qhas_fn (SD5.q.keep k) x.k b (hb.trans hfk)
      replace hr := Lib.hid hr
      replace hfk := Lib.hid hfk
      replace hkeys := Lib.hid hkeys
      replace el := Lib.hid el
      replace F5 := Lib.hid F5
      replace SD5 := Lib.hid SD5
      replace N5 := Lib.hid N5
      replace KR := Lib.hid KR.out
      by_cases h0 : 0 ≤ r
      · have cH : Hid (∀ W, Keep w5 W → Calls Try.prog 15 #[.pointer (some ⟨bq, 0, none⟩), .int .i64 x.k] W fun e w' => e = .returned (.bool true) ∧ W = w') := fun W k => cHb W k true ⟨fun _ => h0, fun _ => rfl⟩
        clear cHb
        go_wp2_with fail
        go_region_held3 (fun w' => w'.cell? ⟨ba, off + i * 10 + 1, none⟩ = some (.int .i64 x.k))
          ((refine (fun (KK : Keep w5 _) => KK.cell o1) ?_; repeat (with_reducible first | exact Keep.refl w5 | apply Keep.alloc | apply Keep.drew | apply Keep.drewN | (refine Keep.trans ?_ k7.out) | (refine Keep.trans ?_ k8.out))))
          (first
            | (go_at_call 12; refine (cL.out _ (by repeat (with_reducible first | exact Keep.refl w5 | apply Keep.alloc | apply Keep.drew | apply Keep.drewN | (refine Keep.trans ?_ k7.out) | (refine Keep.trans ?_ k8.out)))).mono ?_; rintro e w6 ⟨rfl, rfl⟩)
            | (go_at_call 14; refine (cA.out _ (by repeat (with_reducible first | exact Keep.refl w5 | apply Keep.alloc | apply Keep.drew | apply Keep.drewN | (refine Keep.trans ?_ k7.out) | (refine Keep.trans ?_ k8.out)))).mono ?_; rintro e w7 ⟨g, T, rfl, k7, cSm⟩; replace k7 := Lib.hid k7; replace cSm := Lib.hid cSm)
            | (go_at_call 13; refine (cSm.out _ (by repeat (with_reducible first | exact Keep.refl w7 | apply Keep.drew | apply Keep.drewN))).mono ?_; rintro e w8 ⟨rfl, k8⟩; replace k8 := Lib.hid k8)
            | (go_at_call 15; refine (cH.out _ (by repeat (with_reducible first | exact Keep.refl w5 | apply Keep.alloc | apply Keep.drew | apply Keep.drewN | (refine Keep.trans ?_ k7.out) | (refine Keep.trans ?_ k8.out)))).mono ?_; rintro e w9 ⟨rfl, rfl⟩)
            | (go_at_call 16; refine (cF.out _ (by repeat (with_reducible first | exact Keep.refl w5 | apply Keep.alloc | apply Keep.drew | apply Keep.drewN | (refine Keep.trans ?_ k7.out) | (refine Keep.trans ?_ k8.out)))).mono ?_; rintro e wa ⟨rfl, rfl⟩))
        all_goals
          go_wp2
          go_roundg (n - (i + 1))
          case measure => omega
          case rel => exact ⟨i + 1, m', B', d', S', D5, L5, by omega, rfl, by go_num, rfl, rfl, by omega, K5.out.trans (by repeat (with_reducible first | exact Keep.refl w5 | apply Keep.alloc | apply Keep.drew | apply Keep.drewN | (refine Keep.trans ?_ k7.out) | (refine Keep.trans ?_ k8.out))), Side.keep SD5.out (by repeat (with_reducible first | exact Keep.refl w5 | apply Keep.alloc | apply Keep.drew | apply Keep.drewN | (refine Keep.trans ?_ k7.out) | (refine Keep.trans ?_ k8.out))), lo5⟩
      · have cH : Hid (∀ W, Keep w5 W → Calls Try.prog 15 #[.pointer (some ⟨bq, 0, none⟩), .int .i64 x.k] W fun e w' => e = .returned (.bool false) ∧ W = w') := fun W k => cHb W k false (by simp only [Bool.false_eq_true, false_iff]; exact h0)
        clear cHb
        have h0' : r < 0 := by omega
        go_wp2_with fail
        go_region_held3 (fun w' => w'.cell? ⟨ba, off + i * 10 + 1, none⟩ = some (.int .i64 x.k))
          ((refine (fun (KK : Keep w5 _) => KK.cell o1) ?_; repeat (with_reducible first | exact Keep.refl w5 | apply Keep.alloc | apply Keep.drew | apply Keep.drewN | (refine Keep.trans ?_ k7.out) | (refine Keep.trans ?_ k8.out))))
          (first
            | (go_at_call 12; refine (cL.out _ (by repeat (with_reducible first | exact Keep.refl w5 | apply Keep.alloc | apply Keep.drew | apply Keep.drewN | (refine Keep.trans ?_ k7.out) | (refine Keep.trans ?_ k8.out)))).mono ?_; rintro e w6 ⟨rfl, rfl⟩)
            | (go_at_call 14; refine (cA.out _ (by repeat (with_reducible first | exact Keep.refl w5 | apply Keep.alloc | apply Keep.drew | apply Keep.drewN | (refine Keep.trans ?_ k7.out) | (refine Keep.trans ?_ k8.out)))).mono ?_; rintro e w7 ⟨g, T, rfl, k7, cSm⟩; replace k7 := Lib.hid k7; replace cSm := Lib.hid cSm)
            | (go_at_call 13; refine (cSm.out _ (by repeat (with_reducible first | exact Keep.refl w7 | apply Keep.drew | apply Keep.drewN))).mono ?_; rintro e w8 ⟨rfl, k8⟩; replace k8 := Lib.hid k8)
            | (go_at_call 15; refine (cH.out _ (by repeat (with_reducible first | exact Keep.refl w5 | apply Keep.alloc | apply Keep.drew | apply Keep.drewN | (refine Keep.trans ?_ k7.out) | (refine Keep.trans ?_ k8.out)))).mono ?_; rintro e w9 ⟨rfl, rfl⟩)
            | (go_at_call 16; refine (cF.out _ (by repeat (with_reducible first | exact Keep.refl w5 | apply Keep.alloc | apply Keep.drew | apply Keep.drewN | (refine Keep.trans ?_ k7.out) | (refine Keep.trans ?_ k8.out)))).mono ?_; rintro e wa ⟨rfl, rfl⟩))
        all_goals
          go_wp2
          go_roundg (n - (i + 1))
          case measure => omega
          case rel => exact ⟨i + 1, m', B', d', S', D5, L5, by omega, rfl, by go_num, rfl, rfl, by omega, K5.out.trans (by repeat (with_reducible first | exact Keep.refl w5 | apply Keep.alloc | apply Keep.drew | apply Keep.drewN | (refine Keep.trans ?_ k7.out) | (refine Keep.trans ?_ k8.out))), Side.keep SD5.out (by repeat (with_reducible first | exact Keep.refl w5 | apply Keep.alloc | apply Keep.drew | apply Keep.drewN | (refine Keep.trans ?_ k7.out) | (refine Keep.trans ?_ k8.out))), lo5⟩
    · obtain rfl : i = n := by omega
      go_wp2
      go_ret
      exact ⟨rfl, KR.out⟩
end Go.Proofs.Ytmmpmpdjcmilkaa
