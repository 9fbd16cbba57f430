/-
  The walk of NodeKeeps. Condition: errors.errorType holds its own.
-/
import Derived.Test.YtokopegffeablaaDoorInverseLaw12
import Derived.Deep.RegionHeld3
namespace Go.Proofs.YtokopegffeablaaDoor.T12
open Go.RowKit Go.Sort Go.Lib V12

/-- The blocks from lo to hi are as they were at w2. -/
def FT (lo hi : Nat) (w2 W : World) : Prop := ∀ k, lo ≤ k → k < hi → W.heap[k]? = w2.heap[k]?
theorem FT.keep {lo hi : Nat} {w2 W W' : World} (h : FT lo hi w2 W) (k : Keep W W') (hs : hi ≤ W.heap.size) : FT lo hi w2 W' := fun i h1 h2 => (Below.block k i (by omega)).trans (h i h1 h2)
theorem OC.less {w w1 : World} {d : Nat} {s : Int} {q : Nat} {L : List NodeV} {X Z : Nat → Prop} (o : OC w d s q L X w1) (h : ∀ i, Z i → X i) : OC w d s q L Z w1 := by
  obtain ⟨t, m, E, h0, hL, hd, hs, k, hF, hX⟩ := o
  exact ⟨t, m, E, h0, hL, hd, hs, k, fun i hi => ⟨(hF i hi).1, fun hz => (hF i hi).2 (h i hz)⟩, fun i hi => hX i (h i hi)⟩
/-- The other store: it is empty as long as its blocks are as they were. -/
theorem oc_ids0 {w1 w2 W : World} {q : Nat} (o : OC w1 2 5 q [] (fun _ => False) w2) (f : FT w1.heap.size w2.heap.size w2 W) : Calls Tryd.prog 14 #[.pointer (some ⟨q, 0, none⟩)] W fun e w' => ∃ A c, e = .returned (.slice A 0 c) ∧ Keep W w' := by
  obtain ⟨t, m, E, h, hL, hd, hs, k, hF, hX⟩ := o
  obtain rfl := List.map_eq_nil_iff.1 hL
  have h2 : SC W 2 5 q t m [] := h.frame fun i hi => f i (hF i hi).1 (h.lt i hi)
  refine (nids_fn h2 (by simp)).mono ?_
  rintro e w' ⟨A, c, he, _, k'⟩
  exact ⟨A, c, he, k'⟩
/-- What the writes into the vectors keep: the list of them, that they are two numbers each that may be written, the stores. -/
structure KInv (w w2 : World) (q : Nat) (M : List NodeV) (X : Nat → Prop) (lo hi ball : Nat) (cs : Array Value) (bs os : Nat → Nat) (W : World) : Prop where
  kw : Keep w W
  blk : W.heap[ball]? = some (.cells cs 23 (0, 0))
  row : ∀ j, j < 5 → ∀ t, t < 2 → (∃ z, W.cell? ⟨bs j, os j + t, none⟩ = some (.int .i64 z)) ∧ W.frozen? ⟨bs j, os j + t, none⟩ = false
  oc : OC w 2 5 q M X W
  ft : FT lo hi w2 W
theorem KInv.set {w w2 : World} {q : Nat} {M : List NodeV} {X : Nat → Prop} {lo hi ball : Nat} {cs : Array Value} {bs os : Nat → Nat} {W : World} (h : KInv w w2 q M X lo hi ball cs bs os W) (p : Addr) (hp : p.spot = none) (hw : w.heap.size ≤ p.block) (hX : X p.block) (hb : ¬ ball = p.block) (hl : ¬ (lo ≤ p.block ∧ p.block < hi)) (z : Int) :
    KInv w w2 q M X lo hi ball cs bs os (W.setCell p (.int .i64 z)) := by
  have ob : ∀ k, k ≠ p.block → (W.setCell p (.int .i64 z)).heap[k]? = W.heap[k]? := fun k hk => Below.heap_setCell _ _ _ _ hk
  refine ⟨Keep.set h.kw hw _, (ob _ hb).trans h.blk, fun j hj t ht => ?_, h.oc.write (Keep.set h.kw hw _) (by simp) (fun k _ hk => ob k fun e => hk (by rw [e]; exact hX)), fun k h1 h2 => (ob k fun e => hl (by rw [← e]; exact ⟨h1, h2⟩)).trans (h.ft k h1 h2)⟩
  obtain ⟨⟨y, hy⟩, hf⟩ := h.row j hj t ht
  refine ⟨?_, ?_⟩
  · by_cases e : (⟨bs j, os j + t, none⟩ : Addr) = p
    · subst e
      exact ⟨z, World.cell?_setCell_same W _ _ hy⟩
    · exact ⟨y, by rw [World.cell?_setCell_other W _ _ _ (fun e2 => e e2.symm)]; exact hy⟩
  · rw [World.frozen?_setCell]; exact hf
theorem row_of {W W2 : World} {g x : Nat} {Z : Nat → Int} (r : Rd W (some ⟨g, x, none⟩) 2 Z) (f : ∀ j, j < 2 → W.frozen? ⟨g, x + j, none⟩ = false) (k : Keep W W2) : g < W.heap.size ∧ ∀ t, t < 2 → (∃ z, W2.cell? ⟨g, x + t, none⟩ = some (.int .i64 z)) ∧ W2.frozen? ⟨g, x + t, none⟩ = false := by
  obtain ⟨b', o', e', hc⟩ := r.adr (by omega)
  have e2 := Option.some.inj e'
  simp only [Addr.mk.injEq, and_true] at e2
  obtain ⟨rfl, rfl⟩ := e2
  refine ⟨cell_lt (hc 0 (by omega)), fun t ht => ⟨⟨Z t, k.cell (hc t ht)⟩, ?_⟩⟩
  rw [Below.frozen k (p := ⟨g, x + t, none⟩) (cell_lt (hc t ht))]
  exact f t ht
set_option maxRecDepth 100000 in
set_option maxHeartbeats 16000000 in
theorem keeps_walk (C : Con SN) (cE : EqC) (a b : Int) (ha : I64 a) (hb : I64 b) (w : World) (hg : ErrT w) :
    Calls Tryd.prog 4 #[.int .i64 a, .int .i64 b] w fun e w' => e = .returned (.bool true) ∧ Keep w w' := by
  have aw : Hid (∀ W, Keep w W → Calls Tryd.prog 6 #[] W fun e w' => e = .returned (.bool true) ∧ Keep W w') := fun W k => awake_true C cE W (hg.keep k)
  have cN := Lib.hid (oc_new (w := w) 2 5 w (Keep.refl w) (by omega) (by omega) (by omega))
  have cM : Hid (∀ W, Calls Tryd.prog 5 #[.int .i64 2, .int .i64 5] W fun e w' => ∃ q, e = .returned (.pointer (some ⟨q, 0, none⟩)) ∧ OC W 2 5 q [] (fun _ => False) w') := fun W => oc_new (w := W) 2 5 W (Keep.refl W) (by omega) (by omega) (by omega)
  unfold I64 at ha hb
  replace hg := Lib.hid hg
  go_enter Tryd.func4, Tryd.ntmps4
  go_wp2_with fail
  refine cN.out.mono ?_
  rintro e w1 ⟨q, rfl, o1⟩
  have K1 := Lib.hid o1.kp
  replace o1 := Lib.hid o1
  go_wp2_with fail
  refine (cM.out w1).mono ?_
  rintro e w2 ⟨q2, rfl, p2⟩
  have k2 := Lib.hid p2.kp
  have K2 := Lib.hid (K1.out.trans k2.out)
  replace p2 := Lib.hid p2
  go_wp2_with fail
  refine (aw.out _ K2.out).mono ?_
  rintro e w3 ⟨rfl, k3⟩
  have K3 := Lib.hid (K2.out.trans k3)
  replace k3 := Lib.hid k3
  by_cases hin : a < 0 ∨ b < 0 ∨ 1000 < a ∨ 1000 < b
  · have out : Hid (Calls Tryd.prog 6 #[] w3 fun e w' => e = .returned (.bool true) ∧ Keep w3 w') := aw.out _ K3.out
    by_cases h1 : a < 0
    · replace hin := Lib.hid hin
      go_wp2_with fail
      refine out.out.mono ?_
      rintro e w4 ⟨rfl, k4⟩
      have k4 := Lib.hid k4
      go_wp2
      go_ret
      exact ⟨rfl, K3.out.trans k4.out⟩
    · by_cases h2 : b < 0
      · replace hin := Lib.hid hin
        go_wp2_with fail
        refine out.out.mono ?_
        rintro e w4 ⟨rfl, k4⟩
        have k4 := Lib.hid k4
        go_wp2
        go_ret
        exact ⟨rfl, K3.out.trans k4.out⟩
      · by_cases h3 : 1000 < a
        · replace hin := Lib.hid hin
          go_wp2_with fail
          refine out.out.mono ?_
          rintro e w4 ⟨rfl, k4⟩
          have k4 := Lib.hid k4
          go_wp2
          go_ret
          exact ⟨rfl, K3.out.trans k4.out⟩
        · have h4 : 1000 < b := by omega
          replace hin := Lib.hid hin
          go_wp2_with fail
          refine out.out.mono ?_
          rintro e w4 ⟨rfl, k4⟩
          have k4 := Lib.hid k4
          go_wp2
          go_ret
          exact ⟨rfl, K3.out.trans k4.out⟩
  · have a0 : 0 ≤ a := by omega
    have b0 : 0 ≤ b := by omega
    have a1 : a ≤ 1000 := by omega
    have b1 : b ≤ 1000 := by omega
    replace hin := Lib.hid hin
    go_wp2_with fail
    obtain ⟨bc, hbc⟩ : ∃ bc, bc = w3.heap.size := ⟨_, rfl⟩
    obtain ⟨bv, hbv⟩ : ∃ bv, bv = w3.heap.size + 1 := ⟨_, rfl⟩
    obtain ⟨W4, hW4⟩ : ∃ W, W = (w3.alloc (.cells #[.int .i64 a, .int .i64 b] 2)).alloc (.cells #[.int .i64 (a / 2), .int .i64 (b / 2)] 2) := ⟨_, rfl⟩
    have K34 : Hid (Keep w3 W4) := by rw [hW4]; exact (Keep.one _ _).alloc _
    have Bc : Hid (W4.heap[bc]? = some (.cells #[.int .i64 a, .int .i64 b] 2 (0, 0))) := by rw [hW4, hbc]; exact (Keep.one _ _).block (heap_alloc_new _ _)
    have Bv : Hid (W4.heap[bv]? = some (.cells #[.int .i64 (a / 2), .int .i64 (b / 2)] 2 (0, 0))) := by
      rw [hW4, hbv]
      have := heap_alloc_new (w3.alloc (.cells #[.int .i64 a, .int .i64 b] 2)) (.cells #[.int .i64 (a / 2), .int .i64 (b / 2)] 2)
      rwa [World.size_alloc] at this
    have hs4 : Hid (W4.heap.size = bv + 1) := by show _ = _; rw [hW4, World.size_alloc, World.size_alloc, hbv]
    rw [← hW4, ← hbv, ← hbc]
    obtain ⟨lo, hlo⟩ : ∃ lo, lo = w1.heap.size := ⟨_, rfl⟩
    obtain ⟨hi, hhi⟩ : ∃ hi, hi = w2.heap.size := ⟨_, rfl⟩
    have z1 : w.heap.size ≤ w1.heap.size := K1.out.size
    have z2 : w1.heap.size ≤ w2.heap.size := k2.out.size
    have z3 : w2.heap.size ≤ w3.heap.size := k3.out.size
    obtain ⟨X, hX⟩ : ∃ X : Nat → Prop, X = fun i => (lo ≤ i ∧ i < hi) ∨ i = bc ∨ i = bv := ⟨_, rfl⟩
    have o4 : Hid (OC w 2 5 q [] X W4) := by
      have o2 := (o1.out.more k2.out (Z := fun i => lo ≤ i ∧ i < hi) (fun i hi' => by omega)).keep k3.out
      have o3 := o2.more K34.out (Z := fun i => i = bc ∨ i = bv) (fun i hi' => by have := hs4.out; omega)
      refine o3.less fun i hi' => ?_
      rw [hX] at hi'
      rcases hi' with h | h | h
      · exact Or.inl (Or.inr h)
      · exact Or.inr (Or.inl h)
      · exact Or.inr (Or.inr h)
    have Xbc : Hid (X bc) := by show X bc; rw [hX]; exact Or.inr (Or.inl rfl)
    have Xbv : Hid (X bv) := by show X bv; rw [hX]; exact Or.inr (Or.inr rfl)
    have Xlo : Hid (∀ i, lo ≤ i → i < hi → X i) := fun i h1 h2 => by rw [hX]; exact Or.inl ⟨h1, h2⟩
    have ft4 : Hid (FT lo hi w2 W4) := fun k h1 h2 => Below.block (k3.out.trans K34.out) k (by omega)
    have hwab : ¬ 0 ≤ wrongOf 2 (two a b) 2 := by
      rw [wrongOf_ok fun j hj => by
        unfold badAmt two
        split <;> simp <;> omega]
      simp
    have hwh : ¬ 0 ≤ wrongOf 2 (two (a / 2) (b / 2)) 2 := by
      rw [wrongOf_ok fun j hj => by
        unfold badAmt two
        split <;> simp <;> omega]
      simp
    obtain ⟨h0, hL0⟩ := one_add (s := 5) (by decide) hwab
    have cA := oc_add o4.out hg.out 1 (some ⟨bc, 0, none⟩) 2 2 (two a b) (rd_two Bc.out (by unfold I64; omega) (by unfold I64; omega)) (fun e => by cases e) (by unfold I64; omega) h0 rfl hL0
    unfold fltC at cA
    rw [if_pos rfl] at cA
    have hch : chC (one (two a b) (fun _ => 0)) 2 1 2 (two (a / 2) (b / 2)) false = 0 := one_ok hwh fun j hj => by
      unfold chU two
      simp only [Bool.false_eq_true, if_false]
      split <;> omega
    obtain ⟨hch2, _, _⟩ := one_ch hch
    obtain ⟨U, hU⟩ : ∃ U, U = chU false (fun _ => 0) (two (a / 2) (b / 2)) := ⟨_, rfl⟩
    rw [← hU] at hch2
    have hU2 : Hid (∀ t, t < 2 → U t = two (a / 2) (b / 2) t) := fun t _ => by
      rw [hU]
      unfold chU
      simp
    obtain ⟨Y, hY⟩ : ∃ Y, Y = two a b := ⟨_, rfl⟩
    rw [← hY] at cA hch hch2
    have ra : Hid (∀ W g, W.heap[g]? = some (.cells #[.int .i64 a, .int .i64 b] 2 (0, 0)) → Rd W (some ⟨g, 0, none⟩) 2 Y) := fun W g h => by rw [hY]; exact rd_two h (by unfold I64; omega) (by unfold I64; omega)
    have rh : Hid (∀ W g, W.heap[g]? = some (.cells #[.int .i64 (a / 2), .int .i64 (b / 2)] 2 (0, 0)) → Rd W (some ⟨g, 0, none⟩) 2 (two (a / 2) (b / 2))) := fun W g h => rd_two h (by unfold I64; omega) (by unfold I64; omega)
    have zz : Hid (w.heap.size ≤ lo ∧ lo ≤ hi ∧ hi ≤ bc ∧ bc < bv ∧ bv < W4.heap.size) := by have := hs4.out; show _ ∧ _ ∧ _ ∧ _ ∧ _; omega
    replace cA := Lib.hid cA
    replace hch := Lib.hid hch
    replace hch2 := Lib.hid hch2
    replace hwab := Lib.hid hwab
    replace hwh := Lib.hid hwh
    replace h0 := Lib.hid h0
    replace hL0 := Lib.hid hL0
    replace hU := Lib.hid hU
    replace hY := Lib.hid hY
    replace hX := Lib.hid hX
    replace hW4 := Lib.hid hW4
    replace hbc := Lib.hid hbc
    replace hbv := Lib.hid hbv
    have P2 : Hid (OC w1 2 5 q2 [] (fun _ => False) w2) := p2
    have EI : Hid (∀ W, FT lo hi w2 W → Calls Tryd.prog 14 #[.pointer (some ⟨q2, 0, none⟩)] W fun e w' => ∃ A c, e = .returned (.slice A 0 c) ∧ Keep W w') := fun W f => oc_ids0 P2.out (by rw [← hlo, ← hhi]; exact f)
    replace hlo := Lib.hid hlo
    replace hhi := Lib.hid hhi
    replace z1 := Lib.hid z1
    replace z2 := Lib.hid z2
    replace z3 := Lib.hid z3
    clear p2 o1 aw cN cM
    refine cA.out.mono ?_
    rintro e w5 ⟨rfl, o5, f5, _⟩
    have ft5 : Hid (FT lo hi w2 w5) := fun k h1 h2 => (f5 k (Xlo.out k h1 h2)).trans (ft4.out k h1 h2)
    have Bc5 := Lib.hid ((f5 bc Xbc.out).trans Bc.out)
    have Bv5 := Lib.hid ((f5 bv Xbv.out).trans Bv.out)
    have cH := oc_hold o5 1 (some ⟨bv, 0, none⟩) 2 2 (two (a / 2) (b / 2)) (rh.out w5 bv Bv5.out) hch.out hch2.out
    unfold fltC at cH
    rw [if_pos rfl] at cH
    replace cH := Lib.hid cH
    replace o5 := Lib.hid o5
    replace f5 := Lib.hid f5
    clear cA
    go_wp2_with fail
    refine cH.out.mono ?_
    rintro e w6 ⟨rfl, o6, f6, _⟩
    have ft6 : Hid (FT lo hi w2 w6) := fun k h1 h2 => (f6 k (Xlo.out k h1 h2)).trans (ft5.out k h1 h2)
    have Bc6 := Lib.hid ((f6 bc Xbc.out).trans Bc5.out)
    have Bv6 := Lib.hid ((f6 bv Xbv.out).trans Bv5.out)
    have s6 : Hid (bv < w6.heap.size) := lt_blk Bv6.out
    have cG := Lib.hid (oc_get o6 1 (by rw [one_keys]; simp) (Y := Y) fun t _ => by rw [one_get])
    replace o6 := Lib.hid o6
    replace f6 := Lib.hid f6
    clear cH
    go_wp2_with fail
    refine cG.out.mono ?_
    rintro e w7 ⟨A1, c1, rfl, r1, n1, k7⟩
    obtain ⟨g1, x1, rfl, hg1, hf1⟩ := n1 (by omega)
    obtain ⟨nb, hnb⟩ : ∃ nb, nb = w7.heap.size := ⟨_, rfl⟩
    obtain ⟨W8, hW8⟩ : ∃ W, W = w7.alloc (.cells #[.int .i64 1, .slice (some ⟨g1, x1, none⟩) 2 c1] 31) := ⟨_, rfl⟩
    have K78 : Hid (Keep w7 W8) := by rw [hW8]; exact Keep.one _ _
    have K68 : Hid (Keep w6 W8) := k7.trans K78.out
    have B8 : Hid (W8.heap[nb]? = some (.cells #[.int .i64 1, .slice (some ⟨g1, x1, none⟩) 2 c1] 31 (0, 0))) := by rw [hW8, hnb]; exact heap_alloc_new _ _
    obtain ⟨_, n1, _⟩ := cel2 B8.out
    have R1 := Lib.hid (r1.keep K78.out)
    have hg1l : Hid (g1 < W8.heap.size) := by
      obtain ⟨b', o', e', hc⟩ := R1.out.adr (by omega)
      have e2 := Option.some.inj e'
      simp only [Addr.mk.injEq, and_true] at e2
      rw [e2.1]
      exact cell_lt (hc 0 (by omega))
    have hf8 : Hid (∀ j, j < 2 → W8.frozen? ⟨g1, x1 + j, none⟩ = false) := fun j hj => by
      obtain ⟨b', o', e', hc⟩ := r1.adr (by omega)
      have e2 := Option.some.inj e'
      simp only [Addr.mk.injEq, and_true] at e2
      obtain ⟨rfl, rfl⟩ := e2
      rw [Below.frozen K78.out (p := ⟨g1, x1 + j, none⟩) (cell_lt (hc j hj))]
      exact hf1 j hj
    have o8 := Lib.hid (o6.out.keep K68.out)
    have cU : Hid (∀ W, Keep W8 W → Calls Tryd.prog 11 #[.pointer (some ⟨q, 0, none⟩), .int .i64 1] W fun e w' => ∃ g x c, e = .returned (.slice (some ⟨g, x, none⟩) 2 c) ∧ Rd w' (some ⟨g, x, none⟩) 2 (two (a / 2) (b / 2)) ∧ W8.heap.size ≤ g ∧ (∀ j, j < 2 → w'.frozen? ⟨g, x + j, none⟩ = false) ∧ Keep W8 w') := fun W k => by
      refine (oc_used (o8.out.keep k) 1 (by rw [one_keys]; simp) (Y := two (a / 2) (b / 2)) fun t ht => by rw [one_get]; exact hU2.out t ht).mono ?_
      rintro e w' ⟨A, c, rfl, r, nw, k'⟩
      obtain ⟨g, x, rfl, h1, h2⟩ := nw (by omega)
      exact ⟨g, x, c, rfl, r, Nat.le_trans k.size h1, h2, k.trans k'⟩
    have cF : Hid (∀ W, Keep W8 W → Calls Tryd.prog 12 #[.pointer (some ⟨q, 0, none⟩), .int .i64 1] W fun e w' => ∃ g x c, e = .returned (.slice (some ⟨g, x, none⟩) 2 c) ∧ Rd w' (some ⟨g, x, none⟩) 2 (fun t => Y t - U t) ∧ W8.heap.size ≤ g ∧ (∀ j, j < 2 → w'.frozen? ⟨g, x + j, none⟩ = false) ∧ Keep W8 w' ∧ Keep W w') := fun W k => by
      refine (oc_free (o8.out.keep k) 1 (by rw [one_keys]; simp) (Y := fun t => Y t - U t) fun t ht => by rw [one_get]).mono ?_
      rintro e w' ⟨A, c, rfl, r, nw, k'⟩
      obtain ⟨g, x, rfl, h1, h2⟩ := nw (by omega)
      exact ⟨g, x, c, rfl, r, Nat.le_trans k.size h1, h2, k.trans k', k'⟩
    have z7 : Hid (w6.heap.size ≤ g1) := hg1
    replace r1 := Lib.hid r1
    replace k7 := Lib.hid k7
    replace hf1 := Lib.hid hf1
    replace hg1 := Lib.hid hg1
    clear cG
    go_wp2_with fail
    rw [← hW8, ← hnb]
    replace hW8 := Lib.hid hW8
    replace hnb := Lib.hid hnb
    have HELD : ∀ Wz, Keep W8 Wz → (Wz.cell? ⟨nb, 1, none⟩ = some (.slice (some ⟨g1, x1, none⟩) 2 c1)) := fun Wz KK => KK.cell n1
    refine wp_region_held_drew (S := fun w' => w'.cell? ⟨nb, 1, none⟩ = some (.slice (some ⟨g1, x1, none⟩) 2 c1)) (by kernel_rfl) ?_ (fun hHeld => ?_)
    · exact HELD _ (by repeat (with_reducible first | exact Keep.refl W8 | apply Keep.alloc | apply Keep.drew | apply Keep.drewN))
    refine wpAnyH_take (i := 0) (v := .slice (some ⟨bc, 0, none⟩) 2 2) rfl (by kernel_rfl) (by kernel_rfl) (by kernel_rfl) (fun _ _ _ h => h) (Or.inl ⟨by rfl, fun Wz hW => by obtain p0 := hW; go_simp⟩) hHeld ?_
    simp only [Act.put, List.getElem_toArray, List.getElem_cons_zero, List.setIfInBounds_toArray, List.set_cons_zero, List.set_cons_succ]
    refine wpAnyH_take (i := 1) (v := .slice (some ⟨bv, 0, none⟩) 2 2) rfl (by kernel_rfl) (by kernel_rfl) (by kernel_rfl) (fun _ _ _ h => h) (Or.inl ⟨by rfl, fun Wz hW => by obtain p0 := hW; go_simp⟩) hHeld ?_
    simp only [Act.put, List.getElem_toArray, List.getElem_cons_succ, List.getElem_cons_zero, List.setIfInBounds_toArray, List.set_cons_zero, List.set_cons_succ]
    refine wpAnyH_take (i := 2) (v := .pointer (some ⟨nb, 1, none⟩)) rfl (by kernel_rfl) (by kernel_rfl) (by kernel_rfl) (fun _ _ _ h => h) (Or.inl ⟨by rfl, fun Wz hW => by obtain p0 := hW; go_simp⟩) hHeld ?_
    simp only [Act.put, List.getElem_toArray, List.getElem_cons_succ, List.getElem_cons_zero, List.setIfInBounds_toArray, List.set_cons_zero, List.set_cons_succ]
    refine wpAnyH_take (i := 3) (v := .slice (some ⟨g1, x1, none⟩) 2 c1) rfl (by kernel_rfl) (by kernel_rfl) (by kernel_rfl) (fun _ _ _ h => h) (Or.inl ⟨by rfl, fun Wz hW => by obtain p0 := hW; go_simp⟩) hHeld ?_
    simp only [Act.put, List.getElem_toArray, List.getElem_cons_succ, List.getElem_cons_zero, List.setIfInBounds_toArray, List.set_cons_zero, List.set_cons_succ]
    refine wpAnyH_take (i := 4) (v := .pointer (some ⟨q, 0, none⟩)) rfl (by kernel_rfl) (by kernel_rfl) (by kernel_rfl) (fun _ _ _ h => h) (Or.inl ⟨by rfl, fun Wz hW => by obtain p0 := hW; go_simp⟩) hHeld ?_
    simp only [Act.put, List.getElem_toArray, List.getElem_cons_succ, List.getElem_cons_zero, List.setIfInBounds_toArray, List.set_cons_zero, List.set_cons_succ]
    refine wpAnyH_take (i := 6) (v := .pointer (some ⟨q, 0, none⟩)) rfl (by kernel_rfl) (by kernel_rfl) (by kernel_rfl) (fun _ _ _ h => h) (Or.inl ⟨by rfl, fun Wz hW => by obtain p0 := hW; go_simp⟩) hHeld ?_
    simp only [Act.put, List.getElem_toArray, List.getElem_cons_succ, List.getElem_cons_zero, List.setIfInBounds_toArray, List.set_cons_zero, List.set_cons_succ]
    refine wpAnyH_ready (rs := [5]) (by kernel_rfl) (by simp) ?_
    refine AllReadyH.cons rfl (fun K hK => ?_) AllReadyH.nil
    simp only [List.getElem_toArray, List.getElem_cons_succ, List.getElem_cons_zero]
    rw [if_pos (by rfl)]
    go_simp
    refine (cU.out _ (by repeat (with_reducible first | exact Keep.refl W8 | apply Keep.alloc | apply Keep.drew | apply Keep.drewN))).mono ?_
    rintro e w9 ⟨g2, x2, c2, rfl, r2, hg2, hf2, k9⟩; replace r2 := Lib.hid r2; replace hg2 := Lib.hid hg2; replace hf2 := Lib.hid hf2; replace k9 := Lib.hid k9
    go_wp2_with fail
    refine hK.out _ _ ?_ (fun hHeld => ?_)
    · exact HELD _ k9.out
    clear hK K
    try simp only [Act.put, List.getElem_toArray, List.getElem_cons_succ, List.getElem_cons_zero, List.setIfInBounds_toArray, List.set_cons_zero, List.set_cons_succ]
    refine wpAnyH_ready (rs := [7]) (by kernel_rfl) (by simp) ?_
    refine AllReadyH.cons rfl (fun K hK => ?_) AllReadyH.nil
    simp only [List.getElem_toArray, List.getElem_cons_succ, List.getElem_cons_zero]
    rw [if_pos (by rfl)]
    go_simp
    refine (cF.out _ (by repeat (with_reducible first | exact Keep.refl W8 | apply Keep.alloc | apply Keep.drew | apply Keep.drewN | (refine Keep.trans ?_ k9.out)))).mono ?_
    rintro e w10 ⟨g3, x3, c3, rfl, r3, hg3, hf3, k10, kk⟩; have K910 : Hid (Keep w9 w10) := Keep.trans (by repeat (with_reducible first | exact Keep.refl w9 | apply Keep.drew | apply Keep.drewN)) kk; replace r3 := Lib.hid r3; replace hg3 := Lib.hid hg3; replace hf3 := Lib.hid hf3; replace k10 := Lib.hid k10; replace kk := Lib.hid kk
    go_wp2_with fail
    refine hK.out _ _ ?_ (fun hHeld => ?_)
    · exact HELD _ k10.out
    clear hK K
    try simp only [Act.put, List.getElem_toArray, List.getElem_cons_succ, List.getElem_cons_zero, List.setIfInBounds_toArray, List.set_cons_zero, List.set_cons_succ]
    refine wpAnyH_ready (rs := [8]) (by kernel_rfl) (by simp) ?_
    refine AllReadyH.cons rfl (fun K hK => ?_) AllReadyH.nil
    simp only [List.getElem_toArray, List.getElem_cons_succ, List.getElem_cons_zero]
    rw [if_pos (by rfl)]
    go_simp
    refine hK.out _ _ ?_ (fun hHeld => ?_)
    · exact HELD _ (by repeat (with_reducible first | exact Keep.refl W8 | apply Keep.alloc | apply Keep.drew | apply Keep.drewN | (refine Keep.trans ?_ k10.out) | (refine Keep.trans ?_ k9.out)))
    clear hK K
    try simp only [Act.put, List.getElem_toArray, List.getElem_cons_succ, List.getElem_cons_zero, List.setIfInBounds_toArray, List.set_cons_zero, List.set_cons_succ]
    refine wpAnyH_take (i := 9) (v := .slice (some ⟨w10.heap.size, 0, none⟩) 5 5) rfl (by kernel_rfl) (by kernel_rfl) (by kernel_rfl) (fun _ _ _ h => h) (Or.inl ⟨by rfl, fun Wz hW => by obtain p0 := hW; go_simp⟩) hHeld ?_
    simp only [Act.put, List.getElem_toArray, List.getElem_cons_succ, List.getElem_cons_zero, List.setIfInBounds_toArray, List.set_cons_zero, List.set_cons_succ]
    refine wpAnyH_done (by kernel_rfl) ?_ _
    obtain ⟨ball, hball⟩ : ∃ ball, ball = w10.heap.size := ⟨_, rfl⟩
    obtain ⟨W11, hW11⟩ : ∃ W, W = w10.alloc (.cells #[.slice (some ⟨bc, 0, none⟩) 2 2, .slice (some ⟨bv, 0, none⟩) 2 2, .slice (some ⟨g1, x1, none⟩) 2 c1, .slice (some ⟨g2, x2, none⟩) 2 c2, .slice (some ⟨g3, x3, none⟩) 2 c3] 23) := ⟨_, rfl⟩
    rw [← hball]
    rw [← hW11]
    have K10 : Hid (Keep w10 W11) := by rw [hW11]; exact Keep.one _ _
    have K811 : Hid (Keep W8 W11) := k10.out.trans K10.out
    have K611 : Hid (Keep w6 W11) := K68.out.trans K811.out
    have K911 : Hid (Keep w9 W11) := K910.out.trans K10.out
    have s11 : Hid (W11.heap.size = ball + 1) := by show _ = _; rw [hW11, World.size_alloc, hball]
    obtain ⟨cs, hcs⟩ : ∃ cs : Array Value, cs = #[.slice (some ⟨bc, 0, none⟩) 2 2, .slice (some ⟨bv, 0, none⟩) 2 2, .slice (some ⟨g1, x1, none⟩) 2 c1, .slice (some ⟨g2, x2, none⟩) 2 c2, .slice (some ⟨g3, x3, none⟩) 2 c3] := ⟨_, rfl⟩
    have B11 : Hid (W11.heap[ball]? = some (.cells cs 23 (0, 0))) := by rw [hW11, hball, hcs]; exact heap_alloc_new _ _
    obtain ⟨bs, hbs⟩ : ∃ bs : Nat → Nat, bs = fun j => if j = 0 then bc else if j = 1 then bv else if j = 2 then g1 else if j = 3 then g2 else g3 := ⟨_, rfl⟩
    obtain ⟨os, hos⟩ : ∃ os : Nat → Nat, os = fun j => if j = 0 then 0 else if j = 1 then 0 else if j = 2 then x1 else if j = 3 then x2 else x3 := ⟨_, rfl⟩
    obtain ⟨cp, hcp⟩ : ∃ cp : Nat → Nat, cp = fun j => if j = 0 then 2 else if j = 1 then 2 else if j = 2 then c1 else if j = 3 then c2 else c3 := ⟨_, rfl⟩
    have CA : Hid (∀ j, j < 5 → cs[j]? = some (.slice (some ⟨bs j, os j, none⟩) 2 (cp j))) := by
      intro j hj
      rw [hcs, hbs, hos, hcp]
      rcases j with _ | _ | _ | _ | _ | j
      · rfl
      · rfl
      · rfl
      · rfl
      · rfl
      · omega
    have q0 := row_of (ra.out w6 bc Bc6.out) (fun j _ => frozen_of_row w6 bc _ _ _ Bc6.out) K611.out
    have q1 := row_of (rh.out w6 bv Bv6.out) (fun j _ => frozen_of_row w6 bv _ _ _ Bv6.out) K611.out
    have q2 := row_of R1.out hf8.out K811.out
    have q3 := row_of r2.out hf2.out K911.out
    have q4 := row_of r3.out hf3.out K10.out
    have y6 : w6.heap.size ≤ W8.heap.size := K68.out.size
    have y8 : W8.heap.size ≤ w10.heap.size := k10.out.size
    have y9 : w9.heap.size ≤ w10.heap.size := K910.out.size
    have zz' := zz.out
    have s6' := s6.out
    have s11' := s11.out
    have hg2' := hg2.out
    have hg3' := hg3.out
    have z7' := z7.out
    have rows : Hid (∀ j, j < 5 → (w.heap.size ≤ bs j ∧ hi ≤ bs j ∧ bs j < ball ∧ (X (bs j) ∨ bs j = g1 ∨ bs j = g2 ∨ bs j = g3)) ∧ ∀ t, t < 2 → (∃ z, W11.cell? ⟨bs j, os j + t, none⟩ = some (.int .i64 z)) ∧ W11.frozen? ⟨bs j, os j + t, none⟩ = false) := by
      intro j hj
      rw [hbs, hos]
      rcases j with _ | _ | _ | _ | _ | j
      · exact ⟨⟨by show _ ≤ bc; omega, by show _ ≤ bc; omega, by show bc < _; omega, Or.inl Xbc.out⟩, q0.2⟩
      · exact ⟨⟨by show _ ≤ bv; omega, by show _ ≤ bv; omega, by show bv < _; omega, Or.inl Xbv.out⟩, q1.2⟩
      · exact ⟨⟨by show _ ≤ g1; omega, by show _ ≤ g1; omega, by show g1 < _; have := q2.1; omega, Or.inr (Or.inl rfl)⟩, q2.2⟩
      · exact ⟨⟨by show _ ≤ g2; omega, by show _ ≤ g2; omega, by show g2 < _; have := q3.1; omega, Or.inr (Or.inr (Or.inl rfl))⟩, q3.2⟩
      · exact ⟨⟨by show _ ≤ g3; omega, by show _ ≤ g3; omega, by show g3 < _; have := q4.1; omega, Or.inr (Or.inr (Or.inr rfl))⟩, q4.2⟩
      · omega
    have O11 : Hid (OC w 2 5 q (one Y U) (fun i => X i ∨ i = g1 ∨ i = g2 ∨ i = g3) W11) := o6.out.more K611.out (Z := fun i => i = g1 ∨ i = g2 ∨ i = g3) (fun i hi' => by
      have e1 := q2.1
      have e2 := q3.1
      have e3 := q4.1
      rcases hi' with rfl | rfl | rfl <;> omega)
    have ft11 : Hid (FT lo hi w2 W11) := ft6.out.keep K611.out (by omega)
    have KI : Hid (KInv w w2 q (one Y U) (fun i => X i ∨ i = g1 ∨ i = g2 ∨ i = g3) lo hi ball cs bs os W11) := ⟨O11.out.kp, B11.out, fun j hj => (rows.out j hj).2, O11.out, ft11.out⟩
    have rfacts : Hid (∀ j, j < 5 → w.heap.size ≤ bs j ∧ hi ≤ bs j ∧ bs j < ball ∧ (X (bs j) ∨ bs j = g1 ∨ bs j = g2 ∨ bs j = g3)) := fun j hj => (rows.out j hj).1
    obtain ⟨X2, hX2⟩ : ∃ X2 : Nat → Prop, X2 = fun i => X i ∨ i = g1 ∨ i = g2 ∨ i = g3 := ⟨_, rfl⟩
    rw [← hX2] at KI
    have rf : Hid (∀ j, j < 5 → w.heap.size ≤ bs j ∧ hi ≤ bs j ∧ bs j < ball ∧ X2 (bs j)) := by rw [hX2]; exact rfacts.out
    replace hX2 := Lib.hid hX2
    replace hbs := Lib.hid hbs
    replace hos := Lib.hid hos
    replace hcp := Lib.hid hcp
    replace hcs := Lib.hid hcs
    replace hW11 := Lib.hid hW11
    replace hball := Lib.hid hball
    have hsame : Hid (∀ W Z A c g, Rd W A 2 Z → Rd W (some ⟨g, 0, none⟩) 2 Z → Calls Tryd.prog 10 #[.slice A 2 c, .slice (some ⟨g, 0, none⟩) 2 2] W fun e w' => e = .returned (.bool true) ∧ Keep W w') := fun W Z A c g r1 r2 => (rsame_is A _ 2 2 c 2 _ _ W r1 r2 true (same_yes rfl fun _ _ => rfl)).mono fun _ _ h => ⟨h.1, h.2.keep⟩
    clear q0 q1 q2 q3 q4 y6 y8 y9 zz' s6' s11' hg2' hg3' z7' rows rfacts O11 n1 cU cF B11 K10 K811 K611 K911 s11 hHeld HELD
    go_wp2
    go_loopg [12] 5 (fun gx s12 wr => ∃ j : Nat, j ≤ 5 ∧ gx = 5 - j ∧ s12 = .int .i64 j ∧ Hid (KInv w w2 q (one Y U) X2 lo hi ball cs bs os wr))
    case atStart => exact ⟨0, Nat.zero_le _, rfl, rfl, KI⟩
    case round =>
      clear KI
      obtain ⟨j, hj, rfl, rfl, KI⟩ := hrel
      by_cases hlj : j < 5
      · have q1 := atH0 ball 5 5 j hlj
        have x0 : wr.cell? ⟨ball, j, none⟩ = some (.slice (some ⟨bs j, os j, none⟩) 2 (cp j)) := by rw [cell_of_row wr ball _ _ _ _ KI.out.blk]; exact CA.out j hlj
        obtain ⟨r1, r2, r3, r4⟩ := rf.out j hlj
        obtain ⟨⟨y0, e0⟩, f0⟩ := KI.out.row j hlj 0 (by omega)
        obtain ⟨⟨y1, e1⟩, f1⟩ := KI.out.row j hlj 1 (by omega)
        rw [Nat.add_zero] at e0 f0
        obtain ⟨B, hB⟩ : ∃ B, B = bs j := ⟨_, rfl⟩
        obtain ⟨O, hO⟩ : ∃ O, O = os j := ⟨_, rfl⟩
        obtain ⟨Cp, hC⟩ : ∃ Cp, Cp = cp j := ⟨_, rfl⟩
        rw [← hB, ← hO] at e0 e1 f0 f1
        rw [← hB, ← hO, ← hC] at x0
        rw [← hB] at r1 r2 r3 r4
        have nb1 : ball ≠ B := by omega
        have nb2 : B ≠ ball := by omega
        have KS : Hid (∀ u v, KInv w w2 q (one Y U) X2 lo hi ball cs bs os ((wr.setCell ⟨B, O, none⟩ (.int .i64 u)).setCell ⟨B, O + 1, none⟩ (.int .i64 v))) := fun u v => (KI.out.set ⟨B, O, none⟩ rfl r1 r4 nb1 (by show ¬ (_ ≤ B ∧ B < _); omega) u).set ⟨B, O + 1, none⟩ rfl r1 r4 nb1 (by show ¬ (_ ≤ B ∧ B < _); omega) v
        have x1 : ∀ u, (wr.setCell ⟨B, O, none⟩ u).cell? ⟨ball, j, none⟩ = some (.slice (some ⟨B, O, none⟩) 2 Cp) := fun u => by rw [World.cell?_setCell_far wr ⟨B, O, none⟩ ⟨ball, j, none⟩ u nb2]; exact x0
        have e2 : ∀ u, (wr.setCell ⟨B, O, none⟩ u).cell? ⟨B, O + 1, none⟩ = some (.int .i64 y1) := fun u => by rw [World.cell?_setCell_other wr _ _ _ (by intro h; simp at h)]; exact e1
        replace r1 := Lib.hid r1
        replace r2 := Lib.hid r2
        replace r3 := Lib.hid r3
        replace r4 := Lib.hid r4
        replace hB := Lib.hid hB
        replace hO := Lib.hid hO
        replace hC := Lib.hid hC
        go_wp2
        go_roundg (5 - (j + 1))
        case measure => omega
        case rel => exact ⟨j + 1, hlj, rfl, by go_num, KS.out _ _⟩
      · obtain rfl : j = 5 := by omega
        have KR := Lib.hid KI.out.kw
        have OR := Lib.hid KI.out.oc
        have FR := Lib.hid KI.out.ft
        have hil : Hid (hi ≤ wr.heap.size) := by
          have h1 := lt_blk KI.out.blk
          have h2 := (rf.out 0 (by omega)).2.1
          have h3 := (rf.out 0 (by omega)).2.2.1
          show _ ≤ _
          omega
        have cG := Lib.hid (oc_get OR.out 1 (by rw [one_keys]; simp) (Y := Y) fun t _ => by rw [one_get])
        clear rf CA
        go_wp2_with fail
        refine cG.out.mono ?_
        rintro e w12 ⟨A9, c9, rfl, r9, _, k9'⟩
        obtain ⟨W13, hW13⟩ : ∃ W, W = (w12.alloc (.cells #[.int .i64 1, .slice A9 2 c9] 31)).alloc (.cells #[.int .i64 a, .int .i64 b] 2) := ⟨_, rfl⟩
        have K13 : Hid (Keep wr W13) := by rw [hW13]; exact k9'.trans ((Keep.one _ _).alloc _)
        have r13 : Rd W13 A9 2 Y := by rw [hW13]; exact r9.keep ((Keep.one _ _).alloc _)
        have b13 : W13.heap[w12.heap.size + 1]? = some (.cells #[.int .i64 a, .int .i64 b] 2 (0, 0)) := by
          rw [hW13]
          have := heap_alloc_new (w12.alloc (.cells #[.int .i64 1, .slice A9 2 c9] 31)) (.cells #[.int .i64 a, .int .i64 b] 2)
          rwa [World.size_alloc] at this
        have cS := Lib.hid (hsame.out W13 Y A9 c9 (w12.heap.size + 1) r13 (ra.out W13 _ b13))
        have r9 := Lib.hid r9
        have k9' := Lib.hid k9'
        replace r13 := Lib.hid r13
        replace b13 := Lib.hid b13
        clear cG
        go_wp2_with fail
        rw [← hW13]
        replace hW13 := Lib.hid hW13
        refine cS.out.mono ?_
        rintro e w14 ⟨rfl, k14⟩
        have K14 := Lib.hid (K13.out.trans k14)
        have cU := Lib.hid (oc_used (OR.out.keep K14.out) 1 (by rw [one_keys]; simp) (Y := two (a / 2) (b / 2)) fun t ht => by rw [one_get]; exact hU2.out t ht)
        replace k14 := Lib.hid k14
        clear cS
        go_wp2_with fail
        refine cU.out.mono ?_
        rintro e w15 ⟨A5, c5, rfl, r15, _, k15⟩
        obtain ⟨W16, hW16⟩ : ∃ W, W = w15.alloc (.cells #[.int .i64 (a / 2), .int .i64 (b / 2)] 2) := ⟨_, rfl⟩
        have K16 : Hid (Keep wr W16) := by rw [hW16]; exact (K14.out.trans k15).trans (Keep.one _ _)
        have b16 : W16.heap[w15.heap.size]? = some (.cells #[.int .i64 (a / 2), .int .i64 (b / 2)] 2 (0, 0)) := by rw [hW16]; exact heap_alloc_new _ _
        have cS2 := Lib.hid (hsame.out W16 (two (a / 2) (b / 2)) A5 c5 w15.heap.size (by rw [hW16]; exact r15.keep (Keep.one _ _)) (rh.out W16 _ b16))
        have r15 := Lib.hid r15
        have k15 := Lib.hid k15
        replace b16 := Lib.hid b16
        clear cU
        go_wp2_with fail
        rw [← hW16]
        replace hW16 := Lib.hid hW16
        refine cS2.out.mono ?_
        rintro e w17 ⟨rfl, k17⟩
        have K17 := Lib.hid (K16.out.trans k17)
        have cI := Lib.hid (EI.out w17 (FR.out.keep K17.out hil.out))
        replace k17 := Lib.hid k17
        clear cS2
        go_wp2_with fail
        refine cI.out.mono ?_
        rintro e w18 ⟨A6, c6, rfl, k18⟩
        have K18 := Lib.hid (K17.out.trans k18)
        replace k18 := Lib.hid k18
        go_wp2
        go_ret
        exact ⟨rfl, KR.out.trans K18.out⟩
end Go.Proofs.YtokopegffeablaaDoor.T12
