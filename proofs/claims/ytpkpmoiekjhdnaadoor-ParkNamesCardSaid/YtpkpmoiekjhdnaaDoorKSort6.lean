/-
  Sort: the pods in the stable order, each with a request of its own. Condition: at most 1048576 pods, each with at most 1048576 amounts.
-/
import Derived.Test.YtpkpmoiekjhdnaaDoorRowP6
namespace Go.Proofs.YtpkpmoiekjhdnaaDoor
open Go.RowKit Go.Sort Go.Shelf

def cfP (P : Nat → PodV) (s t : Nat) : Int := cmpP (P s) (P t)
theorem cmpP_neg (x y : PodV) : cmpP x y < 0 ↔ (y.p < x.p ∨ (y.p = x.p ∧ (x.a < y.a ∨ (x.a = y.a ∧ x.k < y.k)))) := by
  unfold cmpP or3 cmpI
  repeat' split
  all_goals omega
theorem cmpP_swo (P : Nat → PodV) : SWO (ltOf (cfP P)) where
  irrefl := fun x => by
    unfold ltOf cfP
    rw [decide_eq_false_iff_not, cmpP_neg]
    omega
  trans := fun x y z h1 h2 => by
    unfold ltOf cfP at *
    rw [decide_eq_true_eq, cmpP_neg] at *
    omega
  ntrans := fun x y z h1 h2 => by
    unfold ltOf cfP at *
    rw [decide_eq_false_iff_not, cmpP_neg] at *
    omega
theorem lays_fn (Q : Nat → PodV) (b1 b2 b3 g size : Nat) (w : World) (K : Keys w b1 b2 b3) (h1 : b1 ≠ g) (h2 : b2 ≠ g) (h3 : b3 ≠ g) : CmpLays Tryd.prog 42 (keysV b1 b2 b3) (enc9 Q) 9 (cfP Q) g 0 size w := by
  intro m os dk _ x y
  have hk : Keys (sortWorldK (enc9 Q) 9 w g 0 m dk os) b1 b2 b3 := by
    have hb := swk_grown (⟨m, os, rfl⟩ : SWK (enc9 Q) 9 w g 0 dk (sortWorldK (enc9 Q) 9 w g 0 m dk os))
    have c : ∀ b v, b ≠ g → w.cell? ⟨b, 0, none⟩ = some v → (sortWorldK (enc9 Q) 9 w g 0 m dk os).cell? ⟨b, 0, none⟩ = some v := fun b v hb1 hc => by
      have hlt := cell_lt hc
      rw [World.cell?_of_block (a := ⟨b, 0, none⟩) (hb.block b hlt (fun e => hb1 (Option.some.inj e)))]
      exact hc
    exact ⟨c b1 _ h1 K.c1, c b2 _ h2 K.c2, c b3 _ h3 K.c3⟩
  have h := cmp_fn b1 b2 b3 (Q x) (Q y) _ hk
  exact h

set_option maxHeartbeats 2000000 in
theorem sstablefunc_fn (Q : Nat → PodV) (b1 b2 b3 g n cap : Nat) (w : World) (K : Keys w b1 b2 b3) (h1 : b1 ≠ g) (h2 : b2 ≠ g) (h3 : b3 ≠ g) (hg : g < w.heap.size) (hn : n ≤ 1048576) (hH : HoldsK (enc9 Q) 9 w g 0 (Array.range n)) :
    Calls Tryd.prog 34 #[.slice (some ⟨g, 0, none⟩) n cap, cmpV b1 b2 b3] w fun e w' => e = .returned (.tuple #[]) ∧ ∃ dk : Array Nat, SWK (enc9 Q) 9 w g 0 dk w' ∧ PermIn 0 n (Array.range n) dk ∧ SortedIn (lo (ltOf (cfP Q))) 0 n dk := by
  have hs : (Array.range n).size = n := Array.size_range
  have hc := sstable_fn Tryd.sly Tryd.ins (enc9 Q) (cfP Q) 42 (keysV b1 b2 b3) (cmpP_swo Q) g 0 cap (Array.range n) w (enters_of Tryd.func42 (by kernel_rfl) rfl) (lays_fn Q b1 b2 b3 g _ w K h1 h2 h3) ⟨fun _ => rfl, fun x => cells_one (Q x), hH, hg⟩ (by omega)
    (fun p hp => by rw [hs] at hp; rw [getElem!_pos _ _ (by simpa using hp)]; simp)
  rw [hs] at hc
  unfold cmpV
  generalize keysV b1 b2 b3 = cb at hc ⊢
  replace hc := Lib.hid hc
  go_enter Tryd.func34, Tryd.ntmps34
  go_wp2_with (go_at_call 38; refine hc.out.mono ?_; rintro e w1 ⟨rfl, dk, S1, p1, s1⟩)
  go_end0
  exact ⟨rfl, dk, S1, p1, s1⟩

/-- What a sorted copy is. -/
structure Sorted (w w' : World) (P : Nat → PodV) (n : Nat) (v : Value) : Prop where
  keep : Keep w w'
  at_ : ∃ g, v = .slice (some ⟨g, 0, none⟩) n n ∧ w.heap.size ≤ g ∧ g < w'.heap.size ∧ (∀ t, t < n * 9 → w'.frozen? ⟨g, t, none⟩ = false) ∧
    ∃ (S : Nat → PodV) (dk : Array Nat), RdPods w' (some ⟨g, 0, none⟩) n S ∧ (∀ j, j < n → ∃ base, Req w' base (S j) ∧ PodOk (S j) ∧ (Value.slice (S j).A (S j).m (S j).c).ownBlock ≠ some g) ∧ PermIn 0 n (Array.range n) dk ∧ SortedIn (lo (ltOf (cfP P))) 0 n dk ∧ ∀ j, j < n → SameV (S j) (P dk[j]!)

theorem cmp_same {x y z u : PodV} (h : SameV x y) (k : SameV z u) : cmpP x z = cmpP y u := by
  obtain ⟨A, c, rfl⟩ := h
  obtain ⟨B, d, rfl⟩ := k
  rfl

set_option maxRecDepth 100000 in
set_option maxHeartbeats 8000000 in
theorem ksort_fn (A : Option Addr) (n c : Nat) (P : Nat → PodV) (w : World) (hR : RdPods w A n P) (hn : n ≤ 1048576) (hm : ∀ j, j < n → (P j).m ≤ 1048576) :
    Calls Tryd.prog 29 #[.slice A n c] w fun e w' => ∃ v, e = .returned v ∧ Sorted w w' P n v := by
  replace hR := Lib.hid hR
  replace hm := Lib.hid hm
  obtain ⟨i0, hi0, hz0, hz1, hz2⟩ := info_parts Tryd.infoPod
  obtain ⟨wm, hmk, hown, hgm⟩ := Go.run_makeSlice_owned (P := Tryd.prog) (w := w) w.heap.size 27 35 i0 _ 9 Tryd.underlying27 hi0 hz0 hz1 .i64 .i64 n (by omega) (by rw [hz2]; omega) (by unfold maxLen; omega) (Nat.le_refl _)
  have km : Keep w wm := keep_grown (Keep.refl w) hgm (fun g h => by cases h)
  obtain ⟨g, hg⟩ : ∃ g, g = w.heap.size := ⟨_, rfl⟩
  rw [← hg] at hmk hown
  have r0 : Hid (RowP wm g (.slice (some ⟨g, 0, none⟩) 0 n) 0 P) := ⟨hown, fun _ h => absurd h (Nat.not_lt_zero _), fun _ h => absurd h (Nat.not_lt_zero _)⟩
  have hsz := km.size
  rw [← hg] at hsz
  replace hg := Lib.hid hg
  replace km := Lib.hid km
  replace hgm := Lib.hid hgm
  replace hown := Lib.hid hown
  go_enter Tryd.func29, Tryd.ntmps29
  go_wp2
  go_loopg [3, 11] n (fun gx s3 s11 wr => ∃ (j : Nat) (Q : Nat → PodV), j ≤ n ∧ gx = n - j ∧ s11 = .int .i64 j ∧ s3 = .slice (some ⟨g, 0, none⟩) j n ∧ Hid (Keep w wr) ∧ Hid (RowP wr g (.slice (some ⟨g, 0, none⟩) j n) j Q) ∧ Hid (∀ t, t < j → SameV (Q t) (P t)))
  case atStart => exact ⟨0, P, Nat.zero_le _, rfl, rfl, rfl, km, r0, fun t ht => absurd ht (Nat.not_lt_zero _)⟩
  case round =>
    clear r0 hgm hown hmk hsz
    obtain ⟨j, Q, hj, rfl, rfl, rfl, G, RW, SV⟩ := hrel
    have R2 := Lib.hid (hR.out.keep G.out)
    by_cases hlt : j < n
    · obtain ⟨b, off, hA, ca⟩ := R2.out.adr (by omega)
      subst hA
      have q1 := pods_at b off n c j hlt
      have X := ca j hlt
      have Xi := R2.out.is j hlt
      have hxm := hm.out j hlt
      clear ca
      obtain ⟨x, hx⟩ : ∃ x, x = P j := ⟨_, rfl⟩
      rw [← hx] at X Xi hxm
      replace hx := Lib.hid hx
      replace Xi := Lib.hid Xi
      have x0 := X.e0; have x1 := X.e1; have x2 := X.e2; have x3 := X.e3; have x4 := X.e4; have x5 := X.e5; have x6 := X.e6; have x7 := X.e7; have x8 := X.e8
      clear X
      have hk : ∀ W : World, PodIs W x → Calls Tryd.prog 33 #[.agg #[.int .i64 x.k, .int .i64 x.p, .bool x.f, .int .i64 x.g, .slice x.A x.m x.c, .int .i64 x.a, .int .i64 x.h, .int .i64 x.d, .int .i64 x.t]] W fun e w' => ∃ A c, e = .returned (.agg #[.int .i64 x.k, .int .i64 x.p, .bool x.f, .int .i64 x.g, .slice A x.m c, .int .i64 x.a, .int .i64 x.h, .int .i64 x.d, .int .i64 x.t]) ∧ Keep W w' ∧ PodIs w' (x.at A c) ∧ w'.ownsRow W.heap.size 2 1 (.slice A x.m c) x.m (rowL x.m x.Z) := fun W h => kclone_fn x W h hxm
      replace hk := Lib.hid hk
      go_wp2_with fail
      refine (hk.out _ (Xi.out.keep (Keep.one _ _))).mono ?_
      rintro e w1 ⟨A', c', rfl, k1, is1, rq1⟩
      have RW1 := Lib.hid (RW.out.keep ((Keep.one _ _).trans k1))
      have G1 := Lib.hid (G.out.trans ((Keep.one _ _).trans k1))
      have hg1 : g ≤ w1.heap.size := by rw [hg.out]; exact G1.out.size
      have rq2 : Hid (Req w1 g (x.at A' c')) := own_base rq1 (by
        have := G.out.size
        rw [World.size_alloc]
        have := hg.out
        omega)
      have ok2 := Lib.hid is1.ok
      replace is1 := Lib.hid is1
      replace rq1 := Lib.hid rq1
      replace k1 := Lib.hid k1
      clear x0 x1 x2 x3 x4 x5 x6 x7 x8 q1 Xi R2
      have N1 : Hid (∀ o : Obj, ∀ i u, (x.at A' c').cells[i]? = some u → o = .cells #[.int .i64 x.k, .int .i64 x.p, .bool x.f, .int .i64 x.g, .slice A' x.m c', .int .i64 x.a, .int .i64 x.h, .int .i64 x.d, .int .i64 x.t] 35 → (w1.alloc o).cell? ((⟨w1.heap.size, 0, none⟩ : Addr).add i) = some u) := by
        intro o i u hu ho
        subst ho
        rw [WideShapes.add_plain, Nat.zero_add, World.cell?_alloc_new, ← hu, List.getElem?_toArray]
        rfl
      go_wp2_with (at_builtin; refine wpList_append_own_spare _ rfl _ _ 27 rfl g 35 i0 9 Tryd.underlying27 hi0 hz1 g j n (podCs Q j) (by simp [Act.eval]) ((RW1.out.keep (Keep.one _ _)).row) ⟨w1.heap.size, 0, none⟩ 1 1 (x.at A' c').cells (by simp [Act.eval]) (by rw [cells9]) (fun i u hu => N1.out _ i u hu rfl) (cells_one _) (by omega) ?_; intro w2 hr2 hg2)
      have RW2 : Hid (RowP w2 g (.slice (some ⟨g, 0, none⟩) (j + 1) n) (j + 1) (put Q j (x.at A' c'))) := (RW1.out.keep (Keep.one _ _)).more (own_keep rq2.out (Keep.one _ _)) ok2.out hr2 hg2
      have G2 : Hid (Keep w w2) := keep_grown (G1.out.trans (Keep.one _ _)) hg2 (fun q hq => by
        have := hg.out
        simp at hq
        omega)
      replace hr2 := Lib.hid hr2
      replace hg2 := Lib.hid hg2
      go_roundg (n - (j + 1))
      case measure => omega
      case rel =>
        refine ⟨j + 1, put Q j (x.at A' c'), hlt, rfl, by go_num, rfl, G2, RW2, fun t ht => ?_⟩
        by_cases e : t = j
        · subst e
          rw [put_at, ← hx.out]
          exact ⟨A', c', rfl⟩
        · rw [put_ne _ _ _ e]
          exact SV.out t (by omega)
    · obtain rfl : j = n := by omega
      go_wp2_with fail
      refine (order_fn wr).mono ?_
      rintro e w1 ⟨b1, b2, b3, rfl, K1, h1, n1, n2, n3⟩
      have hgs : g < wr.heap.size := (RW.out.row.lt g rfl).2
      have RW1 := Lib.hid (RW.out.keep h1.keep)
      have hH := RW1.out.holds
      have hgs1 : g < w1.heap.size := Nat.lt_of_lt_of_le hgs h1.keep.size
      have hc := sstablefunc_fn Q b1 b2 b3 g j j w1 K1 (by omega) (by omega) (by omega) hgs1 hn hH
      have G1 := Lib.hid (G.out.trans h1.keep)
      have hfz : Hid (∀ t, t < j * 9 → w1.frozen? ⟨g, t, none⟩ = false) := fun t ht => RW1.out.row.frozenAt t
      unfold cmpV keysV at hc
      unfold cmpV keysV
      replace hc := Lib.hid hc
      replace hH := Lib.hid hH
      replace K1 := Lib.hid K1
      replace h1 := Lib.hid h1
      replace n1 := Lib.hid n1
      replace n2 := Lib.hid n2
      replace n3 := Lib.hid n3
      go_wp2_with fail
      refine hc.out.mono ?_
      rintro e w2 ⟨rfl, dk, S2, p2, s2⟩
      have hgr := Lib.hid (swk_grown S2)
      have hdk : dk.size = j := by rw [p2.1, Array.size_range]
      have hH2 := Lib.hid (S2.holds hgs1 hH.out (by rw [hdk, Array.size_range]))
      have hle := hgr.out.size
      replace S2 := Lib.hid S2
      replace p2 := Lib.hid p2
      replace s2 := Lib.hid s2
      go_wp2
      go_ret
      have hin : ∀ t, t < j → dk[t]! < j := fun t ht => permIn_all (Array.range j) dk 0 j (fun v => v < j) (by simp) p2.out (fun i _ hi => by rw [getElem!_pos _ _ (by simpa using hi)]; simpa using hi) t (Nat.zero_le _) ht
      have hq : ∀ t, t < j → Req w2 g (Q t) ∧ (Value.slice (Q t).A (Q t).m (Q t).c).ownBlock ≠ some g := fun t ht => by
        have r := RW1.out.own t ht
        have ap := rows_apart r RW1.out.row (by decide)
        have ne : (Value.slice (Q t).A (Q t).m (Q t).c).ownBlock ≠ some g := by
          rcases ap with h | h
          · rw [h]; simp
          · exact h
        exact ⟨World.ownsRow.kept r hgr.out (Or.inr ne), ne⟩
      refine ⟨_, rfl, keep_grown G1.out hgr.out (fun q hq => by have := hg.out; simp at hq; omega), g, rfl, by rw [← hg.out]; exact Nat.le_refl _, by omega, fun t ht => ?_, fun t => Q dk[t]!, dk, ⟨by omega, fun _ => ⟨g, 0, rfl, fun t ht => holds_cel hH2.out (by omega)⟩, fun t ht => (hq _ (hin t ht)).1.is (RW1.out.ok _ (hin t ht))⟩, fun t ht => ⟨g, (hq _ (hin t ht)).1, RW1.out.ok _ (hin t ht), (hq _ (hin t ht)).2⟩, p2.out, ?_, fun t ht => SV.out _ (hin t ht)⟩
      · have := (hH2.out t (by rw [size_flatK, hdk]; exact ht)).2
        rwa [Nat.zero_add] at this
      · intro s t h1 h2 h3
        have := s2.out s t h1 h2 h3
        have e : ∀ s t, s < j → t < j → lo (ltOf (cfP Q)) s t = lo (ltOf (cfP P)) s t := fun s t hs ht => by
          have e1 : cfP Q s t = cfP P s t := cmp_same (SV.out s hs) (SV.out t ht)
          have e2 : cfP Q t s = cfP P t s := cmp_same (SV.out t ht) (SV.out s hs)
          unfold lo ltOf
          rw [e1, e2]
        rwa [e _ _ (hin t h3) (hin s (by omega))] at this
end Go.Proofs.YtpkpmoiekjhdnaaDoor
