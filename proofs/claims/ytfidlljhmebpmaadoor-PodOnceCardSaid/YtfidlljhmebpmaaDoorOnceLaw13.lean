/-
  The walk of PodOnce. Condition: errors.errorType holds its own.
-/
import Derived.Test.YtfidlljhmebpmaaDoorOnceMath13
namespace Go.Proofs.YtfidlljhmebpmaaDoor.T13
open Go.RowKit Go.Sort Go.Lib V12

def DoneIf (M : List PodV) (id ev : Int) : Prop := ev = 1 ∨ ev = 5 → Done M (id, ev)
theorem doneIf_use {M : List PodV} {id ev : Int} (h : DoneIf M id ev) (e : ev = 1 ∨ ev = 5) : Done M (id, ev) := h e
theorem gen_world {K : Act → World → Prop} {a : Act} {w : World} (h : ∀ w', w' = w → K a w') : K a w := h w rfl
theorem two_set {w : World} {s : Nat} {a0 a1 u : Value} {T : TypeId} (h : w.heap[s]? = some (.cells #[a0, a1] T (0, 0))) :
    (w.setCell ⟨s, 0, none⟩ u).heap[s]? = some (.cells #[u, a1] T (0, 0)) ∧ (w.setCell ⟨s, 1, none⟩ u).heap[s]? = some (.cells #[a0, u] T (0, 0)) := by
  have hlt := lt_of_block h
  have h' : w.heap[s] = .cells #[a0, a1] T (0, 0) := by simpa [Array.getElem?_eq_getElem hlt] using h
  refine ⟨?_, ?_⟩
  all_goals
    show (w.heap.modify s _)[s]? = _
    rw [Array.getElem?_eq_getElem (by simpa using hlt), Array.getElem_modify_self, h']
    rfl
theorem row_same {w w' : World} {base n z : Nat} {e : TypeId} {v : Value} {xs : List Value} (h : w.ownsRow base e z v n xs) (f : ∀ g, v.ownBlock = some g → w'.heap[g]? = w.heap[g]?) : w'.ownsRow base e z v n xs :=
  ⟨h.1, h.2.imp id fun ⟨g, cap, cur, e1, h2, h3, h4⟩ => ⟨g, cap, cur, e1, h2, (f g (by rw [e1]; rfl)).trans h3, h4⟩⟩
/-- What Submit leaves, for the law. -/
theorem sub_err {OS : Pred} (C : Con OS) {w : World} {s : Int} {q : Nat} {L : List PodV} {X : Nat → Prop} {w1 : World} (h : OS w s q L X w1) (hg : ErrT w) (x : PodV) (hx : PodIs w1 x) (hm : x.m ≤ 1000) (hl : L.length ≤ 1000) :
    Calls Tryd.prog 23 #[.pointer (some ⟨q, 0, none⟩), x.val] w1 fun e w' => ∃ v er, e = .returned (.tuple #[v, er]) ∧ (er = .nilIface ∨ ∃ cc, er = .iface 88 (.agg #[.int .i64 cc, .int .i64 0])) ∧ OS w s q (subL L s x) X w' ∧ SameX X w1 w' := by
  refine (C.submit x h (hg.keep (C.kp h)) hx hm hl).mono ?_
  rintro e w' ⟨r, rfl, _, _, _, _, h5, h6⟩
  refine ⟨_, _, rfl, ?_, C.less h5 fun i hi => Or.inl hi, h6⟩
  unfold fltC
  split
  · exact Or.inl rfl
  · exact Or.inr ⟨_, flt_val _ _⟩
theorem app_err {OS : Pred} (C : Con OS) {w : World} {s : Int} {q : Nat} {L : List PodV} {X : Nat → Prop} {w1 : World} (h : OS w s q L X w1) (hg : ErrT w) (id e nd dl : Int) (hi : I64 id) (he : I64 e) (hn : I64 nd) (hd : I64 dl) (hy : ∀ y ∈ L, y.m ≤ 20) (hl : L.length ≤ 1000) :
    Calls Tryd.prog 24 #[.pointer (some ⟨q, 0, none⟩), .int .i64 id, .int .i64 e, .int .i64 nd, .int .i64 dl] w1 fun e' w' => ∃ v, e' = .returned (.tuple #[v, fltC (appC L id e)]) ∧ OS w s q (appL L id e nd dl) X w' ∧ SameX X w1 w' := by
  refine (C.apply id e nd dl h (hg.keep (C.kp h)) hi he hn hd (fun y hy' => by have := hy y hy'; omega) hl).mono ?_
  rintro e w' ⟨r, rfl, _, _, _, _, h5, h6⟩
  exact ⟨_, rfl, C.less h5 fun i hi => Or.inl hi, h6⟩
theorem sub_m {L : List PodV} {s : Int} {x : PodV} {m : Nat} (h : ∀ y ∈ L, y.m ≤ m) (ho : x.m ≤ m) : ∀ y ∈ subL L s x, y.m ≤ m := opL_m (o := ⟨0, x, 0, 0⟩) h ho
theorem app_m {L : List PodV} {id e nd dl : Int} {m : Nat} (h : ∀ y ∈ L, y.m ≤ m) : ∀ y ∈ appL L id e nd dl, y.m ≤ m := by
  intro y hy
  unfold appL at hy
  split at hy
  · obtain ⟨z, hz, rfl⟩ := List.mem_map.1 hy
    split
    · exact h z hz
    · exact h z hz
  · exact h y hy
section
variable {ops : Array Oper} {rest : List Oper} {o : Oper} {a : Act} {w : World} {Q : Exit → Act → World → Prop}
/-- Where the row lies behind an append: where it lay, or in a new block. -/
theorem pair_block {ty : TypeId} {base n : Nat} {v v' : Value} {w' : World} {xs : List Value} (hown : w.ownsRow base 52 2 v n xs) (ad : Addr) (c : Nat) (news : List Value) (hl : news.length = 1 * 2) (hnews : ∀ j u, news[j]? = some u → w.cell? (ad.add j) = some u) (h1 : ∀ u ∈ news, u.oneCell' = true) (hlim : n + 1 ≤ 1048577)
    (hr : (Builtin.append_ #[46, 46] ty #[v, .slice (some ad) 1 c]).run Tryd.prog w = .ok v' w') : ∀ g, v'.ownBlock = some g → v.ownBlock = some g ∨ w.heap.size ≤ g := by
  obtain ⟨i0, hi0, hz0, hz1, hz2⟩ := info_parts Tryd.infoPr
  intro g hg
  rcases hown.2 with ⟨rfl, rfl⟩ | ⟨g0, cap, cur, rfl, hbg, hb0, hnc, hcm, hcs, htake⟩
  · obtain ⟨v2, w2, hr2, h2, _, _⟩ := run_append_own (P := Tryd.prog) (w := w) w.heap.size 46 ty 52 i0 _ 2 16 Tryd.underlying46 hi0 hz0 hz1 hz2 rfl (by decide) (.slice none 0 0) 0 [] (World.ownsRow_nil _ _ _ _) ad 1 c news hl hnews h1 (by unfold maxLen; omega) (by omega) (Nat.le_refl _)
    rw [hr] at hr2
    simp only [Result.ok.injEq] at hr2
    rw [← hr2.1] at h2
    exact Or.inr (h2.lt g hg).1
  · by_cases hroom : n + 1 ≤ cap
    · obtain ⟨w2, hr2, _, _⟩ := run_append_fits (P := Tryd.prog) w base 46 ty 52 i0 2 Tryd.underlying46 hi0 hz1 g0 n cap xs hown ad 1 c news hl hnews h1 hroom
      rw [hr] at hr2
      simp only [Result.ok.injEq] at hr2
      rw [hr2.1] at hg
      exact Or.inl hg
    · have holds : ∀ j u, xs[j]? = some u → w.cell? ((⟨g0, 0, none⟩ : Addr).add j) = some u := hown.cells (g := g0) rfl
      have hr2 := run_append_grow (P := Tryd.prog) w 46 ty 52 i0 _ Tryd.underlying46 hi0 hz0 ⟨g0, 0, none⟩ n cap xs (by rw [hz1]; exact hown.1) holds ad 1 c news (by rw [hz1]; exact hl) hnews (by omega) (by omega) (growslice_fits (by omega) (by rw [hz2]; omega))
      rw [hr] at hr2
      simp only [Result.ok.injEq] at hr2
      rw [hr2.1] at hg
      refine Or.inr ?_
      have : w.heap.size = g := by simpa [Value.ownBlock] using hg
      omega
theorem wpl_pair (hgd : o.guard = none) (s x : Operand) (ho : o.op = .call { callee := .builtin .append, args := #[s, x], argTypes := #[46, 46] })
    (base : Nat) (v : Value) (n : Nat) (D : List (Int × Int)) (hs : a.eval s = v) (hown : w.ownsRow base 52 2 v n (prCs D)) (kb c : Nat) (p : Int × Int) (hx : a.eval x = .slice (some ⟨kb, 0, none⟩) 1 c) (hb : w.heap[kb]? = some (.cells #[.int .i64 p.1, .int .i64 p.2] 52 (0, 0)))
    (hlim : n + 1 ≤ 1048577) (hbase : base ≤ w.heap.size) (N : Nat) (hN : n + 1 = N)
    (h : ∀ v' w', w'.ownsRow base 52 2 v' N (prCs (D ++ [p])) → w.grownBy w' v.ownBlock → (∀ g, v'.ownBlock = some g → v.ownBlock = some g ∨ w.heap.size ≤ g) → wpList Tryd.prog ops Q rest (a.put o.dst v') w') : wpList Tryd.prog ops Q (o :: rest) a w := by
  subst hN
  obtain ⟨i0, hi0, hz0, hz1, hz2⟩ := info_parts Tryd.infoPr
  have hnews : ∀ j u, (prC p)[j]? = some u → w.cell? ((⟨kb, 0, none⟩ : Addr).add j) = some u := fun j u hu => by
    rw [WideShapes.add_plain, Nat.zero_add, cell_of_row w kb j _ _ _ hb, List.getElem?_toArray]
    exact hu
  have h1 : ∀ u ∈ prC p, u.oneCell' = true := by
    intro u hu
    simp only [prC, List.mem_cons, List.not_mem_nil, or_false] at hu
    rcases hu with rfl | rfl <;> rfl
  refine wpList_plain hgd fun K hK => ?_
  obtain ⟨v', w', hr, h2, h3, _⟩ := run_append_own (P := Tryd.prog) (w := w) base 46 o.type 52 i0 _ 2 16 Tryd.underlying46 hi0 hz0 hz1 hz2 rfl (by decide) v n (prCs D) hown ⟨kb, 0, none⟩ 1 c (prC p) rfl hnews h1 (by unfold maxLen; omega) (by omega) hbase
  have hbl := pair_block hown ⟨kb, 0, none⟩ c (prC p) rfl hnews h1 hlim hr
  unfold Oper.wp execOp
  simp only [ho, resolve, invoke, builtin, Sem.run_bind, Sem.run_pure, Result.andThen_ok, List.map_toArray, List.map_cons, List.map_nil, hs, hx, hr]
  exact hK _ _ (h v' w' (by rw [prCs_app]; exact h2) h3 hbl)
end
set_option maxRecDepth 100000 in
set_option maxHeartbeats 8000000 in
theorem once_walk {OS : Pred} (C : Con OS) (A : Option Addr) (n c : Nat) (P : Nat → OpV) (w : World) (hR : RdO w A n P) (hg : ErrT w) : Calls Tryd.prog 5 #[.slice A n c] w fun e w' => e = .returned (.bool true) ∧ Keep w w' := by
  have hs := hR.small
  obtain ⟨fb, hfb⟩ := few_or P n
  have cF : Hid (∀ W, Keep w W → Calls Tryd.prog 10 #[.slice A n c] W fun e w' => e = .returned (.bool fb) ∧ Keep W w') := fun W k => few_fn A n c P W (hR.keep k) fb hfb
  have aw : Hid (∀ W, Keep w W → Calls Tryd.prog 9 #[] W fun e w' => e = .returned (.bool true) ∧ Keep W w') := fun W k => awake_true C W (hg.keep k)
  have cN : Hid (Calls Tryd.prog 8 #[.int .i64 100] w fun e w' => ∃ q, e = .returned (.pointer (some ⟨q, 0, none⟩)) ∧ OS w 100 q [] (fun _ => False) w' ∧ Keep w w') := C.new 100 w w (Keep.refl w) (by unfold I64; omega)
  replace hfb := Lib.hid hfb
  replace hg := Lib.hid hg
  replace hR := Lib.hid hR
  go_enter Tryd.func5, Tryd.ntmps5
  go_wp2_with fail
  refine cN.out.mono ?_
  rintro e w1 ⟨q, rfl, o1, _⟩
  have K1 := Lib.hid (C.kp o1)
  replace o1 := Lib.hid o1
  go_wp2_with fail
  refine (aw.out _ K1.out).mono ?_
  rintro e w2 ⟨rfl, k2⟩
  replace o1 := Lib.hid (C.keep o1.out k2)
  replace K1 := Lib.hid (C.kp o1.out)
  replace k2 := Lib.hid k2
  go_wp2_with fail
  refine (cF.out w2 K1.out).mono ?_
  rintro e w3 ⟨rfl, k3⟩
  replace o1 := Lib.hid (C.keep o1.out k3)
  replace K1 := Lib.hid (C.kp o1.out)
  replace k3 := Lib.hid k3
  cases fb with
  | false =>
    go_wp2_with fail
    refine (aw.out _ K1.out).mono ?_
    rintro e w4 ⟨rfl, k4⟩
    go_wp2
    go_ret
    exact ⟨rfl, K1.out.trans k4⟩
  | true =>
  have hf := hfb.out.1 rfl
  have hn := hf.1
  replace hf := Lib.hid hf
  clear cN aw cF
  go_wp2
  go_loopg [4, 5] n (fun gx s4 s5 wr => ∃ (i k : Nat) (B : Option Addr) (d : Nat) (D : List (Int × Int)) (M : List PodV) (X : Nat → Prop), i ≤ n ∧ gx = n - i ∧ s5 = .int .i64 i ∧ s4 = .slice B k d ∧ k ≤ i ∧ Hid (OS w 100 q M X wr) ∧ M.length ≤ i ∧ Hid ((∀ y ∈ M, y.m ≤ 20) ∧ D.length = k) ∧ Hid (∀ p ∈ D, Done M p) ∧ Hid (wr.ownsRow w.heap.size 52 2 (.slice B k d) k (prCs D)) ∧ Hid (∀ g, (Value.slice B k d).ownBlock = some g → X g))
  case atStart => exact ⟨0, 0, none, 0, [], [], _, Nat.zero_le _, rfl, rfl, rfl, Nat.le_refl _, o1.out, Nat.zero_le _, ⟨(fun y h => by cases h), rfl⟩, (fun p h => by cases h), World.ownsRow_nil _ _ _ _, (fun g h => by cases h)⟩
  case round =>
    clear o1 K1 k2 k3
    obtain ⟨i, k, B, d, D, M, X, hi, rfl, rfl, rfl, hki, OO, hMl, hMD, DN, RD, XB⟩ := hrel
    by_cases hlt : i < n
    · have KR := Lib.hid (C.kp OO.out)
      obtain ⟨b, off, hA, _⟩ := hR.out.adr (by omega)
      subst hA
      have q1 := atO b off n c i hlt
      have ox := hR.out.is i hlt
      have hnx := (hf.out.2 i hlt).m
      obtain ⟨x, hx⟩ : ∃ x, x = P i := ⟨_, rfl⟩
      obtain ⟨oo, hoo⟩ : ∃ oo, oo = off + i * 12 := ⟨_, rfl⟩
      have atW : Hid (∀ W, Keep w W → Cel12 W b oo x) := fun W k => by rw [hx, hoo]; exact (hR.out.keep k).at hlt
      rw [← hx] at ox hnx
      rw [← hoo] at q1
      replace hx := Lib.hid hx
      replace hoo := Lib.hid hoo
      have X0 := atW.out wr KR.out
      by_cases hev : x.ev = 0
      · have cS := sub_err C OO.out hg.out x.x (ox.x.keep KR.out) (by omega) (by omega)
        have hl2 := subL_len M 100 x.x
        obtain ⟨M2, hM2⟩ : ∃ M2, M2 = subL M 100 x.x := ⟨_, rfl⟩
        rw [← hM2] at cS hl2
        have DN2 : Hid (∀ p ∈ D, Done M2 p) := fun p hp => by rw [hM2]; exact done_sub (DN.out p hp) _ _
        have m2 : Hid (∀ y ∈ M2, y.m ≤ 20) := by rw [hM2]; exact sub_m hMD.out.1 hnx
        replace hM2 := Lib.hid hM2
        have y0 := X0.x.e0; have y1 := X0.x.e1; have y2 := X0.x.e2; have y3 := X0.x.e3; have y4 := X0.x.e4; have y5 := X0.x.e5; have y6 := X0.x.e6; have y7 := X0.x.e7; have y8 := X0.x.e8
        have ye := X0.e
        rw [hev] at ye
        clear X0
        unfold PodV.val at cS
        replace cS := Lib.hid cS
        replace ox := Lib.hid ox
        go_wp2_with fail
        refine cS.out.mono ?_
        rintro e w4 ⟨v, er, rfl, her, O4, S4⟩
        have z4 := (atW.out w4 (C.kp O4)).e
        rw [hev] at z4
        replace hev := Lib.hid hev
        replace O4 := Lib.hid O4
        replace S4 := Lib.hid S4
        clear ye y0 y1 y2 y3 y4 y5 y6 y7 y8 cS
        rcases her with rfl | ⟨cc, rfl⟩
        · go_wp2
          go_roundg (n - (i + 1))
          case measure => omega
          case rel => exact ⟨i + 1, k, B, d, D, M2, X, hlt, rfl, by go_num, rfl, by omega, O4.out, by omega, ⟨m2.out, hMD.out.2⟩, fun p hp => DN2.out p hp, row_same RD.out (fun g hg => S4.out g (XB.out g hg)), XB.out⟩
        · go_wp2
          go_roundg (n - (i + 1))
          case measure => omega
          case rel => exact ⟨i + 1, k, B, d, D, M2, X, hlt, rfl, by go_num, rfl, by omega, O4.out, by omega, ⟨m2.out, hMD.out.2⟩, fun p hp => DN2.out p hp, row_same RD.out (fun g hg => S4.out g (XB.out g hg)), XB.out⟩
      · have cA : ∀ W, Keep wr W → Calls Tryd.prog 24 #[.pointer (some ⟨q, 0, none⟩), .int .i64 x.x.k, .int .i64 x.ev, .int .i64 x.nd, .int .i64 x.dl] W fun e' w' => ∃ v, e' = .returned (.tuple #[v, fltC (appC M x.x.k x.ev)]) ∧ OS w 100 q (appL M x.x.k x.ev x.nd x.dl) X w' ∧ SameX X wr w' := fun W kw => by
          refine (app_err C (C.keep OO.out kw) hg.out x.x.k x.ev x.nd x.dl ox.x.rng.1 ox.e ox.n ox.d hMD.out.1 (by omega)).mono ?_
          rintro e' w' ⟨v, rfl, h1, h2⟩
          exact ⟨v, rfl, h1, fun i hi => (h2 i hi).trans (Below.block kw i (C.lt OO.out i hi))⟩
        have hl2 : (appL M x.x.k x.ev x.nd x.dl).length = M.length := appL_len
        have DN2 : Hid (∀ p ∈ D, Done (appL M x.x.k x.ev x.nd x.dl) p) := fun p hp => done_app (DN.out p hp) _ _ _ _
        have m2 : Hid (∀ y ∈ appL M x.x.k x.ev x.nd x.dl, y.m ≤ 20) := app_m hMD.out.1
        have hcd : Hid (appC M x.x.k x.ev = 0 → x.ev = 1 ∨ x.ev = 5 → Done (appL M x.x.k x.ev x.nd x.dl) (x.x.k, x.ev)) := fun h1 h2 => app_done h1 h2 _ _
        have hno : Hid (appC M x.x.k x.ev = 0 → ∀ p ∈ D, p ≠ (x.x.k, x.ev)) := fun h1 p hp e => by
          have := done_no (DN.out p hp)
          rw [e] at this
          exact this h1
        obtain ⟨M2, hM2⟩ : ∃ M2, M2 = appL M x.x.k x.ev x.nd x.dl := ⟨_, rfl⟩
        rw [← hM2] at cA hl2 DN2 m2 hcd
        replace hM2 := Lib.hid hM2
        have m0 := X0.e; have m1 := X0.x.e0; have m2' := X0.n; have m3 := X0.d
        clear X0
        obtain ⟨ev, hEv⟩ : ∃ ev, ev = x.ev := ⟨_, rfl⟩
        obtain ⟨id, hId⟩ : ∃ id, id = x.x.k := ⟨_, rfl⟩
        obtain ⟨nd, hNd⟩ : ∃ nd, nd = x.nd := ⟨_, rfl⟩
        obtain ⟨dl, hDl⟩ : ∃ dl, dl = x.dl := ⟨_, rfl⟩
        have atW2 : Hid (∀ W, Keep w W → Cel12 W b oo x) := atW
        rw [← hEv] at m0 cA hcd hno hev
        rw [← hId] at m1 cA hcd hno
        rw [← hNd] at m2' cA
        rw [← hDl] at m3 cA
        have atE : Hid (∀ W, Keep w W → W.cell? ⟨b, oo, none⟩ = some (.int .i64 ev) ∧ W.cell? ⟨b, oo + 1, none⟩ = some (.int .i64 id) ∧ W.cell? ⟨b, oo + 10, none⟩ = some (.int .i64 nd) ∧ W.cell? ⟨b, oo + 11, none⟩ = some (.int .i64 dl)) := fun W k => by
          have h := atW.out W k
          rw [hEv, hId, hNd, hDl]
          exact ⟨h.e, h.x.e0, h.n, h.d⟩
        replace hEv := Lib.hid hEv
        replace hId := Lib.hid hId
        replace hNd := Lib.hid hNd
        replace hDl := Lib.hid hDl
        obtain ⟨cc, hcc⟩ : ∃ cc, cc = appC M id ev := ⟨_, rfl⟩
        rw [← hcc] at cA hcd hno
        replace hcc := Lib.hid hcc
        have ev0 : (ev == 0) = false := by simpa using hev
        replace ox := Lib.hid ox
        clear atW atW2
        by_cases hc : cc = 0
        · subst hc
          have hno2 : Hid (∀ p ∈ D, p ≠ (id, ev)) := hno.out rfl
          have hcd2 : Hid (DoneIf M2 id ev) := hcd.out rfl
          clear hno hcd
          replace cA : Hid (∀ W, Keep wr W → Calls Tryd.prog 24 #[.pointer (some ⟨q, 0, none⟩), .int .i64 id, .int .i64 ev, .int .i64 nd, .int .i64 dl] W fun e' w' => ∃ v, e' = .returned (.tuple #[v, .nilIface]) ∧ OS w 100 q M2 X w' ∧ SameX X wr w') := cA
          go_wp2
          have HELD : ∀ Wz, Keep wr Wz → (Wz.cell? ⟨b, oo, none⟩ = some (.int .i64 ev) ∧ Wz.cell? ⟨b, oo + 1, none⟩ = some (.int .i64 id) ∧ Wz.cell? ⟨b, oo + 10, none⟩ = some (.int .i64 nd) ∧ Wz.cell? ⟨b, oo + 11, none⟩ = some (.int .i64 dl)) := fun Wz KK => ⟨KK.cell m0, KK.cell m1, KK.cell m2', KK.cell m3⟩
          refine wp_region_held_drew (S := fun w' => w'.cell? ⟨b, oo, none⟩ = some (.int .i64 ev) ∧ w'.cell? ⟨b, oo + 1, none⟩ = some (.int .i64 id) ∧ w'.cell? ⟨b, oo + 10, none⟩ = some (.int .i64 nd) ∧ w'.cell? ⟨b, oo + 11, none⟩ = some (.int .i64 dl)) (by kernel_rfl) ?_ (fun hHeld => ?_)
          · exact HELD _ (by repeat (with_reducible first | exact Keep.refl wr | apply Keep.alloc | apply Keep.drew | apply Keep.drewN))
          refine wpAnyH_take (i := 0) (v := .pointer (some ⟨q, 0, none⟩)) rfl (by kernel_rfl) (by kernel_rfl) (by kernel_rfl) (fun _ _ _ h => h) (Or.inl ⟨by rfl, fun Wz hW => by obtain ⟨s0, s1, s2, s3⟩ := hW; go_simp⟩) hHeld ?_
          simp only [Act.put, List.getElem_toArray, List.getElem_cons_zero, List.setIfInBounds_toArray, List.set_cons_zero, List.set_cons_succ]
          refine wpAnyH_take (i := 1) (v := .slice (some ⟨b, off, none⟩) n c) rfl (by kernel_rfl) (by kernel_rfl) (by kernel_rfl) (fun _ _ _ h => h) (Or.inl ⟨by rfl, fun Wz hW => by obtain ⟨s0, s1, s2, s3⟩ := hW; go_simp⟩) hHeld ?_
          simp only [Act.put, List.getElem_toArray, List.getElem_cons_succ, List.getElem_cons_zero, List.setIfInBounds_toArray, List.set_cons_zero, List.set_cons_succ]
          refine wpAnyH_take (i := 2) (v := .int .i64 i) rfl (by kernel_rfl) (by kernel_rfl) (by kernel_rfl) (fun _ _ _ h => h) (Or.inl ⟨by rfl, fun Wz hW => by obtain ⟨s0, s1, s2, s3⟩ := hW; go_simp⟩) hHeld ?_
          simp only [Act.put, List.getElem_toArray, List.getElem_cons_succ, List.getElem_cons_zero, List.setIfInBounds_toArray, List.set_cons_zero, List.set_cons_succ]
          refine wpAnyH_take (i := 3) (v := .pointer (some ⟨b, oo, none⟩)) rfl (by kernel_rfl) (by kernel_rfl) (by kernel_rfl) (fun _ _ _ h => h) (Or.inl ⟨by rfl, fun Wz hW => by obtain ⟨s0, s1, s2, s3⟩ := hW; go_simp⟩) hHeld ?_
          simp only [Act.put, List.getElem_toArray, List.getElem_cons_succ, List.getElem_cons_zero, List.setIfInBounds_toArray, List.set_cons_zero, List.set_cons_succ]
          refine wpAnyH_take (i := 4) (v := .pointer (some ⟨b, oo + 1, none⟩)) rfl (by kernel_rfl) (by kernel_rfl) (by kernel_rfl) (fun _ _ _ h => h) (Or.inl ⟨by rfl, fun Wz hW => by obtain ⟨s0, s1, s2, s3⟩ := hW; go_simp⟩) hHeld ?_
          simp only [Act.put, List.getElem_toArray, List.getElem_cons_succ, List.getElem_cons_zero, List.setIfInBounds_toArray, List.set_cons_zero, List.set_cons_succ]
          refine wpAnyH_take (i := 5) (v := .pointer (some ⟨b, oo + 1, none⟩)) rfl (by kernel_rfl) (by kernel_rfl) (by kernel_rfl) (fun _ _ _ h => h) (Or.inl ⟨by rfl, fun Wz hW => by obtain ⟨s0, s1, s2, s3⟩ := hW; go_simp⟩) hHeld ?_
          simp only [Act.put, List.getElem_toArray, List.getElem_cons_succ, List.getElem_cons_zero, List.setIfInBounds_toArray, List.set_cons_zero, List.set_cons_succ]
          refine wpAnyH_take (i := 6) (v := .int .i64 id) rfl (by kernel_rfl) (by kernel_rfl) (by kernel_rfl) (fun _ _ _ h => h) (Or.inl ⟨by rfl, fun Wz hW => by obtain ⟨s0, s1, s2, s3⟩ := hW; go_simp⟩) hHeld ?_
          simp only [Act.put, List.getElem_toArray, List.getElem_cons_succ, List.getElem_cons_zero, List.setIfInBounds_toArray, List.set_cons_zero, List.set_cons_succ]
          refine wpAnyH_take (i := 7) (v := .slice (some ⟨b, off, none⟩) n c) rfl (by kernel_rfl) (by kernel_rfl) (by kernel_rfl) (fun _ _ _ h => h) (Or.inl ⟨by rfl, fun Wz hW => by obtain ⟨s0, s1, s2, s3⟩ := hW; go_simp⟩) hHeld ?_
          simp only [Act.put, List.getElem_toArray, List.getElem_cons_succ, List.getElem_cons_zero, List.setIfInBounds_toArray, List.set_cons_zero, List.set_cons_succ]
          refine wpAnyH_take (i := 8) (v := .int .i64 i) rfl (by kernel_rfl) (by kernel_rfl) (by kernel_rfl) (fun _ _ _ h => h) (Or.inl ⟨by rfl, fun Wz hW => by obtain ⟨s0, s1, s2, s3⟩ := hW; go_simp⟩) hHeld ?_
          simp only [Act.put, List.getElem_toArray, List.getElem_cons_succ, List.getElem_cons_zero, List.setIfInBounds_toArray, List.set_cons_zero, List.set_cons_succ]
          refine wpAnyH_take (i := 9) (v := .pointer (some ⟨b, oo, none⟩)) rfl (by kernel_rfl) (by kernel_rfl) (by kernel_rfl) (fun _ _ _ h => h) (Or.inl ⟨by rfl, fun Wz hW => by obtain ⟨s0, s1, s2, s3⟩ := hW; go_simp⟩) hHeld ?_
          simp only [Act.put, List.getElem_toArray, List.getElem_cons_succ, List.getElem_cons_zero, List.setIfInBounds_toArray, List.set_cons_zero, List.set_cons_succ]
          refine wpAnyH_take (i := 10) (v := .pointer (some ⟨b, oo, none⟩)) rfl (by kernel_rfl) (by kernel_rfl) (by kernel_rfl) (fun _ _ _ h => h) (Or.inl ⟨by rfl, fun Wz hW => by obtain ⟨s0, s1, s2, s3⟩ := hW; go_simp⟩) hHeld ?_
          simp only [Act.put, List.getElem_toArray, List.getElem_cons_succ, List.getElem_cons_zero, List.setIfInBounds_toArray, List.set_cons_zero, List.set_cons_succ]
          refine wpAnyH_take (i := 11) (v := .int .i64 ev) rfl (by kernel_rfl) (by kernel_rfl) (by kernel_rfl) (fun _ _ _ h => h) (Or.inl ⟨by rfl, fun Wz hW => by obtain ⟨s0, s1, s2, s3⟩ := hW; go_simp⟩) hHeld ?_
          simp only [Act.put, List.getElem_toArray, List.getElem_cons_succ, List.getElem_cons_zero, List.setIfInBounds_toArray, List.set_cons_zero, List.set_cons_succ]
          refine wpAnyH_take (i := 12) (v := .slice (some ⟨b, off, none⟩) n c) rfl (by kernel_rfl) (by kernel_rfl) (by kernel_rfl) (fun _ _ _ h => h) (Or.inl ⟨by rfl, fun Wz hW => by obtain ⟨s0, s1, s2, s3⟩ := hW; go_simp⟩) hHeld ?_
          simp only [Act.put, List.getElem_toArray, List.getElem_cons_succ, List.getElem_cons_zero, List.setIfInBounds_toArray, List.set_cons_zero, List.set_cons_succ]
          refine wpAnyH_take (i := 13) (v := .int .i64 i) rfl (by kernel_rfl) (by kernel_rfl) (by kernel_rfl) (fun _ _ _ h => h) (Or.inl ⟨by rfl, fun Wz hW => by obtain ⟨s0, s1, s2, s3⟩ := hW; go_simp⟩) hHeld ?_
          simp only [Act.put, List.getElem_toArray, List.getElem_cons_succ, List.getElem_cons_zero, List.setIfInBounds_toArray, List.set_cons_zero, List.set_cons_succ]
          refine wpAnyH_take (i := 14) (v := .pointer (some ⟨b, oo, none⟩)) rfl (by kernel_rfl) (by kernel_rfl) (by kernel_rfl) (fun _ _ _ h => h) (Or.inl ⟨by rfl, fun Wz hW => by obtain ⟨s0, s1, s2, s3⟩ := hW; go_simp⟩) hHeld ?_
          simp only [Act.put, List.getElem_toArray, List.getElem_cons_succ, List.getElem_cons_zero, List.setIfInBounds_toArray, List.set_cons_zero, List.set_cons_succ]
          refine wpAnyH_take (i := 15) (v := .pointer (some ⟨b, oo + 10, none⟩)) rfl (by kernel_rfl) (by kernel_rfl) (by kernel_rfl) (fun _ _ _ h => h) (Or.inl ⟨by rfl, fun Wz hW => by obtain ⟨s0, s1, s2, s3⟩ := hW; go_simp⟩) hHeld ?_
          simp only [Act.put, List.getElem_toArray, List.getElem_cons_succ, List.getElem_cons_zero, List.setIfInBounds_toArray, List.set_cons_zero, List.set_cons_succ]
          refine wpAnyH_take (i := 16) (v := .int .i64 nd) rfl (by kernel_rfl) (by kernel_rfl) (by kernel_rfl) (fun _ _ _ h => h) (Or.inl ⟨by rfl, fun Wz hW => by obtain ⟨s0, s1, s2, s3⟩ := hW; go_simp⟩) hHeld ?_
          simp only [Act.put, List.getElem_toArray, List.getElem_cons_succ, List.getElem_cons_zero, List.setIfInBounds_toArray, List.set_cons_zero, List.set_cons_succ]
          refine wpAnyH_take (i := 17) (v := .slice (some ⟨b, off, none⟩) n c) rfl (by kernel_rfl) (by kernel_rfl) (by kernel_rfl) (fun _ _ _ h => h) (Or.inl ⟨by rfl, fun Wz hW => by obtain ⟨s0, s1, s2, s3⟩ := hW; go_simp⟩) hHeld ?_
          simp only [Act.put, List.getElem_toArray, List.getElem_cons_succ, List.getElem_cons_zero, List.setIfInBounds_toArray, List.set_cons_zero, List.set_cons_succ]
          refine wpAnyH_take (i := 18) (v := .int .i64 i) rfl (by kernel_rfl) (by kernel_rfl) (by kernel_rfl) (fun _ _ _ h => h) (Or.inl ⟨by rfl, fun Wz hW => by obtain ⟨s0, s1, s2, s3⟩ := hW; go_simp⟩) hHeld ?_
          simp only [Act.put, List.getElem_toArray, List.getElem_cons_succ, List.getElem_cons_zero, List.setIfInBounds_toArray, List.set_cons_zero, List.set_cons_succ]
          refine wpAnyH_take (i := 19) (v := .pointer (some ⟨b, oo, none⟩)) rfl (by kernel_rfl) (by kernel_rfl) (by kernel_rfl) (fun _ _ _ h => h) (Or.inl ⟨by rfl, fun Wz hW => by obtain ⟨s0, s1, s2, s3⟩ := hW; go_simp⟩) hHeld ?_
          simp only [Act.put, List.getElem_toArray, List.getElem_cons_succ, List.getElem_cons_zero, List.setIfInBounds_toArray, List.set_cons_zero, List.set_cons_succ]
          refine wpAnyH_take (i := 20) (v := .pointer (some ⟨b, oo + 11, none⟩)) rfl (by kernel_rfl) (by kernel_rfl) (by kernel_rfl) (fun _ _ _ h => h) (Or.inl ⟨by rfl, fun Wz hW => by obtain ⟨s0, s1, s2, s3⟩ := hW; go_simp⟩) hHeld ?_
          simp only [Act.put, List.getElem_toArray, List.getElem_cons_succ, List.getElem_cons_zero, List.setIfInBounds_toArray, List.set_cons_zero, List.set_cons_succ]
          refine wpAnyH_take (i := 21) (v := .int .i64 dl) rfl (by kernel_rfl) (by kernel_rfl) (by kernel_rfl) (fun _ _ _ h => h) (Or.inl ⟨by rfl, fun Wz hW => by obtain ⟨s0, s1, s2, s3⟩ := hW; go_simp⟩) hHeld ?_
          simp only [Act.put, List.getElem_toArray, List.getElem_cons_succ, List.getElem_cons_zero, List.setIfInBounds_toArray, List.set_cons_zero, List.set_cons_succ]
          refine wpAnyH_ready (rs := [22]) (by kernel_rfl) (by simp) ?_
          refine AllReadyH.cons rfl (fun K hK => ?_) AllReadyH.nil
          simp only [List.getElem_toArray, List.getElem_cons_succ, List.getElem_cons_zero]
          rw [if_pos (by rfl)]
          go_simp
          refine (cA.out _ (by repeat (with_reducible first | exact Keep.refl wr | apply Keep.alloc | apply Keep.drew | apply Keep.drewN))).mono ?_
          rintro e w4 ⟨v, rfl, O4, S4⟩; have K4 := C.kp O4; obtain ⟨n0, n1, n2, n3⟩ := atE.out w4 K4; have HELD2 : ∀ Wz, Keep w4 Wz → (Wz.cell? ⟨b, oo, none⟩ = some (.int .i64 ev) ∧ Wz.cell? ⟨b, oo + 1, none⟩ = some (.int .i64 id) ∧ Wz.cell? ⟨b, oo + 10, none⟩ = some (.int .i64 nd) ∧ Wz.cell? ⟨b, oo + 11, none⟩ = some (.int .i64 dl)) := fun Wz KK => ⟨KK.cell n0, KK.cell n1, KK.cell n2, KK.cell n3⟩; replace O4 := Lib.hid O4; replace S4 := Lib.hid S4; replace K4 := Lib.hid K4
          go_wp2_with fail
          refine hK.out _ _ ?_ (fun hHeld => ?_)
          · exact HELD2 _ (by repeat (with_reducible first | exact Keep.refl w4 | apply Keep.alloc | apply Keep.drew | apply Keep.drewN))
          clear hK K
          try simp only [Act.put, List.getElem_toArray, List.getElem_cons_succ, List.getElem_cons_zero, List.setIfInBounds_toArray, List.set_cons_zero, List.set_cons_succ]
          refine wpAnyH_take (i := 23) (v := .tuple #[v, .nilIface]) rfl (by kernel_rfl) (by kernel_rfl) (by kernel_rfl) (fun _ _ _ h => h) (Or.inl ⟨by rfl, fun Wz hW => by obtain ⟨s0, s1, s2, s3⟩ := hW; go_simp⟩) hHeld ?_
          simp only [Act.put, List.getElem_toArray, List.getElem_cons_succ, List.getElem_cons_zero, List.setIfInBounds_toArray, List.set_cons_zero, List.set_cons_succ]
          refine wpAnyH_take (i := 24) (v := v) rfl (by kernel_rfl) (by kernel_rfl) (by kernel_rfl) (fun _ _ _ h => h) (Or.inl ⟨by rfl, fun Wz hW => by obtain ⟨s0, s1, s2, s3⟩ := hW; go_simp⟩) hHeld ?_
          simp only [Act.put, List.getElem_toArray, List.getElem_cons_succ, List.getElem_cons_zero, List.setIfInBounds_toArray, List.set_cons_zero, List.set_cons_succ]
          refine wpAnyH_take (i := 25) (v := .nilIface) rfl (by kernel_rfl) (by kernel_rfl) (by kernel_rfl) (fun _ _ _ h => h) (Or.inl ⟨by rfl, fun Wz hW => by obtain ⟨s0, s1, s2, s3⟩ := hW; go_simp⟩) hHeld ?_
          simp only [Act.put, List.getElem_toArray, List.getElem_cons_succ, List.getElem_cons_zero, List.setIfInBounds_toArray, List.set_cons_zero, List.set_cons_succ]
          refine wpAnyH_take (i := 26) (v := .nilIface) rfl (by kernel_rfl) (by kernel_rfl) (by kernel_rfl) (fun _ _ _ h => h) (Or.inl ⟨by rfl, fun Wz hW => by obtain ⟨s0, s1, s2, s3⟩ := hW; go_simp⟩) hHeld ?_
          simp only [Act.put, List.getElem_toArray, List.getElem_cons_succ, List.getElem_cons_zero, List.setIfInBounds_toArray, List.set_cons_zero, List.set_cons_succ]
          refine wpAnyH_done (by kernel_rfl) ?_ _
          by_cases h15 : ev = 1 ∨ ev = 5
          · rcases h15 with rfl | rfl
            · go_wp2
              have HELD : ∀ Wz, Keep w4 Wz → (Wz.cell? ⟨b, oo, none⟩ = some (.int .i64 1) ∧ Wz.cell? ⟨b, oo + 1, none⟩ = some (.int .i64 id)) := fun Wz KK => ⟨KK.cell n0, KK.cell n1⟩
              refine wp_region_held_drew (S := fun w' => w'.cell? ⟨b, oo, none⟩ = some (.int .i64 1) ∧ w'.cell? ⟨b, oo + 1, none⟩ = some (.int .i64 id)) (by kernel_rfl) ?_ (fun hHeld => ?_)
              · exact HELD _ (by repeat (with_reducible first | exact Keep.refl w4 | apply Keep.alloc | apply Keep.drew | apply Keep.drewN))
              refine wpAnyH_take (i := 0) (v := .slice (some ⟨b, off, none⟩) n c) rfl (by kernel_rfl) (by kernel_rfl) (by kernel_rfl) (fun _ _ _ h => h) (Or.inl ⟨by rfl, fun Wz hW => by obtain ⟨s0, s1⟩ := hW; go_simp⟩) hHeld ?_
              simp only [Act.put, List.getElem_toArray, List.getElem_cons_zero, List.setIfInBounds_toArray, List.set_cons_zero, List.set_cons_succ]
              refine wpAnyH_take (i := 1) (v := .int .i64 i) rfl (by kernel_rfl) (by kernel_rfl) (by kernel_rfl) (fun _ _ _ h => h) (Or.inl ⟨by rfl, fun Wz hW => by obtain ⟨s0, s1⟩ := hW; go_simp⟩) hHeld ?_
              simp only [Act.put, List.getElem_toArray, List.getElem_cons_succ, List.getElem_cons_zero, List.setIfInBounds_toArray, List.set_cons_zero, List.set_cons_succ]
              refine wpAnyH_take (i := 2) (v := .pointer (some ⟨b, oo, none⟩)) rfl (by kernel_rfl) (by kernel_rfl) (by kernel_rfl) (fun _ _ _ h => h) (Or.inl ⟨by rfl, fun Wz hW => by obtain ⟨s0, s1⟩ := hW; go_simp⟩) hHeld ?_
              simp only [Act.put, List.getElem_toArray, List.getElem_cons_succ, List.getElem_cons_zero, List.setIfInBounds_toArray, List.set_cons_zero, List.set_cons_succ]
              refine wpAnyH_take (i := 3) (v := .pointer (some ⟨b, oo + 1, none⟩)) rfl (by kernel_rfl) (by kernel_rfl) (by kernel_rfl) (fun _ _ _ h => h) (Or.inl ⟨by rfl, fun Wz hW => by obtain ⟨s0, s1⟩ := hW; go_simp⟩) hHeld ?_
              simp only [Act.put, List.getElem_toArray, List.getElem_cons_succ, List.getElem_cons_zero, List.setIfInBounds_toArray, List.set_cons_zero, List.set_cons_succ]
              refine wpAnyH_take (i := 4) (v := .pointer (some ⟨b, oo + 1, none⟩)) rfl (by kernel_rfl) (by kernel_rfl) (by kernel_rfl) (fun _ _ _ h => h) (Or.inl ⟨by rfl, fun Wz hW => by obtain ⟨s0, s1⟩ := hW; go_simp⟩) hHeld ?_
              simp only [Act.put, List.getElem_toArray, List.getElem_cons_succ, List.getElem_cons_zero, List.setIfInBounds_toArray, List.set_cons_zero, List.set_cons_succ]
              refine wpAnyH_take (i := 5) (v := .int .i64 id) rfl (by kernel_rfl) (by kernel_rfl) (by kernel_rfl) (fun _ _ _ h => h) (Or.inl ⟨by rfl, fun Wz hW => by obtain ⟨s0, s1⟩ := hW; go_simp⟩) hHeld ?_
              simp only [Act.put, List.getElem_toArray, List.getElem_cons_succ, List.getElem_cons_zero, List.setIfInBounds_toArray, List.set_cons_zero, List.set_cons_succ]
              refine wpAnyH_take (i := 6) (v := .slice (some ⟨b, off, none⟩) n c) rfl (by kernel_rfl) (by kernel_rfl) (by kernel_rfl) (fun _ _ _ h => h) (Or.inl ⟨by rfl, fun Wz hW => by obtain ⟨s0, s1⟩ := hW; go_simp⟩) hHeld ?_
              simp only [Act.put, List.getElem_toArray, List.getElem_cons_succ, List.getElem_cons_zero, List.setIfInBounds_toArray, List.set_cons_zero, List.set_cons_succ]
              refine wpAnyH_take (i := 7) (v := .int .i64 i) rfl (by kernel_rfl) (by kernel_rfl) (by kernel_rfl) (fun _ _ _ h => h) (Or.inl ⟨by rfl, fun Wz hW => by obtain ⟨s0, s1⟩ := hW; go_simp⟩) hHeld ?_
              simp only [Act.put, List.getElem_toArray, List.getElem_cons_succ, List.getElem_cons_zero, List.setIfInBounds_toArray, List.set_cons_zero, List.set_cons_succ]
              refine wpAnyH_take (i := 8) (v := .pointer (some ⟨b, oo, none⟩)) rfl (by kernel_rfl) (by kernel_rfl) (by kernel_rfl) (fun _ _ _ h => h) (Or.inl ⟨by rfl, fun Wz hW => by obtain ⟨s0, s1⟩ := hW; go_simp⟩) hHeld ?_
              simp only [Act.put, List.getElem_toArray, List.getElem_cons_succ, List.getElem_cons_zero, List.setIfInBounds_toArray, List.set_cons_zero, List.set_cons_succ]
              refine wpAnyH_take (i := 9) (v := .pointer (some ⟨b, oo, none⟩)) rfl (by kernel_rfl) (by kernel_rfl) (by kernel_rfl) (fun _ _ _ h => h) (Or.inl ⟨by rfl, fun Wz hW => by obtain ⟨s0, s1⟩ := hW; go_simp⟩) hHeld ?_
              simp only [Act.put, List.getElem_toArray, List.getElem_cons_succ, List.getElem_cons_zero, List.setIfInBounds_toArray, List.set_cons_zero, List.set_cons_succ]
              refine wpAnyH_take (i := 10) (v := .int .i64 1) rfl (by kernel_rfl) (by kernel_rfl) (by kernel_rfl) (fun _ _ _ h => h) (Or.inl ⟨by rfl, fun Wz hW => by obtain ⟨s0, s1⟩ := hW; go_simp⟩) hHeld ?_
              simp only [Act.put, List.getElem_toArray, List.getElem_cons_succ, List.getElem_cons_zero, List.setIfInBounds_toArray, List.set_cons_zero, List.set_cons_succ]
              refine wpAnyH_take (i := 11) (v := .agg #[.int .i64 id, .int .i64 1]) rfl (by kernel_rfl) (by kernel_rfl) (by kernel_rfl) (fun _ _ _ h => h) (Or.inl ⟨by rfl, fun Wz hW => by obtain ⟨s0, s1⟩ := hW; go_simp⟩) hHeld ?_
              simp only [Act.put, List.getElem_toArray, List.getElem_cons_succ, List.getElem_cons_zero, List.setIfInBounds_toArray, List.set_cons_zero, List.set_cons_succ]
              refine wpAnyH_ready (rs := [12]) (by kernel_rfl) (by simp) ?_
              refine AllReadyH.cons rfl (fun K hK => ?_) AllReadyH.nil
              simp only [List.getElem_toArray, List.getElem_cons_succ, List.getElem_cons_zero]
              rw [if_pos (by rfl)]
              go_simp
              refine gen_world (K := K) (fun w5 hw5 => ?_)
              have K45 : Keep w4 w5 := by rw [hw5]; exact (by repeat (with_reducible first | exact Keep.refl w4 | apply Keep.alloc | apply Keep.drew | apply Keep.drewN))
              replace K45 := Lib.hid K45
              have B5 : w5.heap[w4.heap.size]? = some (.cells #[.int .i64 0, .int .i64 0] 52 (0, 0)) := by rw [hw5]; exact heap_alloc_new _ _
              have z0 : w5.cell? ⟨w4.heap.size, 0, none⟩ = some (.int .i64 0) := by rw [cell_of_row w5 _ 0 _ _ _ B5]; rfl
              have z1 : w5.cell? ⟨w4.heap.size, 1, none⟩ = some (.int .i64 0) := by rw [cell_of_row w5 _ 1 _ _ _ B5]; rfl
              have zf : ∀ i, w5.frozen? ⟨w4.heap.size, i, none⟩ = false := fun i => frozen_of_row w5 _ i _ _ B5
              replace hw5 := Lib.hid hw5
              refine hK.out _ _ ?_ (fun hHeld => ?_)
              · exact HELD _ K45.out
              clear hK K
              try simp only [Act.put, List.getElem_toArray, List.getElem_cons_succ, List.getElem_cons_zero, List.setIfInBounds_toArray, List.set_cons_zero, List.set_cons_succ]
              refine wpAnyH_ready (rs := [13]) (by kernel_rfl) (by simp) ?_
              refine AllReadyH.cons rfl (fun K hK => ?_) AllReadyH.nil
              simp only [List.getElem_toArray, List.getElem_cons_succ, List.getElem_cons_zero]
              rw [if_pos (by rfl)]
              go_simp
              refine gen_world (K := K) (fun w6 hw6 => ?_)
              have K46 : Hid (Keep w4 w6) := by rw [hw6]; exact (K45.out.set (Nat.le_refl _) _).set (Nat.le_refl _) _
              have B6 : Hid (w6.heap[w4.heap.size]? = some (.cells #[.int .i64 id, .int .i64 1] 52 (0, 0))) := by rw [hw6]; exact (two_set (two_set B5).1).2
              replace hw6 := Lib.hid hw6
              refine hK.out _ _ ?_ (fun hHeld => ?_)
              · exact HELD _ K46.out
              clear hK K
              try simp only [Act.put, List.getElem_toArray, List.getElem_cons_succ, List.getElem_cons_zero, List.setIfInBounds_toArray, List.set_cons_zero, List.set_cons_succ]
              refine wpAnyH_done (by kernel_rfl) ?_ _
              have O6 := Lib.hid (C.keep O4.out K46.out)
              have KW6 := Lib.hid (K4.out.trans K46.out)
              have RD6 : Hid (w6.ownsRow w.heap.size 52 2 (.slice B k d) k (prCs D)) := own_keep (row_same RD.out (fun g hg => S4.out g (XB.out g hg))) K46.out
              obtain ⟨kb, hkb⟩ : ∃ kb, kb = w4.heap.size := ⟨_, rfl⟩
              rw [← hkb] at B6 ⊢
              replace hkb := Lib.hid hkb
              clear z0 z1 zf B5 HELD2 HELD
              go_wp2
              go_loopg [8] k (fun gx s8 wr2 => ∃ (k2 : Nat), k2 ≤ k ∧ gx = k - k2 ∧ s8 = .int .i64 k2 ∧ Hid (Keep w6 wr2))
              case atStart => exact ⟨0, Nat.zero_le _, rfl, rfl, Keep.refl _⟩
              case round =>
                obtain ⟨k2, hk2, rfl, rfl, KQ⟩ := hrel
                by_cases hlk : k2 < k
                · obtain ⟨gg, eg⟩ : ∃ gg, B = some ⟨gg, 0, none⟩ := by
                    obtain ⟨gg, cap, eg, _, _⟩ := RD6.out.form (by omega)
                    simp only [Value.slice.injEq] at eg
                    exact ⟨gg, eg.1⟩
                  subst eg
                  have hkD : k2 < D.length := by rw [hMD.out.2]; exact hlk
                  have cD := pr_cel RD6.out hlk (List.getElem?_eq_getElem hkD)
                  have hne := hno2.out _ (List.getElem_mem hkD)
                  have q2 := pairs_at gg k d k2 hlk
                  obtain ⟨pa, hpa⟩ : ∃ pa, pa = (D[k2]).1 := ⟨_, rfl⟩
                  obtain ⟨pe, hpe⟩ : ∃ pe, pe = (D[k2]).2 := ⟨_, rfl⟩
                  rw [← hpa, ← hpe] at cD
                  replace hne : ¬ (pa = id ∧ pe = 1) := fun ⟨h1, h2⟩ => hne (Prod.ext (hpa.symm.trans h1) (hpe.symm.trans h2))
                  replace hpa := Lib.hid hpa
                  replace hpe := Lib.hid hpe
                  have u0 := KQ.out.cell cD.1
                  have u1 := KQ.out.cell cD.2
                  have B7 := KQ.out.block B6.out
                  have u2 : wr.cell? ⟨kb, 0, none⟩ = some (.int .i64 id) := by rw [cell_of_row wr _ 0 _ _ _ B7]; rfl
                  have u3 : wr.cell? ⟨kb, 1, none⟩ = some (.int .i64 1) := by rw [cell_of_row wr _ 1 _ _ _ B7]; rfl
                  replace B7 := Lib.hid B7
                  clear cD
                  go_wp2
                  have HELD : ∀ Wz, Keep wr Wz → (Wz.cell? ⟨gg, k2 * 2, none⟩ = some (.int .i64 pa) ∧ Wz.cell? ⟨gg, k2 * 2 + 1, none⟩ = some (.int .i64 pe) ∧ Wz.cell? ⟨kb, 0, none⟩ = some (.int .i64 id) ∧ Wz.cell? ⟨kb, 1, none⟩ = some (.int .i64 1)) := fun Wz KK => ⟨KK.cell u0, KK.cell u1, KK.cell u2, KK.cell u3⟩
                  refine wp_region_held_drew (S := fun w' => w'.cell? ⟨gg, k2 * 2, none⟩ = some (.int .i64 pa) ∧ w'.cell? ⟨gg, k2 * 2 + 1, none⟩ = some (.int .i64 pe) ∧ w'.cell? ⟨kb, 0, none⟩ = some (.int .i64 id) ∧ w'.cell? ⟨kb, 1, none⟩ = some (.int .i64 1)) (by kernel_rfl) ?_ (fun hHeld => ?_)
                  · exact HELD _ (by repeat (with_reducible first | exact Keep.refl wr | apply Keep.alloc | apply Keep.drew | apply Keep.drewN))
                  refine wpAnyH_take (i := 0) (v := .slice (some ⟨gg, 0, none⟩) k d) rfl (by kernel_rfl) (by kernel_rfl) (by kernel_rfl) (fun _ _ _ h => h) (Or.inl ⟨by rfl, fun Wz hW => by obtain ⟨s0, s1, s2, s3⟩ := hW; go_simp⟩) hHeld ?_
                  simp only [Act.put, List.getElem_toArray, List.getElem_cons_zero, List.setIfInBounds_toArray, List.set_cons_zero, List.set_cons_succ]
                  refine wpAnyH_take (i := 1) (v := .int .i64 k2) rfl (by kernel_rfl) (by kernel_rfl) (by kernel_rfl) (fun _ _ _ h => h) (Or.inl ⟨by rfl, fun Wz hW => by obtain ⟨s0, s1, s2, s3⟩ := hW; go_simp⟩) hHeld ?_
                  simp only [Act.put, List.getElem_toArray, List.getElem_cons_succ, List.getElem_cons_zero, List.setIfInBounds_toArray, List.set_cons_zero, List.set_cons_succ]
                  refine wpAnyH_take (i := 2) (v := .pointer (some ⟨gg, k2 * 2, none⟩)) rfl (by kernel_rfl) (by kernel_rfl) (by kernel_rfl) (fun _ _ _ h => h) (Or.inl ⟨by rfl, fun Wz hW => by obtain ⟨s0, s1, s2, s3⟩ := hW; go_simp⟩) hHeld ?_
                  simp only [Act.put, List.getElem_toArray, List.getElem_cons_succ, List.getElem_cons_zero, List.setIfInBounds_toArray, List.set_cons_zero, List.set_cons_succ]
                  refine wpAnyH_take (i := 3) (v := .agg #[.int .i64 pa, .int .i64 pe]) rfl (by kernel_rfl) (by kernel_rfl) (by kernel_rfl) (fun _ _ _ h => h) (Or.inl ⟨by rfl, fun Wz hW => by obtain ⟨s0, s1, s2, s3⟩ := hW; go_simp⟩) hHeld ?_
                  simp only [Act.put, List.getElem_toArray, List.getElem_cons_succ, List.getElem_cons_zero, List.setIfInBounds_toArray, List.set_cons_zero, List.set_cons_succ]
                  refine wpAnyH_take (i := 4) (v := .agg #[.int .i64 id, .int .i64 1]) rfl (by kernel_rfl) (by kernel_rfl) (by kernel_rfl) (fun _ _ _ h => h) (Or.inl ⟨by rfl, fun Wz hW => by obtain ⟨s0, s1, s2, s3⟩ := hW; go_simp⟩) hHeld ?_
                  simp only [Act.put, List.getElem_toArray, List.getElem_cons_succ, List.getElem_cons_zero, List.setIfInBounds_toArray, List.set_cons_zero, List.set_cons_succ]
                  refine wpAnyH_take (i := 5) (v := .bool false) rfl (by kernel_rfl) (by kernel_rfl) (by kernel_rfl) (fun _ _ _ h => h) (Or.inl ⟨by rfl, fun Wz hW => by obtain ⟨s0, s1, s2, s3⟩ := hW; go_simp; rw [eq_pair hne Wz]; rfl⟩) hHeld ?_
                  simp only [Act.put, List.getElem_toArray, List.getElem_cons_succ, List.getElem_cons_zero, List.setIfInBounds_toArray, List.set_cons_zero, List.set_cons_succ]
                  refine wpAnyH_done (by kernel_rfl) ?_ _
                  go_wp2
                  go_roundg (k - (k2 + 1))
                  case measure => omega
                  case rel => exact ⟨k2 + 1, hlk, rfl, by go_num, KQ.out.trans (by repeat (with_reducible first | exact Keep.refl wr | apply Keep.alloc | apply Keep.drew | apply Keep.drewN))⟩
                · obtain rfl : k2 = k := by omega
                  have B7 := Lib.hid (KQ.out.block B6.out)
                  have u2 : wr.cell? ⟨kb, 0, none⟩ = some (.int .i64 id) := by rw [cell_of_row wr _ 0 _ _ _ B7.out]; rfl
                  have u3 : wr.cell? ⟨kb, 1, none⟩ = some (.int .i64 1) := by rw [cell_of_row wr _ 1 _ _ _ B7.out]; rfl
                  have hbk := lt_of_block B7.out
                  have O7 := Lib.hid (C.keep O6.out KQ.out)
                  have K7 := Lib.hid (C.kp O7.out)
                  have RD7 := Lib.hid (own_keep RD6.out KQ.out)
                  have sz7 : Hid (w.heap.size ≤ wr.heap.size) := K7.out.size
                  go_wp2_with (at_builtin; refine wpl_pair rfl _ _ rfl w.heap.size (.slice B k2 d) k2 D (by simp [Act.eval]) (own_keep RD7.out (Keep.one _ _)) wr.heap.size 1 (id, 1) (by simp [Act.eval]) (heap_alloc_new _ _) (by omega) (by rw [World.size_alloc]; have := sz7.out; omega) (k2 + 1) rfl ?_; intro v8 w8 hr8 hg8 hb8)
                  have K8 : Keep w w8 := keep_grown (K7.out.trans (Keep.one _ _)) hg8 (fun g hg => (RD7.out.lt g hg).1)
                  have O8 := Lib.hid (C.grow O7.out K8 (Nat.le_trans (Nat.le_succ _) (by have := hg8.size; rwa [World.size_alloc] at this)) (Z := fun g => wr.heap.size ≤ g ∧ g < w8.heap.size) (fun g hg hX => by
                    have h1 := hg8.block g (by rw [World.size_alloc]; omega) (fun e => hX (XB.out g e.symm))
                    rw [h1]
                    exact Below.block (Keep.one wr _) _ hg) (fun g hg => hg))
                  obtain ⟨B8, d8, rfl, _⟩ := own_form hr8
                  have XB8 : Hid (∀ g, (Value.slice B8 (k2 + 1) d8).ownBlock = some g → X g ∨ (wr.heap.size ≤ g ∧ g < w8.heap.size)) := fun g hg => by
                    rcases hb8 g hg with h1 | h1
                    · exact Or.inl (XB.out g h1)
                    · refine Or.inr ⟨?_, (hr8.lt g hg).2⟩
                      rw [World.size_alloc] at h1
                      omega
                  have DN8 : Hid (∀ p ∈ D ++ [(id, 1)], Done M2 p) := fun p hp => by
                    rcases List.mem_append.1 hp with h1 | h1
                    · exact DN2.out p h1
                    · rw [List.mem_singleton.1 h1]
                      exact doneIf_use hcd2.out (by omega)
                  have LD8 : Hid ((D ++ [(id, (1 : Int))]).length = k2 + 1) := by
                    show _ = _
                    rw [List.length_append, hMD.out.2]
                    rfl
                  replace hr8 := Lib.hid hr8
                  replace hg8 := Lib.hid hg8
                  replace hb8 := Lib.hid hb8
                  replace K8 := Lib.hid K8
                  clear u2 u3 hbk
                  go_wp2
                  go_roundg (n - (i + 1))
                  case measure => omega
                  case rel => exact ⟨i + 1, k2 + 1, B8, d8, D ++ [(id, 1)], M2, _, hlt, rfl, by go_num, rfl, by omega, O8.out, by omega, ⟨m2.out, LD8.out⟩, DN8.out, hr8.out, XB8.out⟩
            · go_wp2
              have HELD : ∀ Wz, Keep w4 Wz → (Wz.cell? ⟨b, oo, none⟩ = some (.int .i64 5) ∧ Wz.cell? ⟨b, oo + 1, none⟩ = some (.int .i64 id)) := fun Wz KK => ⟨KK.cell n0, KK.cell n1⟩
              refine wp_region_held_drew (S := fun w' => w'.cell? ⟨b, oo, none⟩ = some (.int .i64 5) ∧ w'.cell? ⟨b, oo + 1, none⟩ = some (.int .i64 id)) (by kernel_rfl) ?_ (fun hHeld => ?_)
              · exact HELD _ (by repeat (with_reducible first | exact Keep.refl w4 | apply Keep.alloc | apply Keep.drew | apply Keep.drewN))
              refine wpAnyH_take (i := 0) (v := .slice (some ⟨b, off, none⟩) n c) rfl (by kernel_rfl) (by kernel_rfl) (by kernel_rfl) (fun _ _ _ h => h) (Or.inl ⟨by rfl, fun Wz hW => by obtain ⟨s0, s1⟩ := hW; go_simp⟩) hHeld ?_
              simp only [Act.put, List.getElem_toArray, List.getElem_cons_zero, List.setIfInBounds_toArray, List.set_cons_zero, List.set_cons_succ]
              refine wpAnyH_take (i := 1) (v := .int .i64 i) rfl (by kernel_rfl) (by kernel_rfl) (by kernel_rfl) (fun _ _ _ h => h) (Or.inl ⟨by rfl, fun Wz hW => by obtain ⟨s0, s1⟩ := hW; go_simp⟩) hHeld ?_
              simp only [Act.put, List.getElem_toArray, List.getElem_cons_succ, List.getElem_cons_zero, List.setIfInBounds_toArray, List.set_cons_zero, List.set_cons_succ]
              refine wpAnyH_take (i := 2) (v := .pointer (some ⟨b, oo, none⟩)) rfl (by kernel_rfl) (by kernel_rfl) (by kernel_rfl) (fun _ _ _ h => h) (Or.inl ⟨by rfl, fun Wz hW => by obtain ⟨s0, s1⟩ := hW; go_simp⟩) hHeld ?_
              simp only [Act.put, List.getElem_toArray, List.getElem_cons_succ, List.getElem_cons_zero, List.setIfInBounds_toArray, List.set_cons_zero, List.set_cons_succ]
              refine wpAnyH_take (i := 3) (v := .pointer (some ⟨b, oo + 1, none⟩)) rfl (by kernel_rfl) (by kernel_rfl) (by kernel_rfl) (fun _ _ _ h => h) (Or.inl ⟨by rfl, fun Wz hW => by obtain ⟨s0, s1⟩ := hW; go_simp⟩) hHeld ?_
              simp only [Act.put, List.getElem_toArray, List.getElem_cons_succ, List.getElem_cons_zero, List.setIfInBounds_toArray, List.set_cons_zero, List.set_cons_succ]
              refine wpAnyH_take (i := 4) (v := .pointer (some ⟨b, oo + 1, none⟩)) rfl (by kernel_rfl) (by kernel_rfl) (by kernel_rfl) (fun _ _ _ h => h) (Or.inl ⟨by rfl, fun Wz hW => by obtain ⟨s0, s1⟩ := hW; go_simp⟩) hHeld ?_
              simp only [Act.put, List.getElem_toArray, List.getElem_cons_succ, List.getElem_cons_zero, List.setIfInBounds_toArray, List.set_cons_zero, List.set_cons_succ]
              refine wpAnyH_take (i := 5) (v := .int .i64 id) rfl (by kernel_rfl) (by kernel_rfl) (by kernel_rfl) (fun _ _ _ h => h) (Or.inl ⟨by rfl, fun Wz hW => by obtain ⟨s0, s1⟩ := hW; go_simp⟩) hHeld ?_
              simp only [Act.put, List.getElem_toArray, List.getElem_cons_succ, List.getElem_cons_zero, List.setIfInBounds_toArray, List.set_cons_zero, List.set_cons_succ]
              refine wpAnyH_take (i := 6) (v := .slice (some ⟨b, off, none⟩) n c) rfl (by kernel_rfl) (by kernel_rfl) (by kernel_rfl) (fun _ _ _ h => h) (Or.inl ⟨by rfl, fun Wz hW => by obtain ⟨s0, s1⟩ := hW; go_simp⟩) hHeld ?_
              simp only [Act.put, List.getElem_toArray, List.getElem_cons_succ, List.getElem_cons_zero, List.setIfInBounds_toArray, List.set_cons_zero, List.set_cons_succ]
              refine wpAnyH_take (i := 7) (v := .int .i64 i) rfl (by kernel_rfl) (by kernel_rfl) (by kernel_rfl) (fun _ _ _ h => h) (Or.inl ⟨by rfl, fun Wz hW => by obtain ⟨s0, s1⟩ := hW; go_simp⟩) hHeld ?_
              simp only [Act.put, List.getElem_toArray, List.getElem_cons_succ, List.getElem_cons_zero, List.setIfInBounds_toArray, List.set_cons_zero, List.set_cons_succ]
              refine wpAnyH_take (i := 8) (v := .pointer (some ⟨b, oo, none⟩)) rfl (by kernel_rfl) (by kernel_rfl) (by kernel_rfl) (fun _ _ _ h => h) (Or.inl ⟨by rfl, fun Wz hW => by obtain ⟨s0, s1⟩ := hW; go_simp⟩) hHeld ?_
              simp only [Act.put, List.getElem_toArray, List.getElem_cons_succ, List.getElem_cons_zero, List.setIfInBounds_toArray, List.set_cons_zero, List.set_cons_succ]
              refine wpAnyH_take (i := 9) (v := .pointer (some ⟨b, oo, none⟩)) rfl (by kernel_rfl) (by kernel_rfl) (by kernel_rfl) (fun _ _ _ h => h) (Or.inl ⟨by rfl, fun Wz hW => by obtain ⟨s0, s1⟩ := hW; go_simp⟩) hHeld ?_
              simp only [Act.put, List.getElem_toArray, List.getElem_cons_succ, List.getElem_cons_zero, List.setIfInBounds_toArray, List.set_cons_zero, List.set_cons_succ]
              refine wpAnyH_take (i := 10) (v := .int .i64 5) rfl (by kernel_rfl) (by kernel_rfl) (by kernel_rfl) (fun _ _ _ h => h) (Or.inl ⟨by rfl, fun Wz hW => by obtain ⟨s0, s1⟩ := hW; go_simp⟩) hHeld ?_
              simp only [Act.put, List.getElem_toArray, List.getElem_cons_succ, List.getElem_cons_zero, List.setIfInBounds_toArray, List.set_cons_zero, List.set_cons_succ]
              refine wpAnyH_take (i := 11) (v := .agg #[.int .i64 id, .int .i64 5]) rfl (by kernel_rfl) (by kernel_rfl) (by kernel_rfl) (fun _ _ _ h => h) (Or.inl ⟨by rfl, fun Wz hW => by obtain ⟨s0, s1⟩ := hW; go_simp⟩) hHeld ?_
              simp only [Act.put, List.getElem_toArray, List.getElem_cons_succ, List.getElem_cons_zero, List.setIfInBounds_toArray, List.set_cons_zero, List.set_cons_succ]
              refine wpAnyH_ready (rs := [12]) (by kernel_rfl) (by simp) ?_
              refine AllReadyH.cons rfl (fun K hK => ?_) AllReadyH.nil
              simp only [List.getElem_toArray, List.getElem_cons_succ, List.getElem_cons_zero]
              rw [if_pos (by rfl)]
              go_simp
              refine gen_world (K := K) (fun w5 hw5 => ?_)
              have K45 : Keep w4 w5 := by rw [hw5]; exact (by repeat (with_reducible first | exact Keep.refl w4 | apply Keep.alloc | apply Keep.drew | apply Keep.drewN))
              replace K45 := Lib.hid K45
              have B5 : w5.heap[w4.heap.size]? = some (.cells #[.int .i64 0, .int .i64 0] 52 (0, 0)) := by rw [hw5]; exact heap_alloc_new _ _
              have z0 : w5.cell? ⟨w4.heap.size, 0, none⟩ = some (.int .i64 0) := by rw [cell_of_row w5 _ 0 _ _ _ B5]; rfl
              have z1 : w5.cell? ⟨w4.heap.size, 1, none⟩ = some (.int .i64 0) := by rw [cell_of_row w5 _ 1 _ _ _ B5]; rfl
              have zf : ∀ i, w5.frozen? ⟨w4.heap.size, i, none⟩ = false := fun i => frozen_of_row w5 _ i _ _ B5
              replace hw5 := Lib.hid hw5
              refine hK.out _ _ ?_ (fun hHeld => ?_)
              · exact HELD _ K45.out
              clear hK K
              try simp only [Act.put, List.getElem_toArray, List.getElem_cons_succ, List.getElem_cons_zero, List.setIfInBounds_toArray, List.set_cons_zero, List.set_cons_succ]
              refine wpAnyH_ready (rs := [13]) (by kernel_rfl) (by simp) ?_
              refine AllReadyH.cons rfl (fun K hK => ?_) AllReadyH.nil
              simp only [List.getElem_toArray, List.getElem_cons_succ, List.getElem_cons_zero]
              rw [if_pos (by rfl)]
              go_simp
              refine gen_world (K := K) (fun w6 hw6 => ?_)
              have K46 : Hid (Keep w4 w6) := by rw [hw6]; exact (K45.out.set (Nat.le_refl _) _).set (Nat.le_refl _) _
              have B6 : Hid (w6.heap[w4.heap.size]? = some (.cells #[.int .i64 id, .int .i64 5] 52 (0, 0))) := by rw [hw6]; exact (two_set (two_set B5).1).2
              replace hw6 := Lib.hid hw6
              refine hK.out _ _ ?_ (fun hHeld => ?_)
              · exact HELD _ K46.out
              clear hK K
              try simp only [Act.put, List.getElem_toArray, List.getElem_cons_succ, List.getElem_cons_zero, List.setIfInBounds_toArray, List.set_cons_zero, List.set_cons_succ]
              refine wpAnyH_done (by kernel_rfl) ?_ _
              have O6 := Lib.hid (C.keep O4.out K46.out)
              have KW6 := Lib.hid (K4.out.trans K46.out)
              have RD6 : Hid (w6.ownsRow w.heap.size 52 2 (.slice B k d) k (prCs D)) := own_keep (row_same RD.out (fun g hg => S4.out g (XB.out g hg))) K46.out
              obtain ⟨kb, hkb⟩ : ∃ kb, kb = w4.heap.size := ⟨_, rfl⟩
              rw [← hkb] at B6 ⊢
              replace hkb := Lib.hid hkb
              clear z0 z1 zf B5 HELD2 HELD
              go_wp2
              go_loopg [8] k (fun gx s8 wr2 => ∃ (k2 : Nat), k2 ≤ k ∧ gx = k - k2 ∧ s8 = .int .i64 k2 ∧ Hid (Keep w6 wr2))
              case atStart => exact ⟨0, Nat.zero_le _, rfl, rfl, Keep.refl _⟩
              case round =>
                obtain ⟨k2, hk2, rfl, rfl, KQ⟩ := hrel
                by_cases hlk : k2 < k
                · obtain ⟨gg, eg⟩ : ∃ gg, B = some ⟨gg, 0, none⟩ := by
                    obtain ⟨gg, cap, eg, _, _⟩ := RD6.out.form (by omega)
                    simp only [Value.slice.injEq] at eg
                    exact ⟨gg, eg.1⟩
                  subst eg
                  have hkD : k2 < D.length := by rw [hMD.out.2]; exact hlk
                  have cD := pr_cel RD6.out hlk (List.getElem?_eq_getElem hkD)
                  have hne := hno2.out _ (List.getElem_mem hkD)
                  have q2 := pairs_at gg k d k2 hlk
                  obtain ⟨pa, hpa⟩ : ∃ pa, pa = (D[k2]).1 := ⟨_, rfl⟩
                  obtain ⟨pe, hpe⟩ : ∃ pe, pe = (D[k2]).2 := ⟨_, rfl⟩
                  rw [← hpa, ← hpe] at cD
                  replace hne : ¬ (pa = id ∧ pe = 5) := fun ⟨h1, h2⟩ => hne (Prod.ext (hpa.symm.trans h1) (hpe.symm.trans h2))
                  replace hpa := Lib.hid hpa
                  replace hpe := Lib.hid hpe
                  have u0 := KQ.out.cell cD.1
                  have u1 := KQ.out.cell cD.2
                  have B7 := KQ.out.block B6.out
                  have u2 : wr.cell? ⟨kb, 0, none⟩ = some (.int .i64 id) := by rw [cell_of_row wr _ 0 _ _ _ B7]; rfl
                  have u3 : wr.cell? ⟨kb, 1, none⟩ = some (.int .i64 5) := by rw [cell_of_row wr _ 1 _ _ _ B7]; rfl
                  replace B7 := Lib.hid B7
                  clear cD
                  go_wp2
                  have HELD : ∀ Wz, Keep wr Wz → (Wz.cell? ⟨gg, k2 * 2, none⟩ = some (.int .i64 pa) ∧ Wz.cell? ⟨gg, k2 * 2 + 1, none⟩ = some (.int .i64 pe) ∧ Wz.cell? ⟨kb, 0, none⟩ = some (.int .i64 id) ∧ Wz.cell? ⟨kb, 1, none⟩ = some (.int .i64 5)) := fun Wz KK => ⟨KK.cell u0, KK.cell u1, KK.cell u2, KK.cell u3⟩
                  refine wp_region_held_drew (S := fun w' => w'.cell? ⟨gg, k2 * 2, none⟩ = some (.int .i64 pa) ∧ w'.cell? ⟨gg, k2 * 2 + 1, none⟩ = some (.int .i64 pe) ∧ w'.cell? ⟨kb, 0, none⟩ = some (.int .i64 id) ∧ w'.cell? ⟨kb, 1, none⟩ = some (.int .i64 5)) (by kernel_rfl) ?_ (fun hHeld => ?_)
                  · exact HELD _ (by repeat (with_reducible first | exact Keep.refl wr | apply Keep.alloc | apply Keep.drew | apply Keep.drewN))
                  refine wpAnyH_take (i := 0) (v := .slice (some ⟨gg, 0, none⟩) k d) rfl (by kernel_rfl) (by kernel_rfl) (by kernel_rfl) (fun _ _ _ h => h) (Or.inl ⟨by rfl, fun Wz hW => by obtain ⟨s0, s1, s2, s3⟩ := hW; go_simp⟩) hHeld ?_
                  simp only [Act.put, List.getElem_toArray, List.getElem_cons_zero, List.setIfInBounds_toArray, List.set_cons_zero, List.set_cons_succ]
                  refine wpAnyH_take (i := 1) (v := .int .i64 k2) rfl (by kernel_rfl) (by kernel_rfl) (by kernel_rfl) (fun _ _ _ h => h) (Or.inl ⟨by rfl, fun Wz hW => by obtain ⟨s0, s1, s2, s3⟩ := hW; go_simp⟩) hHeld ?_
                  simp only [Act.put, List.getElem_toArray, List.getElem_cons_succ, List.getElem_cons_zero, List.setIfInBounds_toArray, List.set_cons_zero, List.set_cons_succ]
                  refine wpAnyH_take (i := 2) (v := .pointer (some ⟨gg, k2 * 2, none⟩)) rfl (by kernel_rfl) (by kernel_rfl) (by kernel_rfl) (fun _ _ _ h => h) (Or.inl ⟨by rfl, fun Wz hW => by obtain ⟨s0, s1, s2, s3⟩ := hW; go_simp⟩) hHeld ?_
                  simp only [Act.put, List.getElem_toArray, List.getElem_cons_succ, List.getElem_cons_zero, List.setIfInBounds_toArray, List.set_cons_zero, List.set_cons_succ]
                  refine wpAnyH_take (i := 3) (v := .agg #[.int .i64 pa, .int .i64 pe]) rfl (by kernel_rfl) (by kernel_rfl) (by kernel_rfl) (fun _ _ _ h => h) (Or.inl ⟨by rfl, fun Wz hW => by obtain ⟨s0, s1, s2, s3⟩ := hW; go_simp⟩) hHeld ?_
                  simp only [Act.put, List.getElem_toArray, List.getElem_cons_succ, List.getElem_cons_zero, List.setIfInBounds_toArray, List.set_cons_zero, List.set_cons_succ]
                  refine wpAnyH_take (i := 4) (v := .agg #[.int .i64 id, .int .i64 5]) rfl (by kernel_rfl) (by kernel_rfl) (by kernel_rfl) (fun _ _ _ h => h) (Or.inl ⟨by rfl, fun Wz hW => by obtain ⟨s0, s1, s2, s3⟩ := hW; go_simp⟩) hHeld ?_
                  simp only [Act.put, List.getElem_toArray, List.getElem_cons_succ, List.getElem_cons_zero, List.setIfInBounds_toArray, List.set_cons_zero, List.set_cons_succ]
                  refine wpAnyH_take (i := 5) (v := .bool false) rfl (by kernel_rfl) (by kernel_rfl) (by kernel_rfl) (fun _ _ _ h => h) (Or.inl ⟨by rfl, fun Wz hW => by obtain ⟨s0, s1, s2, s3⟩ := hW; go_simp; rw [eq_pair hne Wz]; rfl⟩) hHeld ?_
                  simp only [Act.put, List.getElem_toArray, List.getElem_cons_succ, List.getElem_cons_zero, List.setIfInBounds_toArray, List.set_cons_zero, List.set_cons_succ]
                  refine wpAnyH_done (by kernel_rfl) ?_ _
                  go_wp2
                  go_roundg (k - (k2 + 1))
                  case measure => omega
                  case rel => exact ⟨k2 + 1, hlk, rfl, by go_num, KQ.out.trans (by repeat (with_reducible first | exact Keep.refl wr | apply Keep.alloc | apply Keep.drew | apply Keep.drewN))⟩
                · obtain rfl : k2 = k := by omega
                  have B7 := Lib.hid (KQ.out.block B6.out)
                  have u2 : wr.cell? ⟨kb, 0, none⟩ = some (.int .i64 id) := by rw [cell_of_row wr _ 0 _ _ _ B7.out]; rfl
                  have u3 : wr.cell? ⟨kb, 1, none⟩ = some (.int .i64 5) := by rw [cell_of_row wr _ 1 _ _ _ B7.out]; rfl
                  have hbk := lt_of_block B7.out
                  have O7 := Lib.hid (C.keep O6.out KQ.out)
                  have K7 := Lib.hid (C.kp O7.out)
                  have RD7 := Lib.hid (own_keep RD6.out KQ.out)
                  have sz7 : Hid (w.heap.size ≤ wr.heap.size) := K7.out.size
                  go_wp2_with (at_builtin; refine wpl_pair rfl _ _ rfl w.heap.size (.slice B k2 d) k2 D (by simp [Act.eval]) (own_keep RD7.out (Keep.one _ _)) wr.heap.size 1 (id, 5) (by simp [Act.eval]) (heap_alloc_new _ _) (by omega) (by rw [World.size_alloc]; have := sz7.out; omega) (k2 + 1) rfl ?_; intro v8 w8 hr8 hg8 hb8)
                  have K8 : Keep w w8 := keep_grown (K7.out.trans (Keep.one _ _)) hg8 (fun g hg => (RD7.out.lt g hg).1)
                  have O8 := Lib.hid (C.grow O7.out K8 (Nat.le_trans (Nat.le_succ _) (by have := hg8.size; rwa [World.size_alloc] at this)) (Z := fun g => wr.heap.size ≤ g ∧ g < w8.heap.size) (fun g hg hX => by
                    have h1 := hg8.block g (by rw [World.size_alloc]; omega) (fun e => hX (XB.out g e.symm))
                    rw [h1]
                    exact Below.block (Keep.one wr _) _ hg) (fun g hg => hg))
                  obtain ⟨B8, d8, rfl, _⟩ := own_form hr8
                  have XB8 : Hid (∀ g, (Value.slice B8 (k2 + 1) d8).ownBlock = some g → X g ∨ (wr.heap.size ≤ g ∧ g < w8.heap.size)) := fun g hg => by
                    rcases hb8 g hg with h1 | h1
                    · exact Or.inl (XB.out g h1)
                    · refine Or.inr ⟨?_, (hr8.lt g hg).2⟩
                      rw [World.size_alloc] at h1
                      omega
                  have DN8 : Hid (∀ p ∈ D ++ [(id, 5)], Done M2 p) := fun p hp => by
                    rcases List.mem_append.1 hp with h1 | h1
                    · exact DN2.out p h1
                    · rw [List.mem_singleton.1 h1]
                      exact doneIf_use hcd2.out (by omega)
                  have LD8 : Hid ((D ++ [(id, (5 : Int))]).length = k2 + 1) := by
                    show _ = _
                    rw [List.length_append, hMD.out.2]
                    rfl
                  replace hr8 := Lib.hid hr8
                  replace hg8 := Lib.hid hg8
                  replace hb8 := Lib.hid hb8
                  replace K8 := Lib.hid K8
                  clear u2 u3 hbk
                  go_wp2
                  go_roundg (n - (i + 1))
                  case measure => omega
                  case rel => exact ⟨i + 1, k2 + 1, B8, d8, D ++ [(id, 5)], M2, _, hlt, rfl, by go_num, rfl, by omega, O8.out, by omega, ⟨m2.out, LD8.out⟩, DN8.out, hr8.out, XB8.out⟩
          · have e1 : (ev != 1) = true := by simp; omega
            have e5 : (ev != 5) = true := by simp; omega
            replace h15 := Lib.hid h15
            go_wp2
            go_roundg (n - (i + 1))
            case measure => omega
            case rel => exact ⟨i + 1, k, B, d, D, M2, X, hlt, rfl, by go_num, rfl, by omega, O4.out, by omega, ⟨m2.out, hMD.out.2⟩, fun p hp => DN2.out p hp, row_same RD.out (fun g hg => S4.out g (XB.out g hg)), XB.out⟩
        · have cfv : fltC cc = .iface 88 (.agg #[.int .i64 cc, .int .i64 0]) := by unfold fltC; rw [if_neg hc]; exact flt_val _ _
          rw [cfv] at cA
          replace hc := Lib.hid hc
          replace cA := Lib.hid cA
          go_wp2
          have HELD : ∀ Wz, Keep wr Wz → (Wz.cell? ⟨b, oo, none⟩ = some (.int .i64 ev) ∧ Wz.cell? ⟨b, oo + 1, none⟩ = some (.int .i64 id) ∧ Wz.cell? ⟨b, oo + 10, none⟩ = some (.int .i64 nd) ∧ Wz.cell? ⟨b, oo + 11, none⟩ = some (.int .i64 dl)) := fun Wz KK => ⟨KK.cell m0, KK.cell m1, KK.cell m2', KK.cell m3⟩
          refine wp_region_held_drew (S := fun w' => w'.cell? ⟨b, oo, none⟩ = some (.int .i64 ev) ∧ w'.cell? ⟨b, oo + 1, none⟩ = some (.int .i64 id) ∧ w'.cell? ⟨b, oo + 10, none⟩ = some (.int .i64 nd) ∧ w'.cell? ⟨b, oo + 11, none⟩ = some (.int .i64 dl)) (by kernel_rfl) ?_ (fun hHeld => ?_)
          · exact HELD _ (by repeat (with_reducible first | exact Keep.refl wr | apply Keep.alloc | apply Keep.drew | apply Keep.drewN))
          refine wpAnyH_take (i := 0) (v := .pointer (some ⟨q, 0, none⟩)) rfl (by kernel_rfl) (by kernel_rfl) (by kernel_rfl) (fun _ _ _ h => h) (Or.inl ⟨by rfl, fun Wz hW => by obtain ⟨s0, s1, s2, s3⟩ := hW; go_simp⟩) hHeld ?_
          simp only [Act.put, List.getElem_toArray, List.getElem_cons_zero, List.setIfInBounds_toArray, List.set_cons_zero, List.set_cons_succ]
          refine wpAnyH_take (i := 1) (v := .slice (some ⟨b, off, none⟩) n c) rfl (by kernel_rfl) (by kernel_rfl) (by kernel_rfl) (fun _ _ _ h => h) (Or.inl ⟨by rfl, fun Wz hW => by obtain ⟨s0, s1, s2, s3⟩ := hW; go_simp⟩) hHeld ?_
          simp only [Act.put, List.getElem_toArray, List.getElem_cons_succ, List.getElem_cons_zero, List.setIfInBounds_toArray, List.set_cons_zero, List.set_cons_succ]
          refine wpAnyH_take (i := 2) (v := .int .i64 i) rfl (by kernel_rfl) (by kernel_rfl) (by kernel_rfl) (fun _ _ _ h => h) (Or.inl ⟨by rfl, fun Wz hW => by obtain ⟨s0, s1, s2, s3⟩ := hW; go_simp⟩) hHeld ?_
          simp only [Act.put, List.getElem_toArray, List.getElem_cons_succ, List.getElem_cons_zero, List.setIfInBounds_toArray, List.set_cons_zero, List.set_cons_succ]
          refine wpAnyH_take (i := 3) (v := .pointer (some ⟨b, oo, none⟩)) rfl (by kernel_rfl) (by kernel_rfl) (by kernel_rfl) (fun _ _ _ h => h) (Or.inl ⟨by rfl, fun Wz hW => by obtain ⟨s0, s1, s2, s3⟩ := hW; go_simp⟩) hHeld ?_
          simp only [Act.put, List.getElem_toArray, List.getElem_cons_succ, List.getElem_cons_zero, List.setIfInBounds_toArray, List.set_cons_zero, List.set_cons_succ]
          refine wpAnyH_take (i := 4) (v := .pointer (some ⟨b, oo + 1, none⟩)) rfl (by kernel_rfl) (by kernel_rfl) (by kernel_rfl) (fun _ _ _ h => h) (Or.inl ⟨by rfl, fun Wz hW => by obtain ⟨s0, s1, s2, s3⟩ := hW; go_simp⟩) hHeld ?_
          simp only [Act.put, List.getElem_toArray, List.getElem_cons_succ, List.getElem_cons_zero, List.setIfInBounds_toArray, List.set_cons_zero, List.set_cons_succ]
          refine wpAnyH_take (i := 5) (v := .pointer (some ⟨b, oo + 1, none⟩)) rfl (by kernel_rfl) (by kernel_rfl) (by kernel_rfl) (fun _ _ _ h => h) (Or.inl ⟨by rfl, fun Wz hW => by obtain ⟨s0, s1, s2, s3⟩ := hW; go_simp⟩) hHeld ?_
          simp only [Act.put, List.getElem_toArray, List.getElem_cons_succ, List.getElem_cons_zero, List.setIfInBounds_toArray, List.set_cons_zero, List.set_cons_succ]
          refine wpAnyH_take (i := 6) (v := .int .i64 id) rfl (by kernel_rfl) (by kernel_rfl) (by kernel_rfl) (fun _ _ _ h => h) (Or.inl ⟨by rfl, fun Wz hW => by obtain ⟨s0, s1, s2, s3⟩ := hW; go_simp⟩) hHeld ?_
          simp only [Act.put, List.getElem_toArray, List.getElem_cons_succ, List.getElem_cons_zero, List.setIfInBounds_toArray, List.set_cons_zero, List.set_cons_succ]
          refine wpAnyH_take (i := 7) (v := .slice (some ⟨b, off, none⟩) n c) rfl (by kernel_rfl) (by kernel_rfl) (by kernel_rfl) (fun _ _ _ h => h) (Or.inl ⟨by rfl, fun Wz hW => by obtain ⟨s0, s1, s2, s3⟩ := hW; go_simp⟩) hHeld ?_
          simp only [Act.put, List.getElem_toArray, List.getElem_cons_succ, List.getElem_cons_zero, List.setIfInBounds_toArray, List.set_cons_zero, List.set_cons_succ]
          refine wpAnyH_take (i := 8) (v := .int .i64 i) rfl (by kernel_rfl) (by kernel_rfl) (by kernel_rfl) (fun _ _ _ h => h) (Or.inl ⟨by rfl, fun Wz hW => by obtain ⟨s0, s1, s2, s3⟩ := hW; go_simp⟩) hHeld ?_
          simp only [Act.put, List.getElem_toArray, List.getElem_cons_succ, List.getElem_cons_zero, List.setIfInBounds_toArray, List.set_cons_zero, List.set_cons_succ]
          refine wpAnyH_take (i := 9) (v := .pointer (some ⟨b, oo, none⟩)) rfl (by kernel_rfl) (by kernel_rfl) (by kernel_rfl) (fun _ _ _ h => h) (Or.inl ⟨by rfl, fun Wz hW => by obtain ⟨s0, s1, s2, s3⟩ := hW; go_simp⟩) hHeld ?_
          simp only [Act.put, List.getElem_toArray, List.getElem_cons_succ, List.getElem_cons_zero, List.setIfInBounds_toArray, List.set_cons_zero, List.set_cons_succ]
          refine wpAnyH_take (i := 10) (v := .pointer (some ⟨b, oo, none⟩)) rfl (by kernel_rfl) (by kernel_rfl) (by kernel_rfl) (fun _ _ _ h => h) (Or.inl ⟨by rfl, fun Wz hW => by obtain ⟨s0, s1, s2, s3⟩ := hW; go_simp⟩) hHeld ?_
          simp only [Act.put, List.getElem_toArray, List.getElem_cons_succ, List.getElem_cons_zero, List.setIfInBounds_toArray, List.set_cons_zero, List.set_cons_succ]
          refine wpAnyH_take (i := 11) (v := .int .i64 ev) rfl (by kernel_rfl) (by kernel_rfl) (by kernel_rfl) (fun _ _ _ h => h) (Or.inl ⟨by rfl, fun Wz hW => by obtain ⟨s0, s1, s2, s3⟩ := hW; go_simp⟩) hHeld ?_
          simp only [Act.put, List.getElem_toArray, List.getElem_cons_succ, List.getElem_cons_zero, List.setIfInBounds_toArray, List.set_cons_zero, List.set_cons_succ]
          refine wpAnyH_take (i := 12) (v := .slice (some ⟨b, off, none⟩) n c) rfl (by kernel_rfl) (by kernel_rfl) (by kernel_rfl) (fun _ _ _ h => h) (Or.inl ⟨by rfl, fun Wz hW => by obtain ⟨s0, s1, s2, s3⟩ := hW; go_simp⟩) hHeld ?_
          simp only [Act.put, List.getElem_toArray, List.getElem_cons_succ, List.getElem_cons_zero, List.setIfInBounds_toArray, List.set_cons_zero, List.set_cons_succ]
          refine wpAnyH_take (i := 13) (v := .int .i64 i) rfl (by kernel_rfl) (by kernel_rfl) (by kernel_rfl) (fun _ _ _ h => h) (Or.inl ⟨by rfl, fun Wz hW => by obtain ⟨s0, s1, s2, s3⟩ := hW; go_simp⟩) hHeld ?_
          simp only [Act.put, List.getElem_toArray, List.getElem_cons_succ, List.getElem_cons_zero, List.setIfInBounds_toArray, List.set_cons_zero, List.set_cons_succ]
          refine wpAnyH_take (i := 14) (v := .pointer (some ⟨b, oo, none⟩)) rfl (by kernel_rfl) (by kernel_rfl) (by kernel_rfl) (fun _ _ _ h => h) (Or.inl ⟨by rfl, fun Wz hW => by obtain ⟨s0, s1, s2, s3⟩ := hW; go_simp⟩) hHeld ?_
          simp only [Act.put, List.getElem_toArray, List.getElem_cons_succ, List.getElem_cons_zero, List.setIfInBounds_toArray, List.set_cons_zero, List.set_cons_succ]
          refine wpAnyH_take (i := 15) (v := .pointer (some ⟨b, oo + 10, none⟩)) rfl (by kernel_rfl) (by kernel_rfl) (by kernel_rfl) (fun _ _ _ h => h) (Or.inl ⟨by rfl, fun Wz hW => by obtain ⟨s0, s1, s2, s3⟩ := hW; go_simp⟩) hHeld ?_
          simp only [Act.put, List.getElem_toArray, List.getElem_cons_succ, List.getElem_cons_zero, List.setIfInBounds_toArray, List.set_cons_zero, List.set_cons_succ]
          refine wpAnyH_take (i := 16) (v := .int .i64 nd) rfl (by kernel_rfl) (by kernel_rfl) (by kernel_rfl) (fun _ _ _ h => h) (Or.inl ⟨by rfl, fun Wz hW => by obtain ⟨s0, s1, s2, s3⟩ := hW; go_simp⟩) hHeld ?_
          simp only [Act.put, List.getElem_toArray, List.getElem_cons_succ, List.getElem_cons_zero, List.setIfInBounds_toArray, List.set_cons_zero, List.set_cons_succ]
          refine wpAnyH_take (i := 17) (v := .slice (some ⟨b, off, none⟩) n c) rfl (by kernel_rfl) (by kernel_rfl) (by kernel_rfl) (fun _ _ _ h => h) (Or.inl ⟨by rfl, fun Wz hW => by obtain ⟨s0, s1, s2, s3⟩ := hW; go_simp⟩) hHeld ?_
          simp only [Act.put, List.getElem_toArray, List.getElem_cons_succ, List.getElem_cons_zero, List.setIfInBounds_toArray, List.set_cons_zero, List.set_cons_succ]
          refine wpAnyH_take (i := 18) (v := .int .i64 i) rfl (by kernel_rfl) (by kernel_rfl) (by kernel_rfl) (fun _ _ _ h => h) (Or.inl ⟨by rfl, fun Wz hW => by obtain ⟨s0, s1, s2, s3⟩ := hW; go_simp⟩) hHeld ?_
          simp only [Act.put, List.getElem_toArray, List.getElem_cons_succ, List.getElem_cons_zero, List.setIfInBounds_toArray, List.set_cons_zero, List.set_cons_succ]
          refine wpAnyH_take (i := 19) (v := .pointer (some ⟨b, oo, none⟩)) rfl (by kernel_rfl) (by kernel_rfl) (by kernel_rfl) (fun _ _ _ h => h) (Or.inl ⟨by rfl, fun Wz hW => by obtain ⟨s0, s1, s2, s3⟩ := hW; go_simp⟩) hHeld ?_
          simp only [Act.put, List.getElem_toArray, List.getElem_cons_succ, List.getElem_cons_zero, List.setIfInBounds_toArray, List.set_cons_zero, List.set_cons_succ]
          refine wpAnyH_take (i := 20) (v := .pointer (some ⟨b, oo + 11, none⟩)) rfl (by kernel_rfl) (by kernel_rfl) (by kernel_rfl) (fun _ _ _ h => h) (Or.inl ⟨by rfl, fun Wz hW => by obtain ⟨s0, s1, s2, s3⟩ := hW; go_simp⟩) hHeld ?_
          simp only [Act.put, List.getElem_toArray, List.getElem_cons_succ, List.getElem_cons_zero, List.setIfInBounds_toArray, List.set_cons_zero, List.set_cons_succ]
          refine wpAnyH_take (i := 21) (v := .int .i64 dl) rfl (by kernel_rfl) (by kernel_rfl) (by kernel_rfl) (fun _ _ _ h => h) (Or.inl ⟨by rfl, fun Wz hW => by obtain ⟨s0, s1, s2, s3⟩ := hW; go_simp⟩) hHeld ?_
          simp only [Act.put, List.getElem_toArray, List.getElem_cons_succ, List.getElem_cons_zero, List.setIfInBounds_toArray, List.set_cons_zero, List.set_cons_succ]
          refine wpAnyH_ready (rs := [22]) (by kernel_rfl) (by simp) ?_
          refine AllReadyH.cons rfl (fun K hK => ?_) AllReadyH.nil
          simp only [List.getElem_toArray, List.getElem_cons_succ, List.getElem_cons_zero]
          rw [if_pos (by rfl)]
          go_simp
          refine (cA.out _ (by repeat (with_reducible first | exact Keep.refl wr | apply Keep.alloc | apply Keep.drew | apply Keep.drewN))).mono ?_
          rintro e w4 ⟨v, rfl, O4, S4⟩; have K4 := C.kp O4; obtain ⟨n0, n1, n2, n3⟩ := atE.out w4 K4; have HELD2 : ∀ Wz, Keep w4 Wz → (Wz.cell? ⟨b, oo, none⟩ = some (.int .i64 ev) ∧ Wz.cell? ⟨b, oo + 1, none⟩ = some (.int .i64 id) ∧ Wz.cell? ⟨b, oo + 10, none⟩ = some (.int .i64 nd) ∧ Wz.cell? ⟨b, oo + 11, none⟩ = some (.int .i64 dl)) := fun Wz KK => ⟨KK.cell n0, KK.cell n1, KK.cell n2, KK.cell n3⟩; replace O4 := Lib.hid O4; replace S4 := Lib.hid S4; replace K4 := Lib.hid K4
          go_wp2_with fail
          refine hK.out _ _ ?_ (fun hHeld => ?_)
          · exact HELD2 _ (by repeat (with_reducible first | exact Keep.refl w4 | apply Keep.alloc | apply Keep.drew | apply Keep.drewN))
          clear hK K
          try simp only [Act.put, List.getElem_toArray, List.getElem_cons_succ, List.getElem_cons_zero, List.setIfInBounds_toArray, List.set_cons_zero, List.set_cons_succ]
          refine wpAnyH_take (i := 23) (v := .tuple #[v, .iface 88 (.agg #[.int .i64 cc, .int .i64 0])]) rfl (by kernel_rfl) (by kernel_rfl) (by kernel_rfl) (fun _ _ _ h => h) (Or.inl ⟨by rfl, fun Wz hW => by obtain ⟨s0, s1, s2, s3⟩ := hW; go_simp⟩) hHeld ?_
          simp only [Act.put, List.getElem_toArray, List.getElem_cons_succ, List.getElem_cons_zero, List.setIfInBounds_toArray, List.set_cons_zero, List.set_cons_succ]
          refine wpAnyH_take (i := 24) (v := v) rfl (by kernel_rfl) (by kernel_rfl) (by kernel_rfl) (fun _ _ _ h => h) (Or.inl ⟨by rfl, fun Wz hW => by obtain ⟨s0, s1, s2, s3⟩ := hW; go_simp⟩) hHeld ?_
          simp only [Act.put, List.getElem_toArray, List.getElem_cons_succ, List.getElem_cons_zero, List.setIfInBounds_toArray, List.set_cons_zero, List.set_cons_succ]
          refine wpAnyH_take (i := 25) (v := .iface 88 (.agg #[.int .i64 cc, .int .i64 0])) rfl (by kernel_rfl) (by kernel_rfl) (by kernel_rfl) (fun _ _ _ h => h) (Or.inl ⟨by rfl, fun Wz hW => by obtain ⟨s0, s1, s2, s3⟩ := hW; go_simp⟩) hHeld ?_
          simp only [Act.put, List.getElem_toArray, List.getElem_cons_succ, List.getElem_cons_zero, List.setIfInBounds_toArray, List.set_cons_zero, List.set_cons_succ]
          refine wpAnyH_take (i := 26) (v := .iface 88 (.agg #[.int .i64 cc, .int .i64 0])) rfl (by kernel_rfl) (by kernel_rfl) (by kernel_rfl) (fun _ _ _ h => h) (Or.inl ⟨by rfl, fun Wz hW => by obtain ⟨s0, s1, s2, s3⟩ := hW; go_simp⟩) hHeld ?_
          simp only [Act.put, List.getElem_toArray, List.getElem_cons_succ, List.getElem_cons_zero, List.setIfInBounds_toArray, List.set_cons_zero, List.set_cons_succ]
          refine wpAnyH_done (by kernel_rfl) ?_ _
          go_wp2
          go_roundg (n - (i + 1))
          case measure => omega
          case rel => exact ⟨i + 1, k, B, d, D, M2, X, hlt, rfl, by go_num, rfl, by omega, O4.out, by omega, ⟨m2.out, hMD.out.2⟩, fun p hp => DN2.out p hp, row_same RD.out (fun g hg => S4.out g (XB.out g hg)), XB.out⟩
    · obtain rfl : i = n := by omega
      have KR := Lib.hid (C.kp OO.out)
      go_wp2
      go_ret
      exact ⟨rfl, KR.out⟩
end Go.Proofs.YtfidlljhmebpmaaDoor.T13
