/-
  The law's play. Conditions: errors.errorType holds its own; at most 1000 pods, 1000 amounts each.
-/
import Derived.Test.YtfidlljhmebpmaaDoorOps13
namespace Go.Proofs.YtfidlljhmebpmaaDoor.T13
open Go.RowKit Go.Sort Go.Lib V12

def Played (OS : Pred) (w : World) (s : Int) (q : Nat) (M : List PodV) (e : Ending) (w' : World) : Prop :=
  ∃ B' c' n' P' X', e = .returned (.tuple #[.slice B' n' c', .bool true]) ∧ OS w s q M X' w' ∧ RL w X' w' B' c' n' P' ∧ (lst P' n').map nm = M
theorem put9_x {w w' : World} {bp : Nat} {r : PodV} (e : w' = put9 w bp r) : ∀ k, k ≠ bp → w'.heap[k]? = w.heap[k]? := fun k hk => by rw [e]; exact put9_block r hk
theorem put9_size {w : World} {bp : Nat} {r : PodV} : (put9 w bp r).heap.size = w.heap.size := by unfold put9; simp
theorem req_other {w w' : World} {base bp : Nat} {r : PodV} (h : Req w base r) (hi : PodIs w r) (f : ∀ k, k ≠ bp → w'.heap[k]? = w.heap[k]?) (hb : bp < base) : PodIs w' r := by
  refine ⟨⟨hi.rd.small, hi.rd.range, fun hn => ?_⟩, hi.nil, hi.rng⟩
  obtain ⟨b, off, e, hc⟩ := hi.rd.adr hn
  have hne : b ≠ bp := by
    rcases h.2 with ⟨hv, h0⟩ | ⟨g, cap, cur, hv, hg, _⟩
    · omega
    · simp only [Value.slice.injEq] at hv
      rw [e] at hv
      have e2 := Option.some.inj hv.1
      simp only [Addr.mk.injEq, and_true] at e2
      omega
  exact ⟨b, off, e, fun j hj => cell_same (hc j hj) (f b hne)⟩
theorem RL.xsame {w : World} {X : Nat → Prop} {w1 w2 : World} {B : Option Addr} {c n : Nat} {P : Nat → PodV} (h : RL w X w1 B c n P) (k : Keep w w2) (f : SameX X w1 w2) : RL w X w2 B c n P := h.same k f
set_option maxRecDepth 100000 in
set_option maxHeartbeats 32000000 in
theorem play_sub {OS : Pred} (C : Con OS) {w : World} {s : Int} {q : Nat} {L : List PodV} {X : Nat → Prop} {w1 : World} (h : OS w s q L X w1) {B : Option Addr} {c n : Nat} {P : Nat → PodV} (hr : RL w X w1 B c n P) (hL : (lst P n).map nm = L) (hg : ErrT w) (nd dl : Int) (x : PodV) (ho : OpIs w ⟨0, x, nd, dl⟩) (hm : x.m ≤ 1000) (hn : n ≤ 1000) (hc : subC L s x = 0) :
    Calls Tryd.prog 11 #[.pointer (some ⟨q, 0, none⟩), .slice B n c, .int .i64 s, (OpV.mk 0 x nd dl).val] w1 (Played OS w s q (subL L s x)) := by
  have kw := C.kp h
  have hx : PodIs w x := OpIs.x ho
  have hE : I64 0 := ho.e
  have hN : I64 nd := ho.n
  have hD : I64 dl := ho.d
  have hlen : L.length = n := by rw [← hL, List.length_map, lst_len]
  have hlt := C.lt h
  obtain ⟨bo, hbo⟩ : ∃ bo, bo = w1.heap.size := ⟨_, rfl⟩
  obtain ⟨bp, hbp⟩ : ∃ bp, bp = w1.heap.size + 1 := ⟨_, rfl⟩
  obtain ⟨W, hW⟩ : ∃ W, W = (w1.alloc (.cells (OpV.mk 0 x nd dl).arr 34)).alloc (.cells (podB zpod) 32) := ⟨_, rfl⟩
  have KW : Hid (Keep w1 W) := by rw [hW]; exact (Keep.one _ _).alloc _
  have Bo : W.heap[bo]? = some (.cells (OpV.mk 0 x nd dl).arr 34 (0, 0)) := by rw [hW, hbo]; exact (Keep.one _ _).block (heap_alloc_new _ _)
  have Bp : Hid (W.heap[bp]? = some (.cells (podB zpod) 32 (0, 0))) := by
    rw [hW, hbp]
    have := heap_alloc_new (w1.alloc (.cells (OpV.mk 0 x nd dl).arr 34)) (.cells (podB zpod) 32)
    rwa [World.size_alloc] at this
  have sW : Hid (W.heap.size = bp + 1) := by show _ = _; rw [hW, World.size_alloc, World.size_alloc, hbp]
  have hW1 := C.more h KW.out (Z := fun i => i = bo ∨ i = bp) (fun i hi => by have := sW.out; omega)
  have cS : Hid (Calls Tryd.prog 23 #[.pointer (some ⟨q, 0, none⟩), x.val] W fun e w' => ∃ r, e = .returned (.tuple #[r.val, fltC (subC L s x)]) ∧ nm r = subP x L.length ∧ PodIs w' r ∧ Req w' W.heap.size r ∧ OS w s q (subL L s x) (fun i => (X i ∨ i = bo ∨ i = bp) ∨ rb r i) w' ∧ ∀ i, (X i ∨ i = bo ∨ i = bp) → w'.heap[i]? = W.heap[i]?) := by
    refine (C.submit x hW1 (hg.keep (kw.trans KW.out)) (hx.keep (kw.trans KW.out)) hm (by omega)).mono ?_
    rintro e w' ⟨r, he, h1, h2, h3, h4, h5, h6⟩
    exact ⟨r, he, h1 hc, h3, h4, h5, h6⟩
  have cR : Hid (∀ w2, Keep w w2 → RL w X w2 B c n P → Calls Tryd.prog 26 #[.slice B n c, .int .i64 s, x.val] w2 fun e w' => ∃ B' c' n' P', e = .returned (.tuple #[.slice B' n' c', .int .i64 (subC L s x)]) ∧ Keep w2 w' ∧ RL w (fun i => X i ∨ (w2.heap.size ≤ i ∧ i < w'.heap.size)) w' B' c' n' P' ∧ (lst P' n').map nm = subL L s x ∧ ∃ t, t < n' ∧ findN P' x.k n' = (t : Int) ∧ nm (P' t) = subP x L.length) := fun w2 k2 r2 => by
    refine (rl_sub r2 hL s x hx k2 hn).mono ?_
    rintro e w' ⟨B', c', n', P', he, k3, r3, l3, p3⟩
    exact ⟨B', c', n', P', he, k3, r3, l3, p3 hc⟩
  have RX : Hid (RL w X W B c n P) := hr.keep KW.out
  have GW : Hid (∀ W', Keep w W' → ErrT W') := fun W' k => hg.keep k
  have kwW : Hid (Keep w W) := kw.trans KW.out
  have xlt : Hid (∀ i, X i → i < bo) := fun i hi => by rw [hbo]; exact hlt i hi
  have bop : Hid (bo < bp) := by show bo < bp; omega
  have wbo : Hid (w.heap.size ≤ bo) := by show _ ≤ bo; rw [hbo]; exact kw.size
  obtain ⟨code, hcode⟩ : ∃ code : Int, code = subC L s x := ⟨_, rfl⟩
  rw [← hcode] at cS cR hc
  obtain ⟨M, hM⟩ : ∃ M, M = subL L s x := ⟨_, rfl⟩
  rw [← hM] at cS cR ⊢
  obtain ⟨fv, hfv⟩ : ∃ fv, fv = fltC code := ⟨_, rfl⟩
  rw [← hfv] at cS
  obtain ⟨NR, hNR⟩ : ∃ NR, NR = subP x L.length := ⟨_, rfl⟩
  rw [← hNR] at cS cR
  have efv : fv = .nilIface := by rw [hfv, hc]; rfl
  subst efv
  subst hc
  have X0 := cel12_of Bo
  have O0 := Lib.hid X0
  replace Bo := Lib.hid Bo
  have x_e := X0.e; have x_n := X0.n; have x_d := X0.d
  have y0 := X0.x.e0; have y1 := X0.x.e1; have y2 := X0.x.e2; have y3 := X0.x.e3; have y4 := X0.x.e4; have y5 := X0.x.e5; have y6 := X0.x.e6; have y7 := X0.x.e7; have y8 := X0.x.e8
  clear X0
  have xk : Hid (I64 x.k) := hx.rng.1
  replace hx := Lib.hid hx
  replace hE := Lib.hid hE
  replace hN := Lib.hid hN
  replace hD := Lib.hid hD
  replace hL := Lib.hid hL
  replace hlen := Lib.hid hlen
  replace hcode := Lib.hid hcode
  replace hM := Lib.hid hM
  replace hNR := Lib.hid hNR
  replace hfv := Lib.hid hfv
  replace hm := Lib.hid hm
  replace hW1 := Lib.hid hW1
  replace kw := Lib.hid kw
  clear h hr hg ho hlt
  unfold OpV.arr podB zpod at hW
  unfold OpV.val at *
  unfold PodV.val at cS cR
  go_enter Tryd.func11, Tryd.ntmps11
  go_wp2_with fail
  rw [← hW, ← hbp, ← hbo]
  replace hW := Lib.hid hW
  replace hbp := Lib.hid hbp
  replace hbo := Lib.hid hbo
  refine cS.out.mono ?_
  rintro e w2 ⟨r, rfl, NE, IR, QR, OS2, S2⟩
  have KWB : Keep w w2 := C.kp OS2
  have O2 : Cel12 w2 bo 0 (OpV.mk 0 x nd dl) := O0.out.same (S2 bo (Or.inr (Or.inl rfl)))
  have B2 : w2.heap[bp]? = some (.cells (podB zpod) 32 (0, 0)) := (S2 bp (Or.inr (Or.inr rfl))).trans Bp.out
  obtain ⟨w3, hw3⟩ : ∃ w3, w3 = put9 w2 bp r := ⟨_, rfl⟩
  have B3 : Hid (w3.heap[bp]? = some (.cells (podB r) 32 (0, 0))) := by rw [hw3]; exact put9_heap r zpod B2
  have wbp : w.heap.size ≤ bp := by have := wbo.out; have := bop.out; omega
  have K3 : Hid (Keep w w3) := by rw [hw3]; exact put9_keep r KWB wbp
  have s3 : Hid (w3.heap.size = w2.heap.size) := by rw [hw3]; exact put9_size
  have O3 : Cel12 w3 bo 0 (OpV.mk 0 x nd dl) := O2.same (put9_x hw3 bo (by have := bop.out; omega))
  have OS3 : Hid (OS w s q M (fun i => (X i ∨ i = bo ∨ i = bp) ∨ rb r i) w3) := C.write OS2 K3.out (by rw [s3.out]; exact Nat.le_refl _) (fun k _ hk => put9_x hw3 k fun e => hk (Or.inl (Or.inr (Or.inr e))))
  have R3 : Hid (RL w X w3 B c n P) := RX.out.xsame K3.out (fun i hi => (put9_x hw3 i (by have := xlt.out i hi; have := bop.out; omega)).trans (S2 i (Or.inl hi)))
  have IR3 : Hid (PodIs w3 r) := req_other QR IR (put9_x hw3) (by rw [sW.out]; omega)
  have cR3 := Lib.hid (cR.out w3 K3.out R3.out)
  obtain ⟨p0, p1, p2, p3, p4, p5, p6, p7, p8, pf⟩ := blk9 B2
  unfold zpod at p0 p1 p2 p3 p4 p5 p6 p7 p8
  have O3h := Lib.hid O3
  have e3 := O3.e; have n3 := O3.n; have d3 := O3.d
  have u0 := O3.x.e0; have u1 := O3.x.e1; have u2 := O3.x.e2; have u3 := O3.x.e3; have u4 := O3.x.e4; have u5 := O3.x.e5; have u6 := O3.x.e6; have u7 := O3.x.e7; have u8 := O3.x.e8
  rw [hw3] at e3 n3 d3 u0 u1 u2 u3 u4 u5 u6 u7 u8
  unfold put9 at hw3 e3 n3 d3 u0 u1 u2 u3 u4 u5 u6 u7 u8
  replace S2 := Lib.hid S2
  replace OS2 := Lib.hid OS2
  replace O2 := Lib.hid O2
  replace B2 := Lib.hid B2
  replace NE := Lib.hid NE
  replace KWB := Lib.hid KWB
  replace wbp := Lib.hid wbp
  clear IR QR O3 x_e x_n x_d y0 y1 y2 y3 y4 y5 y6 y7 y8 cS cR
  go_wp2_with fail
  rw [← hw3]
  replace hw3 := Lib.hid hw3
  refine cR3.out.mono ?_
  rintro e w4 ⟨B', c', n', P', rfl, k4, R4, E4, t, ht, ft, nt⟩
  have K4 : Hid (Keep w w4) := K3.out.trans k4
  have OS4 : Hid (OS w s q M (fun i => ((X i ∨ i = bo ∨ i = bp) ∨ rb r i) ∨ (w3.heap.size ≤ i ∧ i < w4.heap.size)) w4) := C.more OS3.out k4 (fun i hi => hi)
  have R4X : Hid (RL w (fun i => ((X i ∨ i = bo ∨ i = bp) ∨ rb r i) ∨ (w3.heap.size ≤ i ∧ i < w4.heap.size)) w4 B' c' n' P') := R4.less fun i hi => hi.imp (fun h => Or.inl (Or.inl h)) id
  have fin : Hid (∀ w', Keep w4 w' → Played OS w s q M (.returned (.tuple #[.slice B' n' c', .bool true])) w') := fun w' k => ⟨B', c', n', P', _, rfl, C.keep OS4.out k, R4X.out.keep k, E4⟩
  have O4 := O3h.out.keep k4
  have B4 := Lib.hid (k4.block B3.out)
  have v0 := O4.x.e0
  obtain ⟨bw, hbw⟩ : ∃ bw, bw = w4.heap.size := ⟨_, rfl⟩
  obtain ⟨W5, hW5⟩ : ∃ W, W = w4.alloc (.cells (podB zpod) 32) := ⟨_, rfl⟩
  have K45 : Hid (Keep w4 W5) := by rw [hW5]; exact Keep.one _ _
  have B5 : W5.heap[bw]? = some (.cells (podB zpod) 32 (0, 0)) := by rw [hW5, hbw]; exact heap_alloc_new _ _
  have bpw : bp ≠ bw := by have := lt_of_block B4.out; omega
  have u0 := K45.out.cell v0
  replace O4 := Lib.hid O4
  replace k4 := Lib.hid k4
  replace E4 := Lib.hid E4
  clear e3 n3 d3 u1 u2 u3 u4 u5 u6 u7 u8 p0 p1 p2 p3 p4 p5 p6 p7 p8 pf cR3
  have RD5 := R4.rd.keep K45.out
  have cFi := rfind_fn B' n' c' P' x.k W5 RD5
  rw [ft] at cFi
  have hns := RD5.small
  obtain ⟨gb, go, eB, ca⟩ := RD5.adr (by omega)
  subst eB
  have q1 := pods_at gb go n' c' t ht
  have Y := ca t ht
  have IY := (R4.rd.is t ht)
  obtain ⟨y, hy⟩ : ∃ y, y = P' t := ⟨_, rfl⟩
  rw [← hy] at Y IY nt
  have hsv : Hid (SameV r y) := same_nm (NE.out.trans nt.symm)
  obtain ⟨w6, hw6⟩ : ∃ w6, w6 = put9 W5 bw y := ⟨_, rfl⟩
  have K46 : Hid (Keep w4 w6) := by rw [hw6]; exact put9_keep y K45.out (by omega)
  have B6w : Hid (w6.heap[bw]? = some (.cells (podB y) 32 (0, 0))) := by rw [hw6]; exact put9_heap y zpod B5
  have B6p : Hid (w6.heap[bp]? = some (.cells (podB r) 32 (0, 0))) := (put9_x hw6 bp bpw).trans (K45.out.block B4.out)
  obtain ⟨z0, z1, z2, z3, z4, z5, z6, z7, z8, zf⟩ := blk9 B5
  unfold zpod at z0 z1 z2 z3 z4 z5 z6 z7 z8
  have y0 := Y.e0; have y1 := Y.e1; have y2 := Y.e2; have y3 := Y.e3; have y4 := Y.e4; have y5 := Y.e5; have y6 := Y.e6; have y7 := Y.e7; have y8 := Y.e8
  have cE := Lib.hid (at_nil w6)
  have cC : Hid (∀ W', Calls Tryd.prog 29 #[.nilIface] W' fun e w' => e = .returned (.int .i64 0) ∧ Keep W' w') := fun W' => lcode_nil W'
  have IR4 : Hid (PodIs w4 r) := IR3.out.keep k4.out
  have cY : Hid (∀ W', Keep w4 W' → Calls Tryd.prog 17 #[r.val, y.val] W' fun e w' => e = .returned (.bool true) ∧ Keep W' w') := fun W' k => (rsamepod_fn r y W' hsv.out (IR4.out.keep k) (IY.keep k)).mono fun _ _ h => ⟨h.1, h.2.keep⟩
  unfold PodV.val at cY
  unfold podB zpod at hW5
  unfold put9 at hw6
  have HW6 := Lib.hid hw6
  have hbl : bo < w4.heap.size := cell_lt v0
  have U0 := Lib.hid u0
  have Y0 := Lib.hid y0; have Y1 := Lib.hid y1; have Y2 := Lib.hid y2; have Y3 := Lib.hid y3; have Y4 := Lib.hid y4; have Y5 := Lib.hid y5; have Y6 := Lib.hid y6; have Y7 := Lib.hid y7; have Y8 := Lib.hid y8
  have Z0 := Lib.hid z0; have Z1 := Lib.hid z1; have Z2 := Lib.hid z2; have Z3 := Lib.hid z3; have Z4 := Lib.hid z4; have Z5 := Lib.hid z5; have Z6 := Lib.hid z6; have Z7 := Lib.hid z7; have Z8 := Lib.hid z8; have ZF := Lib.hid zf; have Q1 := Lib.hid q1
  clear hw6 u0 y0 y1 y2 y3 y4 y5 y6 y7 y8 z0 z1 z2 z3 z4 z5 z6 z7 z8 zf q1
  replace cFi := Lib.hid cFi
  replace B5 := Lib.hid B5
  replace RD5 := Lib.hid RD5
  replace R4 := Lib.hid R4
  replace hy := Lib.hid hy
  replace nt := Lib.hid nt
  replace ft := Lib.hid ft
  replace bpw := Lib.hid bpw
  clear ca Y IY
  go_wp2_with fail
  rw [← hW5, ← hbw]
  replace hW5 := Lib.hid hW5
  replace hbw := Lib.hid hbw
  refine cFi.out.mono ?_
  rintro e w5 ⟨rfl, rfl⟩
  clear v0 hbl cFi
  have y0 := Y0.out; have y1 := Y1.out; have y2 := Y2.out; have y3 := Y3.out; have y4 := Y4.out; have y5 := Y5.out; have y6 := Y6.out; have y7 := Y7.out; have y8 := Y8.out
  have z0 := Z0.out; have z1 := Z1.out; have z2 := Z2.out; have z3 := Z3.out; have z4 := Z4.out; have z5 := Z5.out; have z6 := Z6.out; have z7 := Z7.out; have z8 := Z8.out; have zf := ZF.out; have q1 := Q1.out
  go_wp2_with fail
  rw [← HW6.out]
  refine cE.out.mono ?_
  rintro e w7 ⟨rfl, k7⟩
  have K7 := Lib.hid (K46.out.trans k7)
  have B7p := Lib.hid (k7.block B6p.out)
  have B7w := Lib.hid (k7.block B6w.out)
  replace k7 := Lib.hid k7
  clear y0 y1 y2 y3 y4 y5 y6 y7 y8 z0 z1 z2 z3 z4 z5 z6 z7 z8 zf cE q1
  go_wp2_with fail
  refine (cC.out _).mono ?_
  rintro e w8 ⟨rfl, k8⟩
  have K8 := Lib.hid (K7.out.trans k8)
  obtain ⟨p0, p1, p2, p3, p4, p5, p6, p7, p8, _⟩ := blk9 (k8.block B7p.out)
  obtain ⟨z0, z1, z2, z3, z4, z5, z6, z7, z8, _⟩ := blk9 (k8.block B7w.out)
  have cY8 := Lib.hid (cY.out w8 K8.out)
  replace k8 := Lib.hid k8
  clear cC cY
  go_wp2_with fail
  refine cY8.out.mono ?_
  rintro e w9 ⟨rfl, k9⟩
  have K9 := Lib.hid (K8.out.trans k9)
  replace k9 := Lib.hid k9
  clear p0 p1 p2 p3 p4 p5 p6 p7 p8 z0 z1 z2 z3 z4 z5 z6 z7 z8 cY8
  go_wp2
  go_ret2
  exact fin.out _ K9.out
set_option maxRecDepth 100000 in
set_option maxHeartbeats 32000000 in
theorem play_subNo {OS : Pred} (C : Con OS) {w : World} {s : Int} {q : Nat} {L : List PodV} {X : Nat → Prop} {w1 : World} (h : OS w s q L X w1) {B : Option Addr} {c n : Nat} {P : Nat → PodV} (hr : RL w X w1 B c n P) (hL : (lst P n).map nm = L) (hg : ErrT w) (nd dl : Int) (x : PodV) (ho : OpIs w ⟨0, x, nd, dl⟩) (hm : x.m ≤ 1000) (hn : n ≤ 1000) (hc : subC L s x ≠ 0) :
    Calls Tryd.prog 11 #[.pointer (some ⟨q, 0, none⟩), .slice B n c, .int .i64 s, (OpV.mk 0 x nd dl).val] w1 (Played OS w s q (subL L s x)) := by
  have kw := C.kp h
  have hx : PodIs w x := OpIs.x ho
  have hE : I64 0 := ho.e
  have hN : I64 nd := ho.n
  have hD : I64 dl := ho.d
  have hlen : L.length = n := by rw [← hL, List.length_map, lst_len]
  have hlt := C.lt h
  obtain ⟨bo, hbo⟩ : ∃ bo, bo = w1.heap.size := ⟨_, rfl⟩
  obtain ⟨bp, hbp⟩ : ∃ bp, bp = w1.heap.size + 1 := ⟨_, rfl⟩
  obtain ⟨W, hW⟩ : ∃ W, W = (w1.alloc (.cells (OpV.mk 0 x nd dl).arr 34)).alloc (.cells (podB zpod) 32) := ⟨_, rfl⟩
  have KW : Hid (Keep w1 W) := by rw [hW]; exact (Keep.one _ _).alloc _
  have Bo : W.heap[bo]? = some (.cells (OpV.mk 0 x nd dl).arr 34 (0, 0)) := by rw [hW, hbo]; exact (Keep.one _ _).block (heap_alloc_new _ _)
  have Bp : Hid (W.heap[bp]? = some (.cells (podB zpod) 32 (0, 0))) := by
    rw [hW, hbp]
    have := heap_alloc_new (w1.alloc (.cells (OpV.mk 0 x nd dl).arr 34)) (.cells (podB zpod) 32)
    rwa [World.size_alloc] at this
  have sW : Hid (W.heap.size = bp + 1) := by show _ = _; rw [hW, World.size_alloc, World.size_alloc, hbp]
  have hW1 := C.more h KW.out (Z := fun i => i = bo ∨ i = bp) (fun i hi => by have := sW.out; omega)
  have cS : Hid (Calls Tryd.prog 23 #[.pointer (some ⟨q, 0, none⟩), x.val] W fun e w' => ∃ r, e = .returned (.tuple #[r.val, fltC (subC L s x)]) ∧ nm r = zpod ∧ PodIs w' r ∧ Req w' W.heap.size r ∧ OS w s q (subL L s x) (fun i => (X i ∨ i = bo ∨ i = bp) ∨ rb r i) w' ∧ ∀ i, (X i ∨ i = bo ∨ i = bp) → w'.heap[i]? = W.heap[i]?) := by
    refine (C.submit x hW1 (hg.keep (kw.trans KW.out)) (hx.keep (kw.trans KW.out)) hm (by omega)).mono ?_
    rintro e w' ⟨r, he, h1, h2, h3, h4, h5, h6⟩
    exact ⟨r, he, h2 hc, h3, h4, h5, h6⟩
  have cR : Hid (∀ w2, Keep w w2 → RL w X w2 B c n P → Calls Tryd.prog 26 #[.slice B n c, .int .i64 s, x.val] w2 fun e w' => ∃ B' c' n' P', e = .returned (.tuple #[.slice B' n' c', .int .i64 (subC L s x)]) ∧ Keep w2 w' ∧ RL w (fun i => X i ∨ (w2.heap.size ≤ i ∧ i < w'.heap.size)) w' B' c' n' P' ∧ (lst P' n').map nm = subL L s x) := fun w2 k2 r2 => by
    refine (rl_sub r2 hL s x hx k2 hn).mono ?_
    rintro e w' ⟨B', c', n', P', he, k3, r3, l3, p3⟩
    exact ⟨B', c', n', P', he, k3, r3, l3⟩
  have RX : Hid (RL w X W B c n P) := hr.keep KW.out
  have GW : Hid (∀ W', Keep w W' → ErrT W') := fun W' k => hg.keep k
  have kwW : Hid (Keep w W) := kw.trans KW.out
  have xlt : Hid (∀ i, X i → i < bo) := fun i hi => by rw [hbo]; exact hlt i hi
  have bop : Hid (bo < bp) := by show bo < bp; omega
  have wbo : Hid (w.heap.size ≤ bo) := by show _ ≤ bo; rw [hbo]; exact kw.size
  obtain ⟨code, hcode⟩ : ∃ code : Int, code = subC L s x := ⟨_, rfl⟩
  rw [← hcode] at cS cR hc
  obtain ⟨M, hM⟩ : ∃ M, M = subL L s x := ⟨_, rfl⟩
  rw [← hM] at cS cR ⊢
  obtain ⟨fv, hfv⟩ : ∃ fv, fv = fltC code := ⟨_, rfl⟩
  rw [← hfv] at cS
  obtain ⟨NR, hNR⟩ : ∃ NR, NR = zpod := ⟨_, rfl⟩
  rw [← hNR] at cS
  have efv : fv = .iface 88 (.agg #[.int .i64 code, .int .i64 0]) := by rw [hfv]; unfold fltC; rw [if_neg hc]; rfl
  subst efv
  have X0 := cel12_of Bo
  have O0 := Lib.hid X0
  replace Bo := Lib.hid Bo
  have x_e := X0.e; have x_n := X0.n; have x_d := X0.d
  have y0 := X0.x.e0; have y1 := X0.x.e1; have y2 := X0.x.e2; have y3 := X0.x.e3; have y4 := X0.x.e4; have y5 := X0.x.e5; have y6 := X0.x.e6; have y7 := X0.x.e7; have y8 := X0.x.e8
  clear X0
  have xk : Hid (I64 x.k) := hx.rng.1
  replace hx := Lib.hid hx
  replace hE := Lib.hid hE
  replace hN := Lib.hid hN
  replace hD := Lib.hid hD
  have HC := Lib.hid hc
  replace hL := Lib.hid hL
  replace hlen := Lib.hid hlen
  replace hcode := Lib.hid hcode
  replace hM := Lib.hid hM
  replace hNR := Lib.hid hNR
  replace hfv := Lib.hid hfv
  replace hm := Lib.hid hm
  replace hW1 := Lib.hid hW1
  replace kw := Lib.hid kw
  clear h hr hg ho hlt hc
  unfold OpV.arr podB zpod at hW
  unfold OpV.val at *
  unfold PodV.val at cS cR
  go_enter Tryd.func11, Tryd.ntmps11
  go_wp2_with fail
  rw [← hW, ← hbp, ← hbo]
  replace hW := Lib.hid hW
  replace hbp := Lib.hid hbp
  replace hbo := Lib.hid hbo
  refine cS.out.mono ?_
  rintro e w2 ⟨r, rfl, NE, IR, QR, OS2, S2⟩
  have KWB : Keep w w2 := C.kp OS2
  have O2 : Cel12 w2 bo 0 (OpV.mk 0 x nd dl) := O0.out.same (S2 bo (Or.inr (Or.inl rfl)))
  have B2 : w2.heap[bp]? = some (.cells (podB zpod) 32 (0, 0)) := (S2 bp (Or.inr (Or.inr rfl))).trans Bp.out
  obtain ⟨w3, hw3⟩ : ∃ w3, w3 = put9 w2 bp r := ⟨_, rfl⟩
  have B3 : Hid (w3.heap[bp]? = some (.cells (podB r) 32 (0, 0))) := by rw [hw3]; exact put9_heap r zpod B2
  have wbp : w.heap.size ≤ bp := by have := wbo.out; have := bop.out; omega
  have K3 : Hid (Keep w w3) := by rw [hw3]; exact put9_keep r KWB wbp
  have s3 : Hid (w3.heap.size = w2.heap.size) := by rw [hw3]; exact put9_size
  have O3 : Cel12 w3 bo 0 (OpV.mk 0 x nd dl) := O2.same (put9_x hw3 bo (by have := bop.out; omega))
  have OS3 : Hid (OS w s q M (fun i => (X i ∨ i = bo ∨ i = bp) ∨ rb r i) w3) := C.write OS2 K3.out (by rw [s3.out]; exact Nat.le_refl _) (fun k _ hk => put9_x hw3 k fun e => hk (Or.inl (Or.inr (Or.inr e))))
  have R3 : Hid (RL w X w3 B c n P) := RX.out.xsame K3.out (fun i hi => (put9_x hw3 i (by have := xlt.out i hi; have := bop.out; omega)).trans (S2 i (Or.inl hi)))
  have IR3 : Hid (PodIs w3 r) := req_other QR IR (put9_x hw3) (by rw [sW.out]; omega)
  have cR3 := Lib.hid (cR.out w3 K3.out R3.out)
  obtain ⟨p0, p1, p2, p3, p4, p5, p6, p7, p8, pf⟩ := blk9 B2
  unfold zpod at p0 p1 p2 p3 p4 p5 p6 p7 p8
  have O3h := Lib.hid O3
  have e3 := O3.e; have n3 := O3.n; have d3 := O3.d
  have u0 := O3.x.e0; have u1 := O3.x.e1; have u2 := O3.x.e2; have u3 := O3.x.e3; have u4 := O3.x.e4; have u5 := O3.x.e5; have u6 := O3.x.e6; have u7 := O3.x.e7; have u8 := O3.x.e8
  rw [hw3] at e3 n3 d3 u0 u1 u2 u3 u4 u5 u6 u7 u8
  unfold put9 at hw3 e3 n3 d3 u0 u1 u2 u3 u4 u5 u6 u7 u8
  replace S2 := Lib.hid S2
  replace OS2 := Lib.hid OS2
  replace O2 := Lib.hid O2
  replace B2 := Lib.hid B2
  replace NE := Lib.hid NE
  replace KWB := Lib.hid KWB
  replace wbp := Lib.hid wbp
  clear IR QR O3 x_e x_n x_d y0 y1 y2 y3 y4 y5 y6 y7 y8 cS cR
  go_wp2_with fail
  rw [← hw3]
  replace hw3 := Lib.hid hw3
  refine cR3.out.mono ?_
  rintro e w4 ⟨B', c', n', P', rfl, k4, R4, E4⟩
  have K4 : Hid (Keep w w4) := K3.out.trans k4
  have OS4 : Hid (OS w s q M (fun i => ((X i ∨ i = bo ∨ i = bp) ∨ rb r i) ∨ (w3.heap.size ≤ i ∧ i < w4.heap.size)) w4) := C.more OS3.out k4 (fun i hi => hi)
  have R4X : Hid (RL w (fun i => ((X i ∨ i = bo ∨ i = bp) ∨ rb r i) ∨ (w3.heap.size ≤ i ∧ i < w4.heap.size)) w4 B' c' n' P') := R4.less fun i hi => hi.imp (fun h => Or.inl (Or.inl h)) id
  have fin : Hid (∀ w', Keep w4 w' → Played OS w s q M (.returned (.tuple #[.slice B' n' c', .bool true])) w') := fun w' k => ⟨B', c', n', P', _, rfl, C.keep OS4.out k, R4X.out.keep k, E4⟩
  have O4 := O3h.out.keep k4
  have B4 := Lib.hid (k4.block B3.out)
  have v0 := O4.x.e0
  obtain ⟨bw, hbw⟩ : ∃ bw, bw = w4.heap.size := ⟨_, rfl⟩
  obtain ⟨W5, hW5⟩ : ∃ W, W = w4.alloc (.cells (podB zpod) 32) := ⟨_, rfl⟩
  have K45 : Hid (Keep w4 W5) := by rw [hW5]; exact Keep.one _ _
  have B5 : W5.heap[bw]? = some (.cells (podB zpod) 32 (0, 0)) := by rw [hW5, hbw]; exact heap_alloc_new _ _
  have bpw : bp ≠ bw := by have := lt_of_block B4.out; omega
  have u0 := K45.out.cell v0
  replace O4 := Lib.hid O4
  replace k4 := Lib.hid k4
  replace E4 := Lib.hid E4
  clear e3 n3 d3 u1 u2 u3 u4 u5 u6 u7 u8 p0 p1 p2 p3 p4 p5 p6 p7 p8 pf cR3
  have cne : (code == 0) = false := by simpa using HC.out
  have hsv : Hid (SameV r zpod) := same_nm (NE.out.trans (hNR.out.trans rfl))
  have g5 : ErrT W5 := GW.out W5 (K4.out.trans K45.out)
  have cE : Hid (Calls Tryd.prog 31 #[.iface 88 (.agg #[.int .i64 code, .int .i64 0])] W5 fun e w' => e = .returned (.tuple #[.int .i64 0, .bool true]) ∧ Keep W5 w') := at_yes code 0 [] _ W5 (.base (.fault code 0)) g5
  have cC : Hid (∀ W', Keep w4 W' → Calls Tryd.prog 29 #[.iface 88 (.agg #[.int .i64 code, .int .i64 0])] W' fun e w' => e = .returned (.int .i64 code) ∧ Keep W' w') := fun W' k => lcode_yes code W' (GW.out W' (K4.out.trans k))
  have IR4 : Hid (PodIs w4 r) := IR3.out.keep k4.out
  have cY : Hid (∀ W', Keep w4 W' → Calls Tryd.prog 17 #[r.val, zpod.val] W' fun e w' => e = .returned (.bool true) ∧ Keep W' w') := fun W' k => (rsamepod_fn r zpod W' hsv.out (IR4.out.keep k) (zpod_is W')).mono fun _ _ h => ⟨h.1, h.2.keep⟩
  have B5p := Lib.hid (K45.out.block B4.out)
  unfold PodV.val zpod at cY
  unfold podB zpod at hW5
  replace B5 := Lib.hid B5
  replace R4 := Lib.hid R4
  replace g5 := Lib.hid g5
  replace bpw := Lib.hid bpw
  clear v0 u0
  go_wp2_with fail
  rw [← hW5]
  replace hW5 := Lib.hid hW5
  refine cE.out.mono ?_
  rintro e w7 ⟨rfl, k7⟩
  have K7 := Lib.hid (K45.out.trans k7)
  have B7p := Lib.hid (k7.block B5p.out)
  have B7w := Lib.hid (k7.block B5.out)
  replace k7 := Lib.hid k7
  have cC7 := Lib.hid (cC.out w7 K7.out)
  rw [← hbw]
  replace hbw := Lib.hid hbw
  clear cE cC
  go_wp2_with fail
  refine cC7.out.mono ?_
  rintro e w8 ⟨rfl, k8⟩
  have K8 := Lib.hid (K7.out.trans k8)
  obtain ⟨p0, p1, p2, p3, p4, p5, p6, p7, p8, _⟩ := blk9 (k8.block B7p.out)
  obtain ⟨z0, z1, z2, z3, z4, z5, z6, z7, z8, _⟩ := blk9 (k8.block B7w.out)
  unfold zpod at z0 z1 z2 z3 z4 z5 z6 z7 z8
  have cY8 := Lib.hid (cY.out w8 K8.out)
  replace k8 := Lib.hid k8
  clear cC7 cY
  go_wp2_with fail
  refine cY8.out.mono ?_
  rintro e w9 ⟨rfl, k9⟩
  have K9 := Lib.hid (K8.out.trans k9)
  replace k9 := Lib.hid k9
  have cne2 : (code != 0) = true := by simpa using HC.out
  replace cne := Lib.hid cne
  clear p0 p1 p2 p3 p4 p5 p6 p7 p8 z0 z1 z2 z3 z4 z5 z6 z7 z8 cY8
  go_wp2
  go_ret2
  exact fin.out _ K9.out
set_option maxRecDepth 100000 in
set_option maxHeartbeats 32000000 in
theorem play_app {OS : Pred} (C : Con OS) {w : World} {s : Int} {q : Nat} {L : List PodV} {X : Nat → Prop} {w1 : World} (h : OS w s q L X w1) {B : Option Addr} {c n : Nat} {P : Nat → PodV} (hr : RL w X w1 B c n P) (hL : (lst P n).map nm = L) (hg : ErrT w) (ev nd dl : Int) (x : PodV) (ho : OpIs w ⟨ev, x, nd, dl⟩) (hm : x.m ≤ 1000) (hn : n ≤ 1000) (hy : ∀ y ∈ L, y.m ≤ 1000) (hev : ev ≠ 0) (hc : appC L x.k ev = 0) :
    Calls Tryd.prog 11 #[.pointer (some ⟨q, 0, none⟩), .slice B n c, .int .i64 s, (OpV.mk ev x nd dl).val] w1 (Played OS w s q (appL L x.k ev nd dl)) := by
  have kw := C.kp h
  have hx : PodIs w x := OpIs.x ho
  have hE : I64 ev := ho.e
  have hN : I64 nd := ho.n
  have hD : I64 dl := ho.d
  have hlen : L.length = n := by rw [← hL, List.length_map, lst_len]
  have hlt := C.lt h
  obtain ⟨bo, hbo⟩ : ∃ bo, bo = w1.heap.size := ⟨_, rfl⟩
  obtain ⟨bp, hbp⟩ : ∃ bp, bp = w1.heap.size + 1 := ⟨_, rfl⟩
  obtain ⟨W, hW⟩ : ∃ W, W = (w1.alloc (.cells (OpV.mk ev x nd dl).arr 34)).alloc (.cells (podB zpod) 32) := ⟨_, rfl⟩
  have KW : Hid (Keep w1 W) := by rw [hW]; exact (Keep.one _ _).alloc _
  have Bo : W.heap[bo]? = some (.cells (OpV.mk ev x nd dl).arr 34 (0, 0)) := by rw [hW, hbo]; exact (Keep.one _ _).block (heap_alloc_new _ _)
  have Bp : Hid (W.heap[bp]? = some (.cells (podB zpod) 32 (0, 0))) := by
    rw [hW, hbp]
    have := heap_alloc_new (w1.alloc (.cells (OpV.mk ev x nd dl).arr 34)) (.cells (podB zpod) 32)
    rwa [World.size_alloc] at this
  have sW : Hid (W.heap.size = bp + 1) := by show _ = _; rw [hW, World.size_alloc, World.size_alloc, hbp]
  have hW1 := C.more h KW.out (Z := fun i => i = bo ∨ i = bp) (fun i hi => by have := sW.out; omega)
  have cS : Hid (Calls Tryd.prog 24 #[.pointer (some ⟨q, 0, none⟩), .int .i64 x.k, .int .i64 ev, .int .i64 nd, .int .i64 dl] W fun e w' => ∃ r, e = .returned (.tuple #[r.val, fltC (appC L x.k ev)]) ∧ nm r = appP (getL L x.k) ev nd dl ∧ PodIs w' r ∧ Req w' W.heap.size r ∧ OS w s q (appL L x.k ev nd dl) (fun i => (X i ∨ i = bo ∨ i = bp) ∨ rb r i) w' ∧ ∀ i, (X i ∨ i = bo ∨ i = bp) → w'.heap[i]? = W.heap[i]?) := by
    refine (C.apply x.k ev nd dl hW1 (hg.keep (kw.trans KW.out)) hx.rng.1 hE hN hD hy (by omega)).mono ?_
    rintro e w' ⟨r, he, h1, h2, h3, h4, h5, h6⟩
    exact ⟨r, he, h1 hc, h3, h4, h5, h6⟩
  have cR : Hid (∀ w2, Keep w w2 → RL w X w2 B c n P → Calls Tryd.prog 30 #[.slice B n c, .int .i64 x.k, .int .i64 ev, .int .i64 nd, .int .i64 dl] w2 fun e w' => ∃ B' c' n' P', e = .returned (.tuple #[.slice B' n' c', .int .i64 (appC L x.k ev)]) ∧ Keep w2 w' ∧ RL w (fun i => X i ∨ (w2.heap.size ≤ i ∧ i < w'.heap.size)) w' B' c' n' P' ∧ (lst P' n').map nm = appL L x.k ev nd dl ∧ ∃ t, t < n' ∧ findN P' x.k n' = (t : Int) ∧ nm (P' t) = appP (getL L x.k) ev nd dl) := fun w2 k2 r2 => by
    refine (rl_app r2 hL (C.ok h) x.k ev nd dl hN hD hn).mono ?_
    rintro e w' ⟨B', c', n', P', he, k3, r3, l3, p3⟩
    exact ⟨B', c', n', P', he, k3, r3, l3, p3 hc⟩
  have RX : Hid (RL w X W B c n P) := hr.keep KW.out
  have GW : Hid (∀ W', Keep w W' → ErrT W') := fun W' k => hg.keep k
  have kwW : Hid (Keep w W) := kw.trans KW.out
  have xlt : Hid (∀ i, X i → i < bo) := fun i hi => by rw [hbo]; exact hlt i hi
  have bop : Hid (bo < bp) := by show bo < bp; omega
  have wbo : Hid (w.heap.size ≤ bo) := by show _ ≤ bo; rw [hbo]; exact kw.size
  obtain ⟨code, hcode⟩ : ∃ code : Int, code = appC L x.k ev := ⟨_, rfl⟩
  rw [← hcode] at cS cR hc
  obtain ⟨M, hM⟩ : ∃ M, M = appL L x.k ev nd dl := ⟨_, rfl⟩
  rw [← hM] at cS cR ⊢
  obtain ⟨fv, hfv⟩ : ∃ fv, fv = fltC code := ⟨_, rfl⟩
  rw [← hfv] at cS
  obtain ⟨NR, hNR⟩ : ∃ NR, NR = appP (getL L x.k) ev nd dl := ⟨_, rfl⟩
  rw [← hNR] at cS cR
  have efv : fv = .nilIface := by rw [hfv, hc]; rfl
  subst efv
  subst hc
  have X0 := cel12_of Bo
  have O0 := Lib.hid X0
  replace Bo := Lib.hid Bo
  have x_e := X0.e; have x_n := X0.n; have x_d := X0.d
  have y0 := X0.x.e0; have y1 := X0.x.e1; have y2 := X0.x.e2; have y3 := X0.x.e3; have y4 := X0.x.e4; have y5 := X0.x.e5; have y6 := X0.x.e6; have y7 := X0.x.e7; have y8 := X0.x.e8
  clear X0
  have xk : Hid (I64 x.k) := hx.rng.1
  replace hx := Lib.hid hx
  replace hE := Lib.hid hE
  replace hN := Lib.hid hN
  replace hD := Lib.hid hD
  replace hL := Lib.hid hL
  replace hlen := Lib.hid hlen
  replace hcode := Lib.hid hcode
  replace hM := Lib.hid hM
  replace hNR := Lib.hid hNR
  replace hfv := Lib.hid hfv
  replace hm := Lib.hid hm
  replace hW1 := Lib.hid hW1
  replace kw := Lib.hid kw
  clear h hr hg ho hlt
  unfold OpV.arr podB zpod at hW
  unfold OpV.val at *
  unfold PodV.val at cS
  go_enter Tryd.func11, Tryd.ntmps11
  go_wp2_with fail
  rw [← hW, ← hbp, ← hbo]
  replace hW := Lib.hid hW
  replace hbp := Lib.hid hbp
  replace hbo := Lib.hid hbo
  refine cS.out.mono ?_
  rintro e w2 ⟨r, rfl, NE, IR, QR, OS2, S2⟩
  have KWB : Keep w w2 := C.kp OS2
  have O2 : Cel12 w2 bo 0 (OpV.mk ev x nd dl) := O0.out.same (S2 bo (Or.inr (Or.inl rfl)))
  have B2 : w2.heap[bp]? = some (.cells (podB zpod) 32 (0, 0)) := (S2 bp (Or.inr (Or.inr rfl))).trans Bp.out
  obtain ⟨w3, hw3⟩ : ∃ w3, w3 = put9 w2 bp r := ⟨_, rfl⟩
  have B3 : Hid (w3.heap[bp]? = some (.cells (podB r) 32 (0, 0))) := by rw [hw3]; exact put9_heap r zpod B2
  have wbp : w.heap.size ≤ bp := by have := wbo.out; have := bop.out; omega
  have K3 : Hid (Keep w w3) := by rw [hw3]; exact put9_keep r KWB wbp
  have s3 : Hid (w3.heap.size = w2.heap.size) := by rw [hw3]; exact put9_size
  have O3 : Cel12 w3 bo 0 (OpV.mk ev x nd dl) := O2.same (put9_x hw3 bo (by have := bop.out; omega))
  have OS3 : Hid (OS w s q M (fun i => (X i ∨ i = bo ∨ i = bp) ∨ rb r i) w3) := C.write OS2 K3.out (by rw [s3.out]; exact Nat.le_refl _) (fun k _ hk => put9_x hw3 k fun e => hk (Or.inl (Or.inr (Or.inr e))))
  have R3 : Hid (RL w X w3 B c n P) := RX.out.xsame K3.out (fun i hi => (put9_x hw3 i (by have := xlt.out i hi; have := bop.out; omega)).trans (S2 i (Or.inl hi)))
  have IR3 : Hid (PodIs w3 r) := req_other QR IR (put9_x hw3) (by rw [sW.out]; omega)
  have cR3 := Lib.hid (cR.out w3 K3.out R3.out)
  obtain ⟨p0, p1, p2, p3, p4, p5, p6, p7, p8, pf⟩ := blk9 B2
  unfold zpod at p0 p1 p2 p3 p4 p5 p6 p7 p8
  have O3h := Lib.hid O3
  have e3 := O3.e; have n3 := O3.n; have d3 := O3.d
  have u0 := O3.x.e0; have u1 := O3.x.e1; have u2 := O3.x.e2; have u3 := O3.x.e3; have u4 := O3.x.e4; have u5 := O3.x.e5; have u6 := O3.x.e6; have u7 := O3.x.e7; have u8 := O3.x.e8
  rw [hw3] at e3 n3 d3 u0 u1 u2 u3 u4 u5 u6 u7 u8
  unfold put9 at hw3 e3 n3 d3 u0 u1 u2 u3 u4 u5 u6 u7 u8
  replace S2 := Lib.hid S2
  replace OS2 := Lib.hid OS2
  replace O2 := Lib.hid O2
  replace B2 := Lib.hid B2
  replace NE := Lib.hid NE
  replace KWB := Lib.hid KWB
  replace wbp := Lib.hid wbp
  clear IR QR O3 x_e x_n x_d y0 y1 y2 y3 y4 y5 y6 y7 y8 cS cR
  go_wp2_with fail
  rw [← hw3]
  replace hw3 := Lib.hid hw3
  refine cR3.out.mono ?_
  rintro e w4 ⟨B', c', n', P', rfl, k4, R4, E4, t, ht, ft, nt⟩
  have K4 : Hid (Keep w w4) := K3.out.trans k4
  have OS4 : Hid (OS w s q M (fun i => ((X i ∨ i = bo ∨ i = bp) ∨ rb r i) ∨ (w3.heap.size ≤ i ∧ i < w4.heap.size)) w4) := C.more OS3.out k4 (fun i hi => hi)
  have R4X : Hid (RL w (fun i => ((X i ∨ i = bo ∨ i = bp) ∨ rb r i) ∨ (w3.heap.size ≤ i ∧ i < w4.heap.size)) w4 B' c' n' P') := R4.less fun i hi => hi.imp (fun h => Or.inl (Or.inl h)) id
  have fin : Hid (∀ w', Keep w4 w' → Played OS w s q M (.returned (.tuple #[.slice B' n' c', .bool true])) w') := fun w' k => ⟨B', c', n', P', _, rfl, C.keep OS4.out k, R4X.out.keep k, E4⟩
  have O4 := O3h.out.keep k4
  have B4 := Lib.hid (k4.block B3.out)
  have v0 := O4.x.e0
  obtain ⟨bw, hbw⟩ : ∃ bw, bw = w4.heap.size := ⟨_, rfl⟩
  obtain ⟨W5, hW5⟩ : ∃ W, W = w4.alloc (.cells (podB zpod) 32) := ⟨_, rfl⟩
  have K45 : Hid (Keep w4 W5) := by rw [hW5]; exact Keep.one _ _
  have B5 : W5.heap[bw]? = some (.cells (podB zpod) 32 (0, 0)) := by rw [hW5, hbw]; exact heap_alloc_new _ _
  have bpw : bp ≠ bw := by have := lt_of_block B4.out; omega
  have u0 := K45.out.cell v0
  replace O4 := Lib.hid O4
  replace k4 := Lib.hid k4
  replace E4 := Lib.hid E4
  clear e3 n3 d3 u1 u2 u3 u4 u5 u6 u7 u8 p0 p1 p2 p3 p4 p5 p6 p7 p8 pf cR3
  have RD5 := R4.rd.keep K45.out
  have cFi := rfind_fn B' n' c' P' x.k W5 RD5
  rw [ft] at cFi
  have hns := RD5.small
  obtain ⟨gb, go, eB, ca⟩ := RD5.adr (by omega)
  subst eB
  have q1 := pods_at gb go n' c' t ht
  have Y := ca t ht
  have IY := (R4.rd.is t ht)
  obtain ⟨y, hy⟩ : ∃ y, y = P' t := ⟨_, rfl⟩
  rw [← hy] at Y IY nt
  have hsv : Hid (SameV r y) := same_nm (NE.out.trans nt.symm)
  obtain ⟨w6, hw6⟩ : ∃ w6, w6 = put9 W5 bw y := ⟨_, rfl⟩
  have K46 : Hid (Keep w4 w6) := by rw [hw6]; exact put9_keep y K45.out (by omega)
  have B6w : Hid (w6.heap[bw]? = some (.cells (podB y) 32 (0, 0))) := by rw [hw6]; exact put9_heap y zpod B5
  have B6p : Hid (w6.heap[bp]? = some (.cells (podB r) 32 (0, 0))) := (put9_x hw6 bp bpw).trans (K45.out.block B4.out)
  obtain ⟨z0, z1, z2, z3, z4, z5, z6, z7, z8, zf⟩ := blk9 B5
  unfold zpod at z0 z1 z2 z3 z4 z5 z6 z7 z8
  have y0 := Y.e0; have y1 := Y.e1; have y2 := Y.e2; have y3 := Y.e3; have y4 := Y.e4; have y5 := Y.e5; have y6 := Y.e6; have y7 := Y.e7; have y8 := Y.e8
  have cE := Lib.hid (at_nil w6)
  have cC : Hid (∀ W', Calls Tryd.prog 29 #[.nilIface] W' fun e w' => e = .returned (.int .i64 0) ∧ Keep W' w') := fun W' => lcode_nil W'
  have IR4 : Hid (PodIs w4 r) := IR3.out.keep k4.out
  have cY : Hid (∀ W', Keep w4 W' → Calls Tryd.prog 17 #[r.val, y.val] W' fun e w' => e = .returned (.bool true) ∧ Keep W' w') := fun W' k => (rsamepod_fn r y W' hsv.out (IR4.out.keep k) (IY.keep k)).mono fun _ _ h => ⟨h.1, h.2.keep⟩
  unfold PodV.val at cY
  unfold podB zpod at hW5
  unfold put9 at hw6
  have HW6 := Lib.hid hw6
  have hbl : bo < w4.heap.size := cell_lt v0
  have U0 := Lib.hid u0
  have Y0 := Lib.hid y0; have Y1 := Lib.hid y1; have Y2 := Lib.hid y2; have Y3 := Lib.hid y3; have Y4 := Lib.hid y4; have Y5 := Lib.hid y5; have Y6 := Lib.hid y6; have Y7 := Lib.hid y7; have Y8 := Lib.hid y8
  have Z0 := Lib.hid z0; have Z1 := Lib.hid z1; have Z2 := Lib.hid z2; have Z3 := Lib.hid z3; have Z4 := Lib.hid z4; have Z5 := Lib.hid z5; have Z6 := Lib.hid z6; have Z7 := Lib.hid z7; have Z8 := Lib.hid z8; have ZF := Lib.hid zf; have Q1 := Lib.hid q1
  clear hw6 u0 y0 y1 y2 y3 y4 y5 y6 y7 y8 z0 z1 z2 z3 z4 z5 z6 z7 z8 zf q1
  replace cFi := Lib.hid cFi
  replace B5 := Lib.hid B5
  replace RD5 := Lib.hid RD5
  replace R4 := Lib.hid R4
  replace hy := Lib.hid hy
  replace nt := Lib.hid nt
  replace ft := Lib.hid ft
  replace bpw := Lib.hid bpw
  clear ca Y IY
  go_wp2_with fail
  rw [← hW5, ← hbw]
  replace hW5 := Lib.hid hW5
  replace hbw := Lib.hid hbw
  refine cFi.out.mono ?_
  rintro e w5 ⟨rfl, rfl⟩
  clear v0 hbl cFi
  have y0 := Y0.out; have y1 := Y1.out; have y2 := Y2.out; have y3 := Y3.out; have y4 := Y4.out; have y5 := Y5.out; have y6 := Y6.out; have y7 := Y7.out; have y8 := Y8.out
  have z0 := Z0.out; have z1 := Z1.out; have z2 := Z2.out; have z3 := Z3.out; have z4 := Z4.out; have z5 := Z5.out; have z6 := Z6.out; have z7 := Z7.out; have z8 := Z8.out; have zf := ZF.out; have q1 := Q1.out
  go_wp2_with fail
  rw [← HW6.out]
  refine cE.out.mono ?_
  rintro e w7 ⟨rfl, k7⟩
  have K7 := Lib.hid (K46.out.trans k7)
  have B7p := Lib.hid (k7.block B6p.out)
  have B7w := Lib.hid (k7.block B6w.out)
  replace k7 := Lib.hid k7
  clear y0 y1 y2 y3 y4 y5 y6 y7 y8 z0 z1 z2 z3 z4 z5 z6 z7 z8 zf cE q1
  go_wp2_with fail
  refine (cC.out _).mono ?_
  rintro e w8 ⟨rfl, k8⟩
  have K8 := Lib.hid (K7.out.trans k8)
  obtain ⟨p0, p1, p2, p3, p4, p5, p6, p7, p8, _⟩ := blk9 (k8.block B7p.out)
  obtain ⟨z0, z1, z2, z3, z4, z5, z6, z7, z8, _⟩ := blk9 (k8.block B7w.out)
  have cY8 := Lib.hid (cY.out w8 K8.out)
  replace k8 := Lib.hid k8
  clear cC cY
  go_wp2_with fail
  refine cY8.out.mono ?_
  rintro e w9 ⟨rfl, k9⟩
  have K9 := Lib.hid (K8.out.trans k9)
  replace k9 := Lib.hid k9
  clear p0 p1 p2 p3 p4 p5 p6 p7 p8 z0 z1 z2 z3 z4 z5 z6 z7 z8 cY8
  go_wp2
  go_ret2
  exact fin.out _ K9.out
set_option maxRecDepth 100000 in
set_option maxHeartbeats 32000000 in
theorem play_appNo {OS : Pred} (C : Con OS) {w : World} {s : Int} {q : Nat} {L : List PodV} {X : Nat → Prop} {w1 : World} (h : OS w s q L X w1) {B : Option Addr} {c n : Nat} {P : Nat → PodV} (hr : RL w X w1 B c n P) (hL : (lst P n).map nm = L) (hg : ErrT w) (ev nd dl : Int) (x : PodV) (ho : OpIs w ⟨ev, x, nd, dl⟩) (hm : x.m ≤ 1000) (hn : n ≤ 1000) (hy : ∀ y ∈ L, y.m ≤ 1000) (hev : ev ≠ 0) (hc : appC L x.k ev ≠ 0) :
    Calls Tryd.prog 11 #[.pointer (some ⟨q, 0, none⟩), .slice B n c, .int .i64 s, (OpV.mk ev x nd dl).val] w1 (Played OS w s q (appL L x.k ev nd dl)) := by
  have kw := C.kp h
  have hx : PodIs w x := OpIs.x ho
  have hE : I64 ev := ho.e
  have hN : I64 nd := ho.n
  have hD : I64 dl := ho.d
  have hlen : L.length = n := by rw [← hL, List.length_map, lst_len]
  have hlt := C.lt h
  obtain ⟨bo, hbo⟩ : ∃ bo, bo = w1.heap.size := ⟨_, rfl⟩
  obtain ⟨bp, hbp⟩ : ∃ bp, bp = w1.heap.size + 1 := ⟨_, rfl⟩
  obtain ⟨W, hW⟩ : ∃ W, W = (w1.alloc (.cells (OpV.mk ev x nd dl).arr 34)).alloc (.cells (podB zpod) 32) := ⟨_, rfl⟩
  have KW : Hid (Keep w1 W) := by rw [hW]; exact (Keep.one _ _).alloc _
  have Bo : W.heap[bo]? = some (.cells (OpV.mk ev x nd dl).arr 34 (0, 0)) := by rw [hW, hbo]; exact (Keep.one _ _).block (heap_alloc_new _ _)
  have Bp : Hid (W.heap[bp]? = some (.cells (podB zpod) 32 (0, 0))) := by
    rw [hW, hbp]
    have := heap_alloc_new (w1.alloc (.cells (OpV.mk ev x nd dl).arr 34)) (.cells (podB zpod) 32)
    rwa [World.size_alloc] at this
  have sW : Hid (W.heap.size = bp + 1) := by show _ = _; rw [hW, World.size_alloc, World.size_alloc, hbp]
  have hW1 := C.more h KW.out (Z := fun i => i = bo ∨ i = bp) (fun i hi => by have := sW.out; omega)
  have cS : Hid (Calls Tryd.prog 24 #[.pointer (some ⟨q, 0, none⟩), .int .i64 x.k, .int .i64 ev, .int .i64 nd, .int .i64 dl] W fun e w' => ∃ r, e = .returned (.tuple #[r.val, fltC (appC L x.k ev)]) ∧ nm r = zpod ∧ PodIs w' r ∧ Req w' W.heap.size r ∧ OS w s q (appL L x.k ev nd dl) (fun i => (X i ∨ i = bo ∨ i = bp) ∨ rb r i) w' ∧ ∀ i, (X i ∨ i = bo ∨ i = bp) → w'.heap[i]? = W.heap[i]?) := by
    refine (C.apply x.k ev nd dl hW1 (hg.keep (kw.trans KW.out)) hx.rng.1 hE hN hD hy (by omega)).mono ?_
    rintro e w' ⟨r, he, h1, h2, h3, h4, h5, h6⟩
    exact ⟨r, he, h2 hc, h3, h4, h5, h6⟩
  have cR : Hid (∀ w2, Keep w w2 → RL w X w2 B c n P → Calls Tryd.prog 30 #[.slice B n c, .int .i64 x.k, .int .i64 ev, .int .i64 nd, .int .i64 dl] w2 fun e w' => ∃ B' c' n' P', e = .returned (.tuple #[.slice B' n' c', .int .i64 (appC L x.k ev)]) ∧ Keep w2 w' ∧ RL w (fun i => X i ∨ (w2.heap.size ≤ i ∧ i < w'.heap.size)) w' B' c' n' P' ∧ (lst P' n').map nm = appL L x.k ev nd dl) := fun w2 k2 r2 => by
    refine (rl_app r2 hL (C.ok h) x.k ev nd dl hN hD hn).mono ?_
    rintro e w' ⟨B', c', n', P', he, k3, r3, l3, p3⟩
    exact ⟨B', c', n', P', he, k3, r3, l3⟩
  have RX : Hid (RL w X W B c n P) := hr.keep KW.out
  have GW : Hid (∀ W', Keep w W' → ErrT W') := fun W' k => hg.keep k
  have kwW : Hid (Keep w W) := kw.trans KW.out
  have xlt : Hid (∀ i, X i → i < bo) := fun i hi => by rw [hbo]; exact hlt i hi
  have bop : Hid (bo < bp) := by show bo < bp; omega
  have wbo : Hid (w.heap.size ≤ bo) := by show _ ≤ bo; rw [hbo]; exact kw.size
  obtain ⟨code, hcode⟩ : ∃ code : Int, code = appC L x.k ev := ⟨_, rfl⟩
  rw [← hcode] at cS cR hc
  obtain ⟨M, hM⟩ : ∃ M, M = appL L x.k ev nd dl := ⟨_, rfl⟩
  rw [← hM] at cS cR ⊢
  obtain ⟨fv, hfv⟩ : ∃ fv, fv = fltC code := ⟨_, rfl⟩
  rw [← hfv] at cS
  obtain ⟨NR, hNR⟩ : ∃ NR, NR = zpod := ⟨_, rfl⟩
  rw [← hNR] at cS
  have efv : fv = .iface 88 (.agg #[.int .i64 code, .int .i64 0]) := by rw [hfv]; unfold fltC; rw [if_neg hc]; rfl
  subst efv
  have X0 := cel12_of Bo
  have O0 := Lib.hid X0
  replace Bo := Lib.hid Bo
  have x_e := X0.e; have x_n := X0.n; have x_d := X0.d
  have y0 := X0.x.e0; have y1 := X0.x.e1; have y2 := X0.x.e2; have y3 := X0.x.e3; have y4 := X0.x.e4; have y5 := X0.x.e5; have y6 := X0.x.e6; have y7 := X0.x.e7; have y8 := X0.x.e8
  clear X0
  have xk : Hid (I64 x.k) := hx.rng.1
  replace hx := Lib.hid hx
  replace hE := Lib.hid hE
  replace hN := Lib.hid hN
  replace hD := Lib.hid hD
  have HC := Lib.hid hc
  replace hL := Lib.hid hL
  replace hlen := Lib.hid hlen
  replace hcode := Lib.hid hcode
  replace hM := Lib.hid hM
  replace hNR := Lib.hid hNR
  replace hfv := Lib.hid hfv
  replace hm := Lib.hid hm
  replace hW1 := Lib.hid hW1
  replace kw := Lib.hid kw
  clear h hr hg ho hlt hc
  unfold OpV.arr podB zpod at hW
  unfold OpV.val at *
  unfold PodV.val at cS
  go_enter Tryd.func11, Tryd.ntmps11
  go_wp2_with fail
  rw [← hW, ← hbp, ← hbo]
  replace hW := Lib.hid hW
  replace hbp := Lib.hid hbp
  replace hbo := Lib.hid hbo
  refine cS.out.mono ?_
  rintro e w2 ⟨r, rfl, NE, IR, QR, OS2, S2⟩
  have KWB : Keep w w2 := C.kp OS2
  have O2 : Cel12 w2 bo 0 (OpV.mk ev x nd dl) := O0.out.same (S2 bo (Or.inr (Or.inl rfl)))
  have B2 : w2.heap[bp]? = some (.cells (podB zpod) 32 (0, 0)) := (S2 bp (Or.inr (Or.inr rfl))).trans Bp.out
  obtain ⟨w3, hw3⟩ : ∃ w3, w3 = put9 w2 bp r := ⟨_, rfl⟩
  have B3 : Hid (w3.heap[bp]? = some (.cells (podB r) 32 (0, 0))) := by rw [hw3]; exact put9_heap r zpod B2
  have wbp : w.heap.size ≤ bp := by have := wbo.out; have := bop.out; omega
  have K3 : Hid (Keep w w3) := by rw [hw3]; exact put9_keep r KWB wbp
  have s3 : Hid (w3.heap.size = w2.heap.size) := by rw [hw3]; exact put9_size
  have O3 : Cel12 w3 bo 0 (OpV.mk ev x nd dl) := O2.same (put9_x hw3 bo (by have := bop.out; omega))
  have OS3 : Hid (OS w s q M (fun i => (X i ∨ i = bo ∨ i = bp) ∨ rb r i) w3) := C.write OS2 K3.out (by rw [s3.out]; exact Nat.le_refl _) (fun k _ hk => put9_x hw3 k fun e => hk (Or.inl (Or.inr (Or.inr e))))
  have R3 : Hid (RL w X w3 B c n P) := RX.out.xsame K3.out (fun i hi => (put9_x hw3 i (by have := xlt.out i hi; have := bop.out; omega)).trans (S2 i (Or.inl hi)))
  have IR3 : Hid (PodIs w3 r) := req_other QR IR (put9_x hw3) (by rw [sW.out]; omega)
  have cR3 := Lib.hid (cR.out w3 K3.out R3.out)
  obtain ⟨p0, p1, p2, p3, p4, p5, p6, p7, p8, pf⟩ := blk9 B2
  unfold zpod at p0 p1 p2 p3 p4 p5 p6 p7 p8
  have O3h := Lib.hid O3
  have e3 := O3.e; have n3 := O3.n; have d3 := O3.d
  have u0 := O3.x.e0; have u1 := O3.x.e1; have u2 := O3.x.e2; have u3 := O3.x.e3; have u4 := O3.x.e4; have u5 := O3.x.e5; have u6 := O3.x.e6; have u7 := O3.x.e7; have u8 := O3.x.e8
  rw [hw3] at e3 n3 d3 u0 u1 u2 u3 u4 u5 u6 u7 u8
  unfold put9 at hw3 e3 n3 d3 u0 u1 u2 u3 u4 u5 u6 u7 u8
  replace S2 := Lib.hid S2
  replace OS2 := Lib.hid OS2
  replace O2 := Lib.hid O2
  replace B2 := Lib.hid B2
  replace NE := Lib.hid NE
  replace KWB := Lib.hid KWB
  replace wbp := Lib.hid wbp
  clear IR QR O3 x_e x_n x_d y0 y1 y2 y3 y4 y5 y6 y7 y8 cS cR
  go_wp2_with fail
  rw [← hw3]
  replace hw3 := Lib.hid hw3
  refine cR3.out.mono ?_
  rintro e w4 ⟨B', c', n', P', rfl, k4, R4, E4⟩
  have K4 : Hid (Keep w w4) := K3.out.trans k4
  have OS4 : Hid (OS w s q M (fun i => ((X i ∨ i = bo ∨ i = bp) ∨ rb r i) ∨ (w3.heap.size ≤ i ∧ i < w4.heap.size)) w4) := C.more OS3.out k4 (fun i hi => hi)
  have R4X : Hid (RL w (fun i => ((X i ∨ i = bo ∨ i = bp) ∨ rb r i) ∨ (w3.heap.size ≤ i ∧ i < w4.heap.size)) w4 B' c' n' P') := R4.less fun i hi => hi.imp (fun h => Or.inl (Or.inl h)) id
  have fin : Hid (∀ w', Keep w4 w' → Played OS w s q M (.returned (.tuple #[.slice B' n' c', .bool true])) w') := fun w' k => ⟨B', c', n', P', _, rfl, C.keep OS4.out k, R4X.out.keep k, E4⟩
  have O4 := O3h.out.keep k4
  have B4 := Lib.hid (k4.block B3.out)
  have v0 := O4.x.e0
  obtain ⟨bw, hbw⟩ : ∃ bw, bw = w4.heap.size := ⟨_, rfl⟩
  obtain ⟨W5, hW5⟩ : ∃ W, W = w4.alloc (.cells (podB zpod) 32) := ⟨_, rfl⟩
  have K45 : Hid (Keep w4 W5) := by rw [hW5]; exact Keep.one _ _
  have B5 : W5.heap[bw]? = some (.cells (podB zpod) 32 (0, 0)) := by rw [hW5, hbw]; exact heap_alloc_new _ _
  have bpw : bp ≠ bw := by have := lt_of_block B4.out; omega
  have u0 := K45.out.cell v0
  replace O4 := Lib.hid O4
  replace k4 := Lib.hid k4
  replace E4 := Lib.hid E4
  clear e3 n3 d3 u1 u2 u3 u4 u5 u6 u7 u8 p0 p1 p2 p3 p4 p5 p6 p7 p8 pf cR3
  have cne : (code == 0) = false := by simpa using HC.out
  have hsv : Hid (SameV r zpod) := same_nm (NE.out.trans (hNR.out.trans rfl))
  have g5 : ErrT W5 := GW.out W5 (K4.out.trans K45.out)
  have cE : Hid (Calls Tryd.prog 31 #[.iface 88 (.agg #[.int .i64 code, .int .i64 0])] W5 fun e w' => e = .returned (.tuple #[.int .i64 0, .bool true]) ∧ Keep W5 w') := at_yes code 0 [] _ W5 (.base (.fault code 0)) g5
  have cC : Hid (∀ W', Keep w4 W' → Calls Tryd.prog 29 #[.iface 88 (.agg #[.int .i64 code, .int .i64 0])] W' fun e w' => e = .returned (.int .i64 code) ∧ Keep W' w') := fun W' k => lcode_yes code W' (GW.out W' (K4.out.trans k))
  have IR4 : Hid (PodIs w4 r) := IR3.out.keep k4.out
  have cY : Hid (∀ W', Keep w4 W' → Calls Tryd.prog 17 #[r.val, zpod.val] W' fun e w' => e = .returned (.bool true) ∧ Keep W' w') := fun W' k => (rsamepod_fn r zpod W' hsv.out (IR4.out.keep k) (zpod_is W')).mono fun _ _ h => ⟨h.1, h.2.keep⟩
  have B5p := Lib.hid (K45.out.block B4.out)
  unfold PodV.val zpod at cY
  unfold podB zpod at hW5
  replace B5 := Lib.hid B5
  replace R4 := Lib.hid R4
  replace g5 := Lib.hid g5
  replace bpw := Lib.hid bpw
  clear v0 u0
  go_wp2_with fail
  rw [← hW5]
  replace hW5 := Lib.hid hW5
  refine cE.out.mono ?_
  rintro e w7 ⟨rfl, k7⟩
  have K7 := Lib.hid (K45.out.trans k7)
  have B7p := Lib.hid (k7.block B5p.out)
  have B7w := Lib.hid (k7.block B5.out)
  replace k7 := Lib.hid k7
  have cC7 := Lib.hid (cC.out w7 K7.out)
  rw [← hbw]
  replace hbw := Lib.hid hbw
  clear cE cC
  go_wp2_with fail
  refine cC7.out.mono ?_
  rintro e w8 ⟨rfl, k8⟩
  have K8 := Lib.hid (K7.out.trans k8)
  obtain ⟨p0, p1, p2, p3, p4, p5, p6, p7, p8, _⟩ := blk9 (k8.block B7p.out)
  obtain ⟨z0, z1, z2, z3, z4, z5, z6, z7, z8, _⟩ := blk9 (k8.block B7w.out)
  unfold zpod at z0 z1 z2 z3 z4 z5 z6 z7 z8
  have cY8 := Lib.hid (cY.out w8 K8.out)
  replace k8 := Lib.hid k8
  clear cC7 cY
  go_wp2_with fail
  refine cY8.out.mono ?_
  rintro e w9 ⟨rfl, k9⟩
  have K9 := Lib.hid (K8.out.trans k9)
  replace k9 := Lib.hid k9
  have cne2 : (code != 0) = true := by simpa using HC.out
  replace cne := Lib.hid cne
  clear p0 p1 p2 p3 p4 p5 p6 p7 p8 z0 z1 z2 z3 z4 z5 z6 z7 z8 cY8
  go_wp2
  go_ret2
  exact fin.out _ K9.out
theorem play_fn {OS : Pred} (C : Con OS) {w : World} {s : Int} {q : Nat} {L : List PodV} {X : Nat → Prop} {w1 : World} (h : OS w s q L X w1) {B : Option Addr} {c n : Nat} {P : Nat → PodV} (hr : RL w X w1 B c n P) (hL : (lst P n).map nm = L) (hg : ErrT w) (o : OpV) (ho : OpIs w o) (hm : o.x.m ≤ 1000) (hn : n ≤ 1000) (hy : ∀ y ∈ L, y.m ≤ 1000) :
    Calls Tryd.prog 11 #[.pointer (some ⟨q, 0, none⟩), .slice B n c, .int .i64 s, o.val] w1 (Played OS w s q (opL L s o)) := by
  obtain ⟨ev, x, nd, dl⟩ := o
  unfold opL
  by_cases h0 : ev = 0
  · subst h0
    rw [if_pos rfl]
    by_cases hc : subC L s x = 0
    · exact play_sub C h hr hL hg nd dl x ho hm hn hc
    · exact play_subNo C h hr hL hg nd dl x ho hm hn hc
  · rw [if_neg h0]
    by_cases hc : appC L x.k ev = 0
    · exact play_app C h hr hL hg ev nd dl x ho hm hn hy h0 hc
    · exact play_appNo C h hr hL hg ev nd dl x ho hm hn hy h0 hc
end Go.Proofs.YtfidlljhmebpmaaDoor.T13
