/-
  The walk of NodeInverse. Condition: errors.errorType holds its own.
-/
import Derived.Test.YtokopegffeablaaDoorOC12
import Derived.Laws.AppendOwn
namespace Go.Proofs.YtokopegffeablaaDoor.T12
open Go.RowKit Go.Sort Go.Lib V12

/-- A vector that is held: where it lies, what it is. -/
structure HV where
  A : Option Addr
  n : Nat
  c : Nat
  Z : Nat → Int
def HV.val (x : HV) : Value := .slice x.A x.n x.c
structure HvOk (w : World) (x : HV) : Prop where
  rd : Rd w x.A x.n x.Z
  wr : ¬ 0 ≤ wrongOf x.n x.Z 2
def sumH (hs : List HV) (j : Nat) : Int := (hs.map fun x => x.Z j).sum
theorem HvOk.nn {w : World} {x : HV} (h : HvOk w x) {j : Nat} (hj : j < 2) : 0 ≤ x.Z j := by
  have := wrong_no (d := 2) (by exact_mod_cast h.wr)
  exact (this.2 j (by omega)).1
theorem sumH_nn {w : World} {j : Nat} (hj : j < 2) : ∀ {hs : List HV}, (∀ x ∈ hs, HvOk w x) → 0 ≤ sumH hs j
  | [], _ => by unfold sumH; simp
  | x :: hs, h => by
    have h1 := (h x (by simp)).nn hj
    have h2 := sumH_nn hj (hs := hs) fun y hy => h y (by simp [hy])
    unfold sumH at h2 ⊢
    rw [List.map_cons, List.sum_cons]
    omega
theorem sumH_add (hs : List HV) (x : HV) (j : Nat) : sumH (hs ++ [x]) j = sumH hs j + x.Z j := by
  unfold sumH
  simp
theorem sumH_drop (hs : List HV) {i : Nat} (hi : i < hs.length) (j : Nat) : sumH (hs.drop i) j = hs[i].Z j + sumH (hs.drop (i + 1)) j := by
  rw [List.drop_eq_getElem_cons hi]
  unfold sumH
  rw [List.map_cons, List.sum_cons]
theorem Tryd.infoS12 : (Tryd.prog.info? 23).map (fun i => (i.zero, i.size, i.bytes)) = some (some (.slice none 0 0), 1, 24) := by kernel_rfl
theorem atH (b off n cp j : Nat) (hj : j < n) (W : World) : (Instr.indexAt 22 (.slice (some ⟨b, off, none⟩) n cp) (.int .i64 j)).run Tryd.prog W = .ok (.pointer (some ⟨b, off + j, none⟩)) W := by
  go_simp
theorem atH0 (b n cp j : Nat) (hj : j < n) (W : World) : (Instr.indexAt 22 (.slice (some ⟨b, 0, none⟩) n cp) (.int .i64 j)).run Tryd.prog W = .ok (.pointer (some ⟨b, j, none⟩)) W := by
  go_simp
theorem typ_held {w : World} {base n : Nat} {v : Value} {xs : List Value} (h : w.ownsRow base 23 1 v n xs) : ∀ g, v.ownBlock = some g → Typ w g 23 := by
  intro g hg
  rcases h.2 with ⟨rfl, _⟩ | ⟨g1, c1, u1, rfl, _, k1, _⟩
  · simp [Value.ownBlock] at hg
  · simp [Value.ownBlock] at hg
    subst hg
    exact ⟨_, _, k1⟩
theorem own_held {w1 w2 : World} {base n : Nat} {v : Value} {xs : List Value} (h : w1.ownsRow base 23 1 v n xs) (f : ∀ i T, Typ w1 i T → T ≠ 56 → w2.heap[i]? = w1.heap[i]?) : w2.ownsRow base 23 1 v n xs :=
  own_blocks1 h fun g hg => f g 23 (typ_held h g hg) (by decide)
theorem oc_grow {w w1 w2 : World} {d : Nat} {s : Int} {q : Nat} {L : List NodeV} {X : Nat → Prop} {n : Nat} {v : Value} {xs : List Value} (o : OC w d s q L X w1) (hr : w1.ownsRow w.heap.size 23 1 v n xs) (hg : w1.grownBy w2 v.ownBlock) : OC w d s q L X w2 ∧ Keep w w2 := by
  have kw : Keep w w2 := keep_grown o.kp hg fun q hq => (hr.lt q hq).1
  cases hb : v.ownBlock with
  | none =>
    rw [hb] at hg
    exact ⟨o.keep (keep_grown (Keep.refl _) hg fun q hq => by cases hq), kw⟩
  | some g => exact ⟨o.typed (typ_held hr g hb) (by decide) kw hg.size fun k hk hn => hg.block k hk (by rw [hb]; intro e; exact hn (Option.some.inj e)), kw⟩
section
variable {ops : Array Oper} {rest : List Oper} {o : Oper} {a : Act} {w : World} {Q : Exit → Act → World → Prop}
theorem wpl_held (hgd : o.guard = none) (s x : Operand) (ho : o.op = .call { callee := .builtin .append, args := #[s, x], argTypes := #[22, 22] })
    (base : Nat) (v : Value) (n : Nat) (xs : List Value) (hs : a.eval s = v) (hown : w.ownsRow base 23 1 v n xs) (b : Nat) (u : Value) (hx : a.eval x = .slice (some ⟨b, 0, none⟩) 1 1) (hc : w.cell? ⟨b, 0, none⟩ = some u) (h1 : u.oneCell' = true)
    (hlim : n ≤ 1000) (hbase : base ≤ w.heap.size)
    (h : ∀ v' w', w'.ownsRow base 23 1 v' (n + 1) (xs ++ [u]) → w.grownBy w' v.ownBlock → wpList Tryd.prog ops Q rest (a.put o.dst v') w') : wpList Tryd.prog ops Q (o :: rest) a w := by
  obtain ⟨i0, hi0, hz0, hz1, hz2⟩ := info_parts Tryd.infoS12
  refine wpList_append_own (P := Tryd.prog) w hgd s x 22 ho base 23 i0 _ 1 24 Tryd.underlying22 hi0 hz0 hz1 hz2 rfl (by decide) v n xs hs hown ⟨b, 0, none⟩ 1 1 [u] hx rfl (fun j y hy => ?_) (fun y hy => ?_) (by unfold maxLen; omega) (by omega) hbase fun v' w' h2 h3 _ => h v' w' h2 h3
  · rcases j with _ | j
    · rw [WideShapes.add_plain]
      rw [← Option.some.inj hy]
      exact hc
    · cases hy
  · rw [List.mem_singleton.1 hy]; exact h1
end
theorem one_okm {w w1 : World} {s : Int} {q : Nat} {Y U : Nat → Int} {X : Nat → Prop} (o : OC w 2 s q (one Y U) X w1) : ∀ j, j < 2 → U j ≤ Y j := fun j hj => by
  obtain ⟨D, h, _, _⟩ := o.own
  exact (con12.ok h ⟨1, Y, U⟩ (by unfold one; simp)).hi j hj
set_option maxRecDepth 100000 in
set_option maxHeartbeats 16000000 in
theorem inverse_walk (C : Con SN) (cE : EqC) (A : Option Addr) (n c : Nat) (B : Nat → Option Addr) (L K : Nat → Nat) (Z : Nat → Nat → Int) (V : Option Addr) (m e : Nat) (Y : Nat → Int) (w : World) (hR : Rds w A n B L K Z) (hV : Rd w V m Y) (nilV : V = none → m = 0 ∧ e = 0) (hg : ErrT w) :
    Calls Tryd.prog 3 #[.slice A n c, .slice V m e] w fun e w' => e = .returned (.bool true) ∧ Keep w w' := by
  have hs := hR.small
  have aw : Hid (∀ W, Keep w W → Calls Tryd.prog 6 #[] W fun e w' => e = .returned (.bool true) ∧ Keep W w') := fun W k => awake_true C cE W (hg.keep k)
  have cN := Lib.hid (oc_new (w := w) 2 1 w (Keep.refl w) (by omega) (by omega) (by omega))
  replace hg := Lib.hid hg
  replace hR := Lib.hid hR
  replace hV := Lib.hid hV
  replace nilV := Lib.hid nilV
  go_enter Tryd.func3, Tryd.ntmps3
  go_wp2_with fail
  refine cN.out.mono ?_
  rintro e w1 ⟨q, rfl, o1⟩
  have K1 := Lib.hid o1.kp
  replace o1 := Lib.hid o1
  go_wp2_with fail
  refine (aw.out _ K1.out).mono ?_
  rintro e w2 ⟨rfl, k2⟩
  have o2 := Lib.hid (o1.out.keep k2)
  have K2 := Lib.hid o2.out.kp
  replace k2 := Lib.hid k2
  by_cases hn60 : 60 < n
  · go_wp2_with fail
    refine (aw.out _ K2.out).mono ?_
    rintro e w4 ⟨rfl, k4⟩
    have k4 := Lib.hid k4
    go_wp2
    go_ret
    exact ⟨rfl, K2.out.trans k4.out⟩
  · obtain ⟨cc, hcc⟩ : ∃ cc, cc = addC [] 2 1 1 m Y := ⟨_, rfl⟩
    obtain ⟨ci, hci⟩ : ∃ ci, ci = addI 2 m Y := ⟨_, rfl⟩
    obtain ⟨M, hM⟩ : ∃ M, M = addL [] 2 1 1 m Y := ⟨_, rfl⟩
    have cA := oc_add o2.out hg.out 1 V m e Y (hV.out.keep K2.out) nilV.out (by unfold I64; omega) hcc.symm hci.symm hM.symm
    unfold fltC at cA
    by_cases hw : 0 ≤ wrongOf m Y 2
    · rw [one_wrong hw] at hcc
      subst hcc
      rw [if_neg (by decide), flt_val] at cA
      replace cA := Lib.hid cA
      replace hci := Lib.hid hci
      replace hM := Lib.hid hM
      go_wp2_with fail
      refine cA.out.mono ?_
      rintro e w3 ⟨rfl, o3, _, _⟩
      have K3 := Lib.hid o3.kp
      replace o3 := Lib.hid o3
      go_wp2_with fail
      refine (aw.out _ K3.out).mono ?_
      rintro e w4 ⟨rfl, k4⟩
      have k4 := Lib.hid k4
      go_wp2
      go_ret
      exact ⟨rfl, K3.out.trans k4.out⟩
    · obtain ⟨h0, hL0⟩ := one_add (s := 1) (by decide) hw
      rw [h0] at hcc
      subst hcc
      rw [if_pos rfl, hM, hL0] at cA
      obtain ⟨hm2, _⟩ := wrong_no (d := 2) (n := m) (Z := Y) (by exact_mod_cast hw)
      subst hm2
      replace cA := Lib.hid cA
      replace hci := Lib.hid hci
      replace hM := Lib.hid hM
      replace hL0 := Lib.hid hL0
      replace h0 := Lib.hid h0
      replace hw := Lib.hid hw
      go_wp2_with fail
      refine cA.out.mono ?_
      rintro e w3 ⟨rfl, o3, _, _⟩
      replace o3 := Lib.hid o3
      clear o1 K1 o2 K2 k2 aw cN cA
      go_wp2
      go_loopg [6, 7] n (fun gx s6 s7 wr => ∃ (i k : Nat) (hs : List HV) (U : Nat → Int) (A6 : Option Addr) (c6 : Nat), i ≤ n ∧ gx = n - i ∧ s7 = .int .i64 i ∧ s6 = .slice A6 k c6 ∧ k ≤ i ∧ Hid (hs.length = k) ∧ Hid (wr.ownsRow w.heap.size 23 1 (.slice A6 k c6) k (hs.map HV.val)) ∧ Hid (OC w 2 1 q (one Y U) (fun _ => False) wr) ∧ Hid (∀ x ∈ hs, HvOk w x) ∧ Hid (∀ j, j < 2 → U j = sumH hs j))
      case atStart => exact ⟨0, 0, [], fun _ => 0, none, 0, Nat.zero_le _, rfl, rfl, rfl, Nat.le_refl _, rfl, World.ownsRow_nil _ _ _ _, o3.out, (fun x h => by cases h), fun j _ => rfl⟩
      case round =>
        clear o3
        obtain ⟨i, k, hs1, U, A6, c6, hi, rfl, rfl, rfl, hki, HL, RW, OR, HO, HU⟩ := hrel
        by_cases hlt : i < n
        · have KR := Lib.hid OR.out.kp
          have RP := hR.out.below KR.out
          obtain ⟨b, off, hA, ca⟩ := RP.adr (by omega)
          subst hA
          have q1 := atH b off n c i hlt
          have x0 := ca i hlt
          have rx := RP.row i hlt
          have rw0 := hR.out.row i hlt
          have x0' : Hid (∀ W, Keep wr W → W.cell? ⟨b, off + i, none⟩ = some (.slice (B i) (L i) (K i))) := fun W k => k.cell x0
          have HR2 : Hid (∀ W, Keep w W → W.cell? ⟨b, off + i, none⟩ = some (.slice (B i) (L i) (K i))) := fun W k => by
            obtain ⟨b', off', e', cb⟩ := (hR.out).adr (by omega)
            have e2 := Option.some.inj e'
            simp only [Addr.mk.injEq, and_true] at e2
            rw [e2.1, e2.2]
            exact k.cell (cb i hlt)
          clear ca RP x0'
          obtain ⟨x, hx⟩ : ∃ x : HV, x = ⟨B i, L i, K i, Z i⟩ := ⟨_, rfl⟩
          replace x0 : wr.cell? ⟨b, off + i, none⟩ = some (.slice x.A x.n x.c) := by rw [hx]; exact x0
          replace HR2 : Hid (∀ W, Keep w W → W.cell? ⟨b, off + i, none⟩ = some (.slice x.A x.n x.c)) := by rw [hx]; exact HR2
          replace rx : Rd wr x.A x.n x.Z := by rw [hx]; exact rx
          replace rw0 : Rd w x.A x.n x.Z := by rw [hx]; exact rw0
          have hxs := rx.small
          replace hx := Lib.hid hx
          obtain ⟨xA, hxA⟩ : ∃ xA, xA = x.A := ⟨_, rfl⟩
          obtain ⟨xn, hxn⟩ : ∃ xn, xn = x.n := ⟨_, rfl⟩
          obtain ⟨xc, hxc⟩ : ∃ xc, xc = x.c := ⟨_, rfl⟩
          rw [← hxn] at hxs
          by_cases h20 : xn ≤ 20
          · obtain ⟨cc, hcc⟩ : ∃ cc, cc = chC (one Y U) 2 1 x.n x.Z false := ⟨_, rfl⟩
            have cH := oc_hold OR.out 1 x.A x.n x.c x.Z rx hcc.symm rfl
            rw [← hxA, ← hxn, ← hxc] at cH x0 HR2
            unfold fltC at cH
            by_cases h0 : cc = 0
            · obtain ⟨e1, e2, e3⟩ := one_ch (hcc.symm.trans h0)
              rw [hxn, e1, if_pos h0] at cH
              rw [← hxn] at cH
              have ox : Hid (HvOk w x) := ⟨rw0, e2⟩
              have HU2 : Hid (∀ j, j < 2 → chU false U x.Z j = sumH (hs1 ++ [x]) j) := fun j hj => by
                rw [sumH_add, ← HU.out j hj]
                unfold chU
                simp
              have HO2 : Hid (∀ y ∈ hs1 ++ [x], HvOk w y) := fun y hy => by
                rcases List.mem_append.1 hy with hy | hy
                · exact HO.out y hy
                · rw [List.mem_singleton.1 hy]; exact ox.out
              have HL2 : Hid ((hs1 ++ [x]).length = k + 1) := by show _ = _; rw [List.length_append, HL.out]; rfl
              have HM2 : Hid ((hs1 ++ [x]).map HV.val = hs1.map HV.val ++ [.slice xA xn xc]) := by show _ = _; rw [List.map_append, hxA, hxn, hxc]; rfl
              have h1c : (Value.slice xA xn xc).oneCell' = true := rfl
              have hb1 : Hid (w.heap.size ≤ wr.heap.size) := KR.out.size
              replace cH := Lib.hid cH
              replace hcc := Lib.hid hcc
              replace h0 := Lib.hid h0
              replace e1 := Lib.hid e1
              replace e2 := Lib.hid e2
              replace e3 := Lib.hid e3
              replace hxA := Lib.hid hxA
              replace hxn := Lib.hid hxn
              replace hxc := Lib.hid hxc
              replace rx := Lib.hid rx
              replace rw0 := Lib.hid rw0
              go_wp2_with fail
              refine cH.out.mono ?_
              rintro e w4 ⟨rfl, o4, _, f4⟩
              have K4 := Lib.hid o4.kp
              have x4 := HR2.out w4 K4.out
              have R4 := Lib.hid (own_held RW.out f4)
              have x5 : Hid ((w4.alloc (.cells #[.slice xA xn xc] 23)).cell? ⟨w4.heap.size, 0, none⟩ = some (.slice xA xn xc)) := by
                show _ = _
                rw [World.cell?_alloc_new]
                rfl
              replace o4 := Lib.hid o4
              replace f4 := Lib.hid f4
              clear x0 cH
              go_wp2_with (at_builtin; refine wpl_held rfl _ _ rfl w.heap.size (.slice A6 k c6) k (hs1.map HV.val) (by simp [Act.eval]) (own_keep R4.out (Keep.one _ _)) w4.heap.size (.slice xA xn xc) (by simp [Act.eval]) x5.out h1c (by omega) (by rw [World.size_alloc]; have := K4.out.size; omega) ?_; intro v5 w5 hr5 hg5)
              have O5 := oc_grow (o4.out.keep (Keep.one _ _)) (own_keep R4.out (Keep.one _ _)) hg5
              obtain ⟨A7, c7, hv7, _⟩ := own_form hr5
              subst hv7
              rw [← HM2.out] at hr5
              replace hr5 := Lib.hid hr5
              replace hg5 := Lib.hid hg5
              replace O5 := Lib.hid O5
              clear x4 q1
              go_wp2
              go_roundg (n - (i + 1))
              case measure => omega
              case rel => exact ⟨i + 1, k + 1, hs1 ++ [x], _, A7, c7, hlt, rfl, by go_num, rfl, by omega, HL2, hr5, O5.out.1, HO2, HU2⟩
            · have e1 := one_not (fun h => h0 (hcc.trans h))
              rw [hxn, e1, if_neg h0, flt_val] at cH
              rw [← hxn] at cH
              replace cH := Lib.hid cH
              replace hcc := Lib.hid hcc
              replace h0 := Lib.hid h0
              replace e1 := Lib.hid e1
              replace hxA := Lib.hid hxA
              replace hxn := Lib.hid hxn
              replace hxc := Lib.hid hxc
              replace rx := Lib.hid rx
              replace rw0 := Lib.hid rw0
              go_wp2_with fail
              refine cH.out.mono ?_
              rintro e w4 ⟨rfl, o4, _, f4⟩
              have R4 := Lib.hid (own_held RW.out f4)
              replace o4 := Lib.hid o4
              replace f4 := Lib.hid f4
              clear x0 cH q1
              go_wp2
              go_roundg (n - (i + 1))
              case measure => omega
              case rel => exact ⟨i + 1, k, hs1, U, A6, c6, hlt, rfl, by go_num, rfl, by omega, HL, R4, o4, HO, HU⟩
          · rw [← hxA, ← hxn, ← hxc] at x0
            replace hxA := Lib.hid hxA
            replace hxn := Lib.hid hxn
            replace hxc := Lib.hid hxc
            replace rx := Lib.hid rx
            replace rw0 := Lib.hid rw0
            go_wp2
            go_roundg (n - (i + 1))
            case measure => omega
            case rel => exact ⟨i + 1, k, hs1, U, A6, c6, hlt, rfl, by go_num, rfl, by omega, HL, RW, OR, HO, HU⟩
        · obtain rfl : i = n := by omega
          go_wp2
          generalize hwo : wr = wo at *
          clear hwo
          go_loopg [8] k (fun gx s8 wr => ∃ (j : Nat) (U2 : Nat → Int), j ≤ k ∧ gx = k - j ∧ s8 = .int .i64 j ∧ Hid (wr.ownsRow w.heap.size 23 1 (.slice A6 k c6) k (hs1.map HV.val)) ∧ Hid (OC w 2 1 q (one Y U2) (fun _ => False) wr) ∧ Hid (∀ t, t < 2 → U2 t = sumH (hs1.drop j) t))
          case atStart => exact ⟨0, U, Nat.zero_le _, rfl, rfl, RW, OR, HU.out⟩
          case round =>
            clear RW OR
            obtain ⟨j, U2, hj, rfl, rfl, RW, OR, HU2⟩ := hrel
            by_cases hlj : j < k
            · have hjl : j < hs1.length := by rw [HL.out]; exact hlj
              obtain ⟨g, cap, eg, _, _⟩ := RW.out.form (by omega)
              have eg' := eg
              simp only [Value.slice.injEq] at eg'
              obtain ⟨rfl, _, rfl⟩ := eg'
              have q1 := atH0 g k c6 j hlj
              have x0 := RW.out.cellAt j (by omega)
              rw [List.getElem?_map, List.getElem?_eq_getElem hjl] at x0
              have ox := HO.out _ (List.getElem_mem hjl)
              have hsd := sumH_drop hs1 hjl
              obtain ⟨x, hx⟩ : ∃ x, x = hs1[j] := ⟨_, rfl⟩
              rw [← hx] at x0 ox
              have hsd2 : ∀ t, sumH (hs1.drop j) t = x.Z t + sumH (hs1.drop (j + 1)) t := fun t => by rw [hx]; exact hsd t
              have hok : chC (one Y U2) 2 1 x.n x.Z true = 0 := by
                refine one_ok ox.wr fun t ht => ?_
                have h1 := one_okm OR.out t ht
                have h2 := ox.nn ht
                have h3 := sumH_nn ht (hs := hs1.drop (j + 1)) (w := w) fun y hy => HO.out y (List.mem_of_mem_drop hy)
                have h4 := HU2.out t ht
                rw [hsd2 t] at h4
                unfold chU
                simp only [if_true]
                omega
              obtain ⟨e1, _, _⟩ := one_ch hok
              have HU3 : Hid (∀ t, t < 2 → chU true U2 x.Z t = sumH (hs1.drop (j + 1)) t) := fun t ht => by
                have h4 := HU2.out t ht
                rw [hsd2 t] at h4
                unfold chU
                simp only [if_true]
                omega
              have cL := oc_release OR.out 1 x.A x.n x.c x.Z (ox.rd.keep OR.out.kp) hok e1
              unfold fltC at cL
              rw [if_pos rfl] at cL
              replace x0 : wr.cell? ⟨g, j, none⟩ = some (.slice x.A x.n x.c) := x0
              obtain ⟨xA, hxA⟩ : ∃ xA, xA = x.A := ⟨_, rfl⟩
              obtain ⟨xn, hxn⟩ : ∃ xn, xn = x.n := ⟨_, rfl⟩
              obtain ⟨xc, hxc⟩ : ∃ xc, xc = x.c := ⟨_, rfl⟩
              rw [← hxA, ← hxn, ← hxc] at cL x0
              replace cL := Lib.hid cL
              replace hx := Lib.hid hx
              replace hxA := Lib.hid hxA
              replace hxn := Lib.hid hxn
              replace hxc := Lib.hid hxc
              replace hok := Lib.hid hok
              replace e1 := Lib.hid e1
              replace ox := Lib.hid ox
              replace eg := Lib.hid eg
              replace hsd := Lib.hid hsd
              replace hsd2 := Lib.hid hsd2
              go_wp2_with fail
              refine cL.out.mono ?_
              rintro e w4 ⟨rfl, o4, _, f4⟩
              have R4 := Lib.hid (own_held RW.out f4)
              replace o4 := Lib.hid o4
              replace f4 := Lib.hid f4
              clear x0 cL q1
              go_wp2
              go_roundg (k - (j + 1))
              case measure => omega
              case rel => exact ⟨j + 1, _, hlj, rfl, by go_num, R4, o4, HU3⟩
            · obtain rfl : j = k := by omega
              have hz : ∀ t, t < 2 → U2 t = 0 := fun t ht => by
                rw [HU2.out t ht, List.drop_eq_nil_of_le (by rw [HL.out]; exact Nat.le_refl _)]
                rfl
              have KR := Lib.hid OR.out.kp
              have cU := oc_used OR.out 1 (by rw [one_keys]; simp) (Y := two 0 0) fun t ht => by
                rw [one_get]
                show U2 t = _
                rw [hz t ht]
                unfold two
                split <;> rfl
              have cF : Hid (∀ W, Keep wr W → Calls Tryd.prog 12 #[.pointer (some ⟨q, 0, none⟩), .int .i64 1] W fun e w' => ∃ A c, e = .returned (.slice A 2 c) ∧ Rd w' A 2 Y ∧ New W w' A 2 ∧ Keep W w') := fun W k => oc_free (OR.out.keep k) 1 (by rw [one_keys]; simp) (Y := Y) fun t ht => by
                rw [one_get]
                show Y t - U2 t = _
                rw [hz t ht]
                omega
              have hVr : Hid (∀ W, Keep wr W → Rd W V 2 Y) := fun W k => hV.out.keep (KR.out.trans k)
              have cS0 : Hid (∀ W A1 c1 b1, Rd W A1 2 (two 0 0) → Rd W (some ⟨b1, 0, none⟩) 2 (two 0 0) → Calls Tryd.prog 10 #[.slice A1 2 c1, .slice (some ⟨b1, 0, none⟩) 2 2] W fun e w' => e = .returned (.bool true) ∧ Keep W w') := fun W A1 c1 b1 r1 r2 => (rsame_is A1 _ 2 2 c1 2 _ _ W r1 r2 true (same_yes rfl fun _ _ => rfl)).mono fun _ _ h => ⟨h.1, h.2.keep⟩
              have cS1 : Hid (∀ W A1 c1, Rd W A1 2 Y → Rd W V 2 Y → Calls Tryd.prog 10 #[.slice A1 2 c1, .slice V 2 e] W fun e w' => e = .returned (.bool true) ∧ Keep W w') := fun W A1 c1 r1 r2 => (rsame_is A1 V 2 2 c1 e _ _ W r1 r2 true (same_yes rfl fun _ _ => rfl)).mono fun _ _ h => ⟨h.1, h.2.keep⟩
              replace cU := Lib.hid cU
              replace hz := Lib.hid hz
              go_wp2_with fail
              refine cU.out.mono ?_
              rintro e w4 ⟨A1, c1, rfl, r1, _, k4⟩
              obtain ⟨W5, hW5⟩ : ∃ W5, W5 = w4.alloc (.cells #[.int .i64 0, .int .i64 0] 2) := ⟨_, rfl⟩
              have K5 : Hid (Keep wr W5) := by rw [hW5]; exact k4.trans (Keep.one _ _)
              have r2 : Rd W5 (some ⟨w4.heap.size, 0, none⟩) 2 (two 0 0) := rd_two (T := 2) (by rw [hW5]; exact heap_alloc_new _ _) (by unfold I64; omega) (by unfold I64; omega)
              have cS2 := Lib.hid (cS0.out W5 A1 c1 w4.heap.size (by rw [hW5]; exact r1.keep (Keep.one _ _)) r2)
              replace r1 := Lib.hid r1
              replace r2 := Lib.hid r2
              replace k4 := Lib.hid k4
              clear cU
              go_wp2_with fail
              rw [← hW5]
              replace hW5 := Lib.hid hW5
              refine cS2.out.mono ?_
              rintro e w6 ⟨rfl, k6⟩
              have K6 := Lib.hid (K5.out.trans k6)
              replace k6 := Lib.hid k6
              go_wp2_with fail
              refine (cF.out w6 K6.out).mono ?_
              rintro e w7 ⟨A7, c7, rfl, r7, _, k7⟩
              have K7 := Lib.hid (K6.out.trans k7)
              have cS3 := Lib.hid (cS1.out w7 A7 c7 r7 (hVr.out w7 K7.out))
              replace r7 := Lib.hid r7
              replace k7 := Lib.hid k7
              go_wp2_with fail
              refine cS3.out.mono ?_
              rintro e w8 ⟨rfl, k8⟩
              have K8 := Lib.hid (K7.out.trans k8)
              replace k8 := Lib.hid k8
              go_wp2
              go_ret
              exact ⟨rfl, KR.out.trans K8.out⟩
end Go.Proofs.YtokopegffeablaaDoor.T12
