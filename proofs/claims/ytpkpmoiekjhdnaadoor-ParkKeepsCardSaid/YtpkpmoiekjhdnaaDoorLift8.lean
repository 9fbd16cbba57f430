/-
  From a walk ('it returns true, and what was there is as it was') to a law's row; how pods, slices of pods, ints and operations open; what the laid variable gives. No condition.
-/
import Derived.Test.YtpkpmoiekjhdnaaDoorFew8
import Derived.Test.YtpkpmoiekjhdnaaDoorName8
import Derived.Test.YtpkpmoiekjhdnaaDoorRows
import Derived.ProofKit
import Derived.OpenShut
import Derived.SizedLaws
import Derived.Deep.Modes
import Derived.Deep.Frames
import Derived.Deep.Matrix
import Derived.LaidMore
import Derived.LaidHandle
import Derived.LaidLaws
import Derived.ChangeSame
import Derived.ChangeVars
import Derived.JoinedOf
import Derived.Stop.Joined
namespace Go.Proofs.YtpkpmoiekjhdnaaDoor
open Go.ChangeShapes Go.WideShapes Go.ChangeAt Go.WideMaps Go.WideElems Go.RowKit

section
variable {H : Type} {enc : TypeId × Value → H} {P : Program}

theorem trodAll_stays (hl : laidOutB P = true) {W W' : World} {sp' : Nat → Bool} : ∀ {ts : List TypeId} {vs : List Value} {ds : List (DataW H)} {ps : List MemPlace}, (∀ t ∈ ts, P.readableRec t = true ∧ t < P.types.size) →
    DataW.TrodAll enc P W 0 (fun _ => true) true ts vs ds ps → (∀ p ∈ ps, W.sameAt W' p) → (∀ p ∈ ps, sp' p.block = true) → DataW.TrodAll enc P W' 0 sp' true ts vs ds ps
  | [], vs, ds, ps, _, h, _, _ => by
    obtain ⟨rfl, rfl, rfl⟩ := trodAll_nil h
    exact trodAll_mk0
  | t :: ts, vs, ds, ps, hr, h, hs, hb => by
    obtain ⟨v, vs1, d, ds1, a, b, rfl, rfl, rfl, h1, h2⟩ := trodAll_cons h
    refine trodAll_cons_mk ?_ ?_
    · exact WideElems.Trod_stays hl (hr t (by simp)).1 (hr t (by simp)).2 h1 (fun p hp => hs p (by simp [hp])) (fun p hp => hb p (by simp [hp]))
    · exact trodAll_stays hl (fun t' ht => hr t' (by simp [ht])) h2 (fun p hp => hs p (by simp [hp])) (fun p hp => hb p (by simp [hp]))

/-- A LAW's POST: the call answered true, nothing that was there has turned: the arguments read as they did. -/
theorem law_post (hl : laidOutB P = true) {f : Func} {s : ChangeSpec} {tb : TypeId} {W W' : World} {args : Array Value} {ds gs : List (DataW H)} {before : List MemPlace}
    (hvars : s.vars = []) (hr : ∀ t ∈ f.params.toList, P.readableRec t = true ∧ t < P.types.size) (ht : f.resultTypes = #[tb]) (hb : P.underlying tb = some .bool)
    (hW : DataW.Whole enc P f.params.toList s.vars false W args.toList ds gs before)
    (hfn : s.fn H (ds ++ gs) = { results := [.lit (.bool true)], args := ds }) (hk : Below W.heap.size W W') :
    s.post enc P f false true false false W args (.bool true) W' := by
  have hlt : ∀ x ∈ before, x.block < W.heap.size := fun x hx => hW.lt x hx
  have hW0 := hW
  obtain ⟨p, q, hA, hV, rfl, _, _⟩ := hW
  rw [hvars] at hV
  obtain ⟨rfl, rfl⟩ := trodVars_none hV
  simp only [List.append_nil] at hlt
  refine ⟨ds, [], p ++ [], [], p, [], hW0, ?_, ?_, ?_, hk.frame _, fun h => by cases h⟩
  · rw [hfn, ht]
    exact trodAll_cons_mk (shut_bool hb _) trodAll_mk0
  · rw [hfn]
    exact trodAll_stays hl hr hA (fun x hx => hk.same (hlt x hx)) (fun x hx => by simpa using hlt x hx)
  · rw [hfn, hvars]
    rfl

/-- A slice of int64 that came in. -/
theorem rd_trod64 {W : World} {t e : TypeId} {v : Value} {fuel : Nat} {x : DataW H × List MemPlace} (ht : P.underlying t = some (.slice e)) (he : P.underlying e = some (.int .i64)) (hc : P.cellsOf e = 1)
    (hf : DataW.trod enc P W 0 (fun _ => true) true fuel t [v] = some x) : ∃ A n c Z, v = .slice A n c ∧ Rd W A n Z ∧ (A = none → n = 0 ∧ c = 0) := by
  rcases open_ints ht he hc hf with ⟨hcs, _⟩ | ⟨x, l, c, zs, hcs, _, hl, hm, hz, _, hcell, hwz⟩
  · simp at hcs
    exact ⟨none, 0, 0, fun _ => 0, hcs, Rd.nil _ _ _, fun _ => ⟨rfl, rfl⟩⟩
  · simp at hcs
    simp only [if_true] at hz
    unfold maxLen at hm
    refine ⟨_, _, _, fun k => zs.getD k 0, hcs, ⟨by omega, fun k hk => ?_, fun hn => ?_⟩, fun h => by cases h⟩
    · have hk' : k < zs.length := by omega
      have hw := hwz (zs.getD k 0) (by rw [show zs.getD k 0 = zs[k] from by simp [List.getD, hk']]; exact List.getElem_mem hk')
      simp [Lit.wf, IntKind.min, IntKind.max, IntKind.signed, IntKind.bits] at hw
      simpa using hw
    · obtain ⟨b, off, spot⟩ := x
      have hspot : spot = none := by simpa [Addr.add] using World.cell?_spot (hcell 0 (by omega))
      subst hspot
      exact ⟨b, off, rfl, fun j hj => by have := hcell j (by omega); rwa [add_plain] at this⟩
theorem rd_open0 {W : World} {base : Nat} {t e : TypeId} {v : Value} {d : DataW H} {p : List MemPlace} (ht : P.underlying t = some (.slice e)) (he : P.underlying e = some (.int .i64)) (hc : P.cellsOf e = 1)
    (hv : Value.okWide P W .any base t v) (h : DataW.Trod enc P W 0 (fun _ => true) true t v d p) : ∃ A n c Z, v = .slice A n c ∧ Rd W A n Z ∧ (A = none → n = 0 ∧ c = 0) := by
  obtain ⟨a0, len, cap, rfl⟩ := okWide_slice ht hv
  obtain ⟨fuel, hf⟩ := h
  have hcs : (Value.slice a0 len cap).cells.toList = [.slice a0 len cap] := by simp [Value.cells]
  rw [hcs] at hf
  exact rd_trod64 ht he hc hf
end

theorem Tryd.own : ownKnob Tryd.prog.godebug = none := by kernel_rfl
theorem Tryd.laidOut : laidOutB Tryd.prog = true := by kernel_rfl
theorem Tryd.cellsInt : Tryd.prog.cellsOf 3 = 1 := by kernel_rfl
theorem Tryd.cellsBool : Tryd.prog.cellsOf 4 = 1 := by kernel_rfl
theorem Tryd.cellsI64 : Tryd.prog.cellsOf 2 = 1 := by kernel_rfl
theorem Tryd.cellsI64s : Tryd.prog.cellsOf 33 = 1 := by kernel_rfl
theorem Tryd.cellsPod : Tryd.prog.cellsOf 35 = 9 := by kernel_rfl
theorem Tryd.fieldsPod : ∃ f0 f1 f2 f3 f4 f5 f6 f7 f8 : Field, Tryd.prog.underlying 35 = some (.struct #[f0, f1, f2, f3, f4, f5, f6, f7, f8]) ∧ (f0.type = 3 ∧ f1.type = 3 ∧ f2.type = 4 ∧ f3.type = 3 ∧ f4.type = 33 ∧ f5.type = 3 ∧ f6.type = 3 ∧ f7.type = 3 ∧ f8.type = 3) ∧ f0.offset = 0 ∧ f1.offset = 1 ∧ f2.offset = 2 ∧ f3.offset = 3 ∧ f4.offset = 4 ∧ f5.offset = 5 ∧ f6.offset = 6 ∧ f7.offset = 7 ∧ f8.offset = 8 :=
  ⟨_, _, _, _, _, _, _, _, _, Tryd.underlying35, ⟨rfl, rfl, rfl, rfl, rfl, rfl, rfl, rfl, rfl⟩, rfl, rfl, rfl, rfl, rfl, rfl, rfl, rfl, rfl⟩
theorem cells1 {t : TypeId} (h : Tryd.prog.cellsOf t = 1) (cs : List Value) (j : Nat) (v : Value) (hv : cs[j]? = some v) : (cs.drop j).take (Tryd.prog.cellsOf t) = [v] := by
  rw [h]
  cases hd : cs.drop j with
  | nil =>
    rw [List.drop_eq_nil_iff] at hd
    rw [List.getElem?_eq_none hd] at hv
    cases hv
  | cons a r =>
    have : (cs.drop j).head? = some a := by rw [hd]; rfl
    rw [List.head?_drop, hv] at this
    simp at this
    simp [this]
theorem i64_wf {x : Int} (h : (Lit.int .i64 x).wf = true) : I64 x := by
  unfold I64
  simp [Lit.wf, IntKind.min, IntKind.max, IntKind.signed, IntKind.bits] at h
  simpa using h
set_option maxRecDepth 100000 in
theorem pod_trod {H : Type} {enc : TypeId × Value → H} {W : World} {fuel : Nat} {l : List Value} {x : DataW H × List MemPlace} (hl : l.length = 9) (hf : DataW.trod enc Tryd.prog W 0 (fun _ => true) true fuel 35 l = some x) :
    ∃ p : PodV, l = p.cells ∧ PodIs W p := by
  obtain ⟨f0, f1, f2, f3, f4, f5, f6, f7, f8, hs, ⟨t0, t1, t2, t3, t4, t5, t6, t7, t8⟩, o0, o1, o2, o3, o4, o5, o6, o7, o8⟩ := Tryd.fieldsPod
  obtain ⟨xs, n', _, _, _, hlen, hg⟩ := DataW.trod_struct hs hf
  match l, hl, xs, hlen with
  | [v0, v1, v2, v3, v4, v5, v6, v7, v8], _, [y0, y1, y2, y3, y4, y5, y6, y7, y8], _ =>
    have g0 := hg 0 f0 rfl
    have g1 := hg 1 f1 rfl
    have g2 := hg 2 f2 rfl
    have g3 := hg 3 f3 rfl
    have g4 := hg 4 f4 rfl
    have g5 := hg 5 f5 rfl
    have g6 := hg 6 f6 rfl
    have g7 := hg 7 f7 rfl
    have g8 := hg 8 f8 rfl
    rw [o0, t0, cells1 Tryd.cellsInt _ 0 v0 rfl] at g0
    rw [o1, t1, cells1 Tryd.cellsInt _ 1 v1 rfl] at g1
    rw [o2, t2, cells1 Tryd.cellsBool _ 2 v2 rfl] at g2
    rw [o3, t3, cells1 Tryd.cellsInt _ 3 v3 rfl] at g3
    rw [o4, t4, cells1 Tryd.cellsI64s _ 4 v4 rfl] at g4
    rw [o5, t5, cells1 Tryd.cellsInt _ 5 v5 rfl] at g5
    rw [o6, t6, cells1 Tryd.cellsInt _ 6 v6 rfl] at g6
    rw [o7, t7, cells1 Tryd.cellsInt _ 7 v7 rfl] at g7
    rw [o8, t8, cells1 Tryd.cellsInt _ 8 v8 rfl] at g8
    obtain ⟨x0, e0, _, r0⟩ := DataW.trod_int Tryd.underlying3 (g0.trans (b := some y0) rfl)
    obtain ⟨x1, e1, _, r1⟩ := DataW.trod_int Tryd.underlying3 (g1.trans (b := some y1) rfl)
    obtain ⟨x2, e2, _⟩ := DataW.trod_bool Tryd.underlying4 (g2.trans (b := some y2) rfl)
    obtain ⟨x3, e3, _, r3⟩ := DataW.trod_int Tryd.underlying3 (g3.trans (b := some y3) rfl)
    obtain ⟨A, m, cp, Z, e4, hR, h0⟩ := rd_trod64 Tryd.underlying33 Tryd.underlying2 Tryd.cellsI64 (g4.trans (b := some y4) rfl)
    obtain ⟨x5, e5, _, r5⟩ := DataW.trod_int Tryd.underlying3 (g5.trans (b := some y5) rfl)
    obtain ⟨x6, e6, _, r6⟩ := DataW.trod_int Tryd.underlying3 (g6.trans (b := some y6) rfl)
    obtain ⟨x7, e7, _, r7⟩ := DataW.trod_int Tryd.underlying3 (g7.trans (b := some y7) rfl)
    obtain ⟨x8, e8, _, r8⟩ := DataW.trod_int Tryd.underlying3 (g8.trans (b := some y8) rfl)
    simp at e0 e1 e2 e3 e5 e6 e7 e8
    subst e0 e1 e2 e3 e4 e5 e6 e7 e8
    exact ⟨⟨x0, x1, x2, x3, A, m, cp, Z, x5, x6, x7, x8⟩, rfl, ⟨hR, h0, i64_wf r0, i64_wf r1, i64_wf r3, i64_wf r5, i64_wf r6, i64_wf r7, i64_wf r8⟩⟩
theorem pod_open {H : Type} {enc : TypeId × Value → H} {W : World} {base : Nat} {v : Value} {d : DataW H} {p : List MemPlace} (hv : Value.okWide Tryd.prog W .any base 35 v) (h : DataW.Trod enc Tryd.prog W 0 (fun _ => true) true 35 v d p) :
    ∃ x : PodV, v = x.val ∧ PodIs W x := by
  obtain ⟨f0, f1, f2, f3, f4, f5, f6, f7, f8, hs, _⟩ := Tryd.fieldsPod
  obtain ⟨cs, rfl, hsz⟩ := okWide_struct hs hv
  rw [Tryd.cellsPod] at hsz
  obtain ⟨l⟩ := cs
  obtain ⟨fuel, hf⟩ := h
  have hcl : (Value.agg ⟨l⟩).cells.toList = l := by simp [Value.cells]
  rw [hcl] at hf
  obtain ⟨x, rfl, hx⟩ := pod_trod (by simpa using hsz) hf
  exact ⟨x, rfl, hx⟩
set_option maxRecDepth 100000 in
theorem pods_open {H : Type} {enc : TypeId × Value → H} {W : World} {base : Nat} {v : Value} {d : DataW H} {p : List MemPlace} (hv : Value.okWide Tryd.prog W .any base 27 v) (h : DataW.Trod enc Tryd.prog W 0 (fun _ => true) true 27 v d p) :
    ∃ A n cp P, v = .slice A n cp ∧ RdPods W A n P ∧ (A = none → n = 0 ∧ cp = 0) := by
  obtain ⟨a0, len, cap, rfl⟩ := okWide_slice Tryd.underlying27 hv
  obtain ⟨fuel, hf⟩ := h
  have hcs : (Value.slice a0 len cap).cells.toList = [.slice a0 len cap] := by simp [Value.cells]
  rw [hcs] at hf
  rcases DataW.trod_slice Tryd.underlying27 hf with ⟨e, _⟩ | ⟨a, len', cap', elems, rest, n, _, e, _, hb, hl, hm, hlen, hel, _, _⟩
  · simp at e
    obtain ⟨rfl, rfl, rfl⟩ := e
    exact ⟨none, 0, 0, fun _ => ⟨0, 0, false, 0, none, 0, 0, fun _ => 0, 0, 0, 0, 0⟩, rfl, RdPods.nil _ _ _, fun _ => ⟨rfl, rfl⟩⟩
  · simp at e
    obtain ⟨rfl, rfl, rfl⟩ := e
    have each : ∀ j, j < len → ∃ q : PodV, PodIs W q ∧ ∀ i u, q.cells[i]? = some u → W.cell? ((a.add (j * 9)).add i) = some u := by
      intro j hj
      have h1 := hel j hj
      rw [Tryd.cellsPod, List.getElem?_eq_getElem (by omega)] at h1
      rw [Option.bind_eq_some_iff] at h1
      obtain ⟨cs, hc1, hc2⟩ := h1
      obtain ⟨_, hcl, hce⟩ := World.cells?_some hc1
      obtain ⟨q, rfl, hq⟩ := pod_trod hcl hc2
      refine ⟨q, hq, fun i u hu => ?_⟩
      have hi : i < 9 := by have := (List.getElem?_eq_some_iff.1 hu).1; exact this
      rw [hce i hi]
      exact hu
    have pick : ∃ P : Nat → PodV, ∀ j, j < len → PodIs W (P j) ∧ ∀ i u, (P j).cells[i]? = some u → W.cell? ((a.add (j * 9)).add i) = some u :=
      ⟨fun j => if hj : j < len then (each j hj).choose else ⟨0, 0, false, 0, none, 0, 0, fun _ => 0, 0, 0, 0, 0⟩, fun j hj => by simp only [dif_pos hj]; exact (each j hj).choose_spec⟩
    obtain ⟨P, hP⟩ := pick
    refine ⟨some a, len, cap, P, rfl, ⟨by unfold maxLen at hm; omega, fun hn => ?_, fun j hj => (hP j hj).1⟩, fun h => by cases h⟩
    obtain ⟨b, o, ea⟩ : ∃ b o, a = ⟨b, o, none⟩ := by
      have h0 := (hP 0 hn).2 0 _ rfl
      obtain ⟨b, o, s⟩ := a
      have hs : s = none := by simpa [Addr.add] using World.cell?_spot h0
      subst hs
      exact ⟨b, o, rfl⟩
    subst ea
    refine ⟨b, o, rfl, fun j hj => cel_of fun i u hu => ?_⟩
    have h0 := (hP j hj).2 i u hu
    rw [add_plain, add_plain] at h0
    exact h0

section
variable {P : Program}
/-- A laid array of strings: its cells. -/
theorem strings_laid {W : World} {t e : TypeId} {n fuel : Nat} {cs : Array Value} {bs : List (List UInt8)} {p : List MemPlace} (ht : P.underlying t = some (.array n e)) (he : P.underlying e = some .string) (hc : P.cellsOf e = 1)
    (h : DataW.trod (fun _ => ()) P W 0 (fun _ => true) false fuel t cs.toList = some (.agg (bs.map fun b => .lit (.string b)), p)) :
    ∀ i, i < n → cs[i]? = some (.string ⟨(bs.getD i []).toArray⟩) := by
  obtain ⟨xs, m, rfl, hx, _, hn, hel⟩ := DataW.trod_array ht h
  intro i hi
  have h0 := hel i hi
  rw [hc, Nat.mul_one] at h0
  have hxi : xs[i]? = some xs[i] := List.getElem?_eq_getElem (by omega)
  rw [hxi] at h0
  obtain ⟨s, e1, e2, _⟩ := DataW.trod_string he h0
  have hcs : cs[i]? = some (.string s) := by
    have : (cs.toList.drop i).head? = some (.string s) := by
      cases hd : cs.toList.drop i with
      | nil => rw [hd] at e1; cases e1
      | cons c r => rw [hd] at e1; simp at e1; rw [e1]; rfl
    rw [List.head?_drop] at this
    simpa using this
  rw [hcs]
  simp only [Prod.mk.injEq, DataW.agg.injEq] at hx
  have hb : bs[i]? = some s.data.toList := by
    have h1 : (bs.map fun b => (DataW.lit (.string b) : DataW Unit))[i]? = (xs.map (·.1))[i]? := by rw [hx.1]
    rw [List.getElem?_map, List.getElem?_map, hxi, e2] at h1
    cases hbi : bs[i]? with
    | none => rw [hbi] at h1; cases h1
    | some b => rw [hbi] at h1; simp at h1; rw [h1]
  rw [List.getD_eq_getElem?_getD, hb]
  simp
end
theorem Tryd.cellsStr : Tryd.prog.cellsOf 9 = 1 := by kernel_rfl
def seatLaid : List (String × DataW Unit) := [("hammock/park.names", Rows.laid_hammock_park_names)]
theorem door_met (os : Os) (args : Array Value) : laidMetH Tryd.prog seatLaid ((World.doorLaid Tryd.prog 400 os).forCall (fun _ _ => 0) ⟨#[], args, []⟩).memory :=
  laidMetH_of_parts3 (fuel := 8) (laidMet_of_run' 8 (by kernel_rfl) (by kernel_rfl)) (by kernel_rfl) (by kernel_rfl)
theorem Tryd.gK : Tryd.prog.globalNamed "hammock/park.names" = some 0 := by kernel_rfl
theorem Tryd.gtK : (Tryd.prog.globals[0]?).map (·.type) = some 66 := by kernel_rfl
theorem vars_of_laid {W : World} (h : laidMetH Tryd.prog seatLaid W) : V8 W := by
  have h' : laidMet Tryd.prog [("hammock/park.names", Rows.laid_hammock_park_names)] W := h
  obtain ⟨ps, ⟨g1, t1, cs1, f1, p1, q1, hg1, ht1, hv1, hd1, _, _⟩, _, _⟩ := h'
  obtain rfl := Option.some.inj (Tryd.gK.symm.trans hg1)
  obtain rfl := Option.some.inj (Tryd.gtK.symm.trans ht1)
  intro i hi
  rw [World.var?_cell Tryd.gK hv1 i, strings_laid Tryd.underlying66 Tryd.underlying9 Tryd.cellsStr (bs := rnTbl.map fun s => s.data.toList) hd1 i hi]
  have : ∀ i, i < 5 → (⟨((rnTbl.map fun s => s.data.toList).getD i []).toArray⟩ : ByteArray) = rnTbl.getD i ⟨#[]⟩ := by decide
  rw [this i hi]

theorem Tryd.cellsOp : Tryd.prog.cellsOf 37 = 11 := by kernel_rfl
theorem Tryd.fieldsOp : ∃ f0 f1 f2 : Field, Tryd.prog.underlying 37 = some (.struct #[f0, f1, f2]) ∧ (f0.type = 3 ∧ f1.type = 35 ∧ f2.type = 3) ∧ f0.offset = 0 ∧ f1.offset = 1 ∧ f2.offset = 10 :=
  ⟨_, _, _, Tryd.underlying37, ⟨rfl, rfl, rfl⟩, rfl, rfl, rfl⟩
theorem op_trod {H : Type} {enc : TypeId × Value → H} {W : World} {fuel : Nat} {l : List Value} {x : DataW H × List MemPlace} (hl : l.length = 11) (hf : DataW.trod enc Tryd.prog W 0 (fun _ => true) true fuel 37 l = some x) :
    ∃ (k : Int) (p : PodV) (r : Int), l = .int .i64 k :: (p.cells ++ [.int .i64 r]) ∧ I64 k ∧ PodIs W p := by
  obtain ⟨f0, f1, f2, hs, ⟨t0, t1, t2⟩, o0, o1, o2⟩ := Tryd.fieldsOp
  obtain ⟨xs, n', _, _, _, hlen, hg⟩ := DataW.trod_struct hs hf
  match l, hl, xs, hlen with
  | [v0, v1, v2, v3, v4, v5, v6, v7, v8, v9, v10], _, [y0, y1, y2], _ =>
    have g0 := hg 0 f0 rfl
    have g1 := hg 1 f1 rfl
    have g2 := hg 2 f2 rfl
    have e1 : (List.drop 1 [v0, v1, v2, v3, v4, v5, v6, v7, v8, v9, v10]).take 9 = [v1, v2, v3, v4, v5, v6, v7, v8, v9] := rfl
    rw [o0, t0, cells1 Tryd.cellsInt _ 0 v0 rfl] at g0
    rw [o1, t1, Tryd.cellsPod, e1] at g1
    rw [o2, t2, cells1 Tryd.cellsInt _ 10 v10 rfl] at g2
    obtain ⟨x0, e0, _, r0⟩ := DataW.trod_int Tryd.underlying3 (g0.trans (b := some y0) rfl)
    obtain ⟨p, ep, hp⟩ := pod_trod (by rfl) (g1.trans (b := some y1) rfl)
    obtain ⟨x2, e2, _, r2⟩ := DataW.trod_int Tryd.underlying3 (g2.trans (b := some y2) rfl)
    simp at e0 e2
    subst e0 e2
    refine ⟨x0, p, x2, ?_, i64_wf r0, hp⟩
    rw [← ep]
    rfl
set_option maxRecDepth 100000 in
theorem ops_open {H : Type} {enc : TypeId × Value → H} {W : World} {base : Nat} {v : Value} {d : DataW H} {p : List MemPlace} (hv : Value.okWide Tryd.prog W .any base 22 v) (h : DataW.Trod enc Tryd.prog W 0 (fun _ => true) true 22 v d p) :
    ∃ A n cp K P R, v = .slice A n cp ∧ RdOps W A n K P R ∧ (A = none → n = 0 ∧ cp = 0) := by
  obtain ⟨a0, len, cap, rfl⟩ := okWide_slice Tryd.underlying22 hv
  obtain ⟨fuel, hf⟩ := h
  have hcs : (Value.slice a0 len cap).cells.toList = [.slice a0 len cap] := by simp [Value.cells]
  rw [hcs] at hf
  rcases DataW.trod_slice Tryd.underlying22 hf with ⟨e, _⟩ | ⟨a, len', cap', elems, rest, n, _, e, _, hb, hl, hm, hlen, hel, _, _⟩
  · simp at e
    obtain ⟨rfl, rfl, rfl⟩ := e
    exact ⟨none, 0, 0, fun _ => 0, fun _ => zpod, fun _ => 0, rfl, ⟨by omega, fun _ h => absurd h (Nat.not_lt_zero _), fun h => absurd h (Nat.lt_irrefl _), fun _ h => absurd h (Nat.not_lt_zero _)⟩, fun _ => ⟨rfl, rfl⟩⟩
  · simp at e
    obtain ⟨rfl, rfl, rfl⟩ := e
    have each : ∀ j, j < len → ∃ (k : Int) (q : PodV) (r : Int), I64 k ∧ PodIs W q ∧ ∀ i u, (Value.int .i64 k :: (q.cells ++ [.int .i64 r]))[i]? = some u → W.cell? ((a.add (j * 11)).add i) = some u := by
      intro j hj
      have h1 := hel j hj
      rw [Tryd.cellsOp, List.getElem?_eq_getElem (by omega)] at h1
      rw [Option.bind_eq_some_iff] at h1
      obtain ⟨cs, hc1, hc2⟩ := h1
      obtain ⟨_, hcl, hce⟩ := World.cells?_some hc1
      obtain ⟨k, q, r, rfl, hk, hq⟩ := op_trod hcl hc2
      refine ⟨k, q, r, hk, hq, fun i u hu => ?_⟩
      have hi : i < 11 := by have := (List.getElem?_eq_some_iff.1 hu).1; rw [List.length_cons, List.length_append, cells9] at this; exact this
      rw [hce i hi]
      exact hu
    have pick : ∃ (K : Nat → Int) (P : Nat → PodV) (R : Nat → Int), ∀ j, j < len → I64 (K j) ∧ PodIs W (P j) ∧ ∀ i u, (Value.int .i64 (K j) :: ((P j).cells ++ [.int .i64 (R j)]))[i]? = some u → W.cell? ((a.add (j * 11)).add i) = some u :=
      ⟨fun j => if hj : j < len then (each j hj).choose else 0, fun j => if hj : j < len then (each j hj).choose_spec.choose else zpod, fun j => if hj : j < len then (each j hj).choose_spec.choose_spec.choose else 0, fun j hj => by simp only [dif_pos hj]; exact (each j hj).choose_spec.choose_spec.choose_spec⟩
    obtain ⟨K, P, R, hP⟩ := pick
    refine ⟨some a, len, cap, K, P, R, rfl, ⟨by unfold maxLen at hm; omega, fun j hj => (hP j hj).1, fun hn => ?_, fun j hj => (hP j hj).2.1⟩, fun h => by cases h⟩
    obtain ⟨b, o, ea⟩ : ∃ b o, a = ⟨b, o, none⟩ := by
      have h0 := (hP 0 hn).2.2 0 _ rfl
      obtain ⟨b, o, s⟩ := a
      have hs : s = none := by simpa [Addr.add] using World.cell?_spot h0
      subst hs
      exact ⟨b, o, rfl⟩
    subst ea
    refine ⟨b, o, rfl, fun j hj => ⟨?_, cel_of fun i u hu => ?_, ?_⟩⟩
    · have h0 := (hP j hj).2.2 0 _ rfl
      rw [add_plain, add_plain, Nat.add_zero] at h0
      exact h0
    · have hi : i < (P j).cells.length := (List.getElem?_eq_some_iff.1 hu).1
      have h0 := (hP j hj).2.2 (i + 1) u (by rw [List.getElem?_cons_succ, List.getElem?_append_left hi]; exact hu)
      rw [add_plain, add_plain] at h0
      rw [show o + j * 11 + 1 + i = o + j * 11 + (i + 1) by omega]
      exact h0
    · have h0 := (hP j hj).2.2 10 (.int .i64 (R j)) rfl
      rw [add_plain, add_plain] at h0
      exact h0
end Go.Proofs.YtpkpmoiekjhdnaaDoor
