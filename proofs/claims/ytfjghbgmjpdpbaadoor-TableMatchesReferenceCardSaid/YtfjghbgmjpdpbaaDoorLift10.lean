/-
  From a walk ('it returns true, and what was there is as it was') to a law's row; how ints, strings, slices of them and of operations open; what the laid variable gives. No condition.
-/
import Derived.Test.YtfjghbgmjpdpbaaDoorStringsLaw10
import Derived.Test.YtfjghbgmjpdpbaaDoorRows
import Derived.ProofKit
import Derived.OpenShut
import Derived.SizedLaws
import Derived.Deep.Modes
import Derived.Deep.Frames
import Derived.Deep.Matrix
import Derived.LaidMore
import Derived.LaidHandle
import Derived.LaidLaws
import Derived.ChangeSame
import Derived.ChangeVars
import Derived.JoinedOf
import Derived.Stop.Joined
namespace Go.Proofs.YtfjghbgmjpdpbaaDoor.T10
open Go.ChangeShapes Go.WideShapes Go.ChangeAt Go.WideMaps Go.WideElems Go.RowKit

section
variable {H : Type} {enc : TypeId × Value → H} {P : Program}

theorem trodAll_stays (hl : laidOutB P = true) {W W' : World} {sp' : Nat → Bool} : ∀ {ts : List TypeId} {vs : List Value} {ds : List (DataW H)} {ps : List MemPlace}, (∀ t ∈ ts, P.readableRec t = true ∧ t < P.types.size) →
    DataW.TrodAll enc P W 0 (fun _ => true) true ts vs ds ps → (∀ p ∈ ps, W.sameAt W' p) → (∀ p ∈ ps, sp' p.block = true) → DataW.TrodAll enc P W' 0 sp' true ts vs ds ps
  | [], vs, ds, ps, _, h, _, _ => by
    obtain ⟨rfl, rfl, rfl⟩ := trodAll_nil h
    exact trodAll_mk0
  | t :: ts, vs, ds, ps, hr, h, hs, hb => by
    obtain ⟨v, vs1, d, ds1, a, b, rfl, rfl, rfl, h1, h2⟩ := trodAll_cons h
    refine trodAll_cons_mk ?_ ?_
    · exact WideElems.Trod_stays hl (hr t (by simp)).1 (hr t (by simp)).2 h1 (fun p hp => hs p (by simp [hp])) (fun p hp => hb p (by simp [hp]))
    · exact trodAll_stays hl (fun t' ht => hr t' (by simp [ht])) h2 (fun p hp => hs p (by simp [hp])) (fun p hp => hb p (by simp [hp]))

/-- A LAW's POST: the call answered true, nothing that was there has turned: the arguments read as they did. -/
theorem law_post (hl : laidOutB P = true) {f : Func} {s : ChangeSpec} {tb : TypeId} {W W' : World} {args : Array Value} {ds gs : List (DataW H)} {before : List MemPlace}
    (hvars : s.vars = []) (hr : ∀ t ∈ f.params.toList, P.readableRec t = true ∧ t < P.types.size) (ht : f.resultTypes = #[tb]) (hb : P.underlying tb = some .bool)
    (hW : DataW.Whole enc P f.params.toList s.vars false W args.toList ds gs before)
    (hfn : s.fn H (ds ++ gs) = { results := [.lit (.bool true)], args := ds }) (hk : Below W.heap.size W W') :
    s.post enc P f false true false false W args (.bool true) W' := by
  have hlt : ∀ x ∈ before, x.block < W.heap.size := fun x hx => hW.lt x hx
  have hW0 := hW
  obtain ⟨p, q, hA, hV, rfl, _, _⟩ := hW
  rw [hvars] at hV
  obtain ⟨rfl, rfl⟩ := trodVars_none hV
  simp only [List.append_nil] at hlt
  refine ⟨ds, [], p ++ [], [], p, [], hW0, ?_, ?_, ?_, hk.frame _, fun h => by cases h⟩
  · rw [hfn, ht]
    exact trodAll_cons_mk (shut_bool hb _) trodAll_mk0
  · rw [hfn]
    exact trodAll_stays hl hr hA (fun x hx => hk.same (hlt x hx)) (fun x hx => by simpa using hlt x hx)
  · rw [hfn, hvars]
    rfl

/-- A slice of int64 that came in. -/
theorem rd_trod64 {W : World} {t e : TypeId} {v : Value} {fuel : Nat} {x : DataW H × List MemPlace} (ht : P.underlying t = some (.slice e)) (he : P.underlying e = some (.int .i64)) (hc : P.cellsOf e = 1)
    (hf : DataW.trod enc P W 0 (fun _ => true) true fuel t [v] = some x) : ∃ A n c Z, v = .slice A n c ∧ Rd W A n Z ∧ (A = none → n = 0 ∧ c = 0) := by
  rcases open_ints ht he hc hf with ⟨hcs, _⟩ | ⟨x, l, c, zs, hcs, _, hl, hm, hz, _, hcell, hwz⟩
  · simp at hcs
    exact ⟨none, 0, 0, fun _ => 0, hcs, Rd.nil _ _ _, fun _ => ⟨rfl, rfl⟩⟩
  · simp at hcs
    simp only [if_true] at hz
    unfold maxLen at hm
    refine ⟨_, _, _, fun k => zs.getD k 0, hcs, ⟨by omega, fun k hk => ?_, fun hn => ?_⟩, fun h => by cases h⟩
    · have hk' : k < zs.length := by omega
      have hw := hwz (zs.getD k 0) (by rw [show zs.getD k 0 = zs[k] from by simp [List.getD, hk']]; exact List.getElem_mem hk')
      simp [Lit.wf, IntKind.min, IntKind.max, IntKind.signed, IntKind.bits] at hw
      simpa using hw
    · obtain ⟨b, off, spot⟩ := x
      have hspot : spot = none := by simpa [Addr.add] using World.cell?_spot (hcell 0 (by omega))
      subst hspot
      exact ⟨b, off, rfl, fun j hj => by have := hcell j (by omega); rwa [add_plain] at this⟩
theorem rd_open0 {W : World} {base : Nat} {t e : TypeId} {v : Value} {d : DataW H} {p : List MemPlace} (ht : P.underlying t = some (.slice e)) (he : P.underlying e = some (.int .i64)) (hc : P.cellsOf e = 1)
    (hv : Value.okWide P W .any base t v) (h : DataW.Trod enc P W 0 (fun _ => true) true t v d p) : ∃ A n c Z, v = .slice A n c ∧ Rd W A n Z ∧ (A = none → n = 0 ∧ c = 0) := by
  obtain ⟨a0, len, cap, rfl⟩ := okWide_slice ht hv
  obtain ⟨fuel, hf⟩ := h
  have hcs : (Value.slice a0 len cap).cells.toList = [.slice a0 len cap] := by simp [Value.cells]
  rw [hcs] at hf
  exact rd_trod64 ht he hc hf
end

theorem Tryd.own : ownKnob Tryd.prog.godebug = none := by kernel_rfl
theorem Tryd.laidOut : laidOutB Tryd.prog = true := by kernel_rfl
theorem Tryd.cellsInt : Tryd.prog.cellsOf 3 = 1 := by kernel_rfl
theorem Tryd.cellsStr : Tryd.prog.cellsOf 9 = 1 := by kernel_rfl
theorem Tryd.cellsPr10 : Tryd.prog.cellsOf 30 = 2 := by kernel_rfl
def seatLaid : List (String × DataW Unit) := [("errors.errorType", Rows.laid_errors_errorType)]
theorem door_met (os : Os) (args : Array Value) : laidMetH Tryd.prog seatLaid ((World.doorLaid Tryd.prog 400 os).forCall (fun _ _ => 0) ⟨#[], args, []⟩).memory :=
  laidMetH_of_parts3 (fuel := 8) (laidMet_of_run' 8 (by kernel_rfl) (by kernel_rfl)) (by kernel_rfl) (by kernel_rfl)
theorem Tryd.gE : Tryd.prog.globalNamed "errors.errorType" = some 0 := by kernel_rfl
theorem Tryd.rt : (Tryd.prog.cutTypes.find? (·.1 == "internal/reflectlite.rtype")).map (·.2) = some 114 := by kernel_rfl
theorem Tryd.oneRow : ((List.range 155).filter fun t => Tryd.prog.rowNamed t [101, 114, 114, 111, 114]) = [43] := by kernel_rfl
theorem Tryd.tsize : Tryd.prog.types.size = 155 := by kernel_rfl
theorem vars_of_laid {W : World} (h : laidMetH Tryd.prog seatLaid W) : ErrT W := by
  have h' : laidMet Tryd.prog [] W ∧ handlesMet Tryd.prog [("errors.errorType", Rows.laid_errors_errorType)] W := h
  obtain ⟨_, hh⟩ := h'
  obtain ⟨name, u, ty, e1, e2, e3, e4, e5⟩ := hh _ (List.mem_singleton.2 rfl)
  have en : name = [101, 114, 114, 111, 114] := (Option.some.inj e1).symm
  subst en
  obtain rfl := Option.some.inj (Tryd.rt.symm.trans e2)
  have hm : ty ∈ (List.range 155).filter fun t => Tryd.prog.rowNamed t [101, 114, 114, 111, 114] := List.mem_filter.2 ⟨List.mem_range.2 (by rw [← Tryd.tsize]; exact e3), e4⟩
  rw [Tryd.oneRow] at hm
  obtain rfl := List.mem_singleton.1 hm
  have hth : typeHandle Tryd.prog 43 = .pointer (some ⟨1, 43, none⟩) := by kernel_rfl
  rw [hth] at e5
  unfold ErrT
  simpa using World.var?_cell Tryd.gE e5 0
theorem cells1 {t : TypeId} (h : Tryd.prog.cellsOf t = 1) (cs : List Value) (j : Nat) (v : Value) (hv : cs[j]? = some v) : (cs.drop j).take (Tryd.prog.cellsOf t) = [v] := by
  rw [h]
  cases hd : cs.drop j with
  | nil =>
    rw [List.drop_eq_nil_iff] at hd
    rw [List.getElem?_eq_none hd] at hv
    cases hv
  | cons a r =>
    have : (cs.drop j).head? = some a := by rw [hd]; rfl
    rw [List.head?_drop, hv] at this
    simp at this
    simp [this]
theorem i64_wf {x : Int} (h : (Lit.int .i64 x).wf = true) : I64 x := by
  unfold I64
  simp [Lit.wf, IntKind.min, IntKind.max, IntKind.signed, IntKind.bits] at h
  simpa using h
theorem u8_wf {x : Int} (h : (Lit.int .u8 x).wf = true) : 0 ≤ x ∧ x ≤ 255 := by
  simp [Lit.wf, IntKind.min, IntKind.max, IntKind.signed, IntKind.bits] at h
  simpa using h
theorem Tryd.fieldsPr10 : ∃ f0 f1 : Field, Tryd.prog.underlying 30 = some (.struct #[f0, f1]) ∧ (f0.type = 3 ∧ f1.type = 3) ∧ f0.offset = 0 ∧ f1.offset = 1 :=
  ⟨_, _, Tryd.underlying30, ⟨rfl, rfl⟩, rfl, rfl⟩
set_option maxRecDepth 100000 in
theorem pr_trod {H : Type} {enc : TypeId × Value → H} {W : World} {fuel : Nat} {l : List Value} {x : DataW H × List MemPlace} (hl : l.length = 2) (hf : DataW.trod enc Tryd.prog W 0 (fun _ => true) true fuel 30 l = some x) :
    ∃ p : PrV, l = p.cells ∧ PrOk p := by
  obtain ⟨f0, f1, hs, ⟨t0, t1⟩, o0, o1⟩ := Tryd.fieldsPr10
  obtain ⟨xs, n', _, _, _, hlen, hg⟩ := DataW.trod_struct hs hf
  match l, hl, xs, hlen with
  | [v0, v1], _, [y0, y1], _ =>
    have g0 := hg 0 f0 rfl
    have g1 := hg 1 f1 rfl
    rw [o0, t0, cells1 Tryd.cellsInt _ 0 v0 rfl] at g0
    rw [o1, t1, cells1 Tryd.cellsInt _ 1 v1 rfl] at g1
    obtain ⟨x0, e0, _, r0⟩ := DataW.trod_int Tryd.underlying3 (g0.trans (b := some y0) rfl)
    obtain ⟨x1, e1, _, r1⟩ := DataW.trod_int Tryd.underlying3 (g1.trans (b := some y1) rfl)
    simp at e0 e1
    subst e0 e1
    exact ⟨⟨x0, x1⟩, rfl, ⟨i64_wf r0, i64_wf r1⟩⟩
set_option maxRecDepth 100000 in
theorem strs_open {H : Type} {enc : TypeId × Value → H} {W : World} {base : Nat} {v : Value} {d : DataW H} {p : List MemPlace} (hv : Value.okWide Tryd.prog W .any base 39 v) (h : DataW.Trod enc Tryd.prog W 0 (fun _ => true) true 39 v d p) :
    ∃ A n cp S, v = .slice A n cp ∧ RdS W A n S := by
  obtain ⟨a0, len, cap, rfl⟩ := okWide_slice Tryd.underlying39 hv
  obtain ⟨fuel, hf⟩ := h
  have hcs : (Value.slice a0 len cap).cells.toList = [.slice a0 len cap] := by simp [Value.cells]
  rw [hcs] at hf
  rcases DataW.trod_slice Tryd.underlying39 hf with ⟨e, _⟩ | ⟨a, len', cap', elems, rest, n, _, e, _, hb, hl, hm, hlen, hel, _, _⟩
  · simp at e
    obtain ⟨rfl, rfl, rfl⟩ := e
    exact ⟨none, 0, 0, fun _ => ⟨#[]⟩, rfl, ⟨by omega, fun h => absurd h (Nat.lt_irrefl _)⟩⟩
  · simp at e
    obtain ⟨rfl, rfl, rfl⟩ := e
    have each : ∀ j, j < len → ∃ s : ByteArray, W.cell? (a.add j) = some (.string s) := by
      intro j hj
      have h1 := hel j hj
      rw [Tryd.cellsStr, List.getElem?_eq_getElem (by omega)] at h1
      rw [Option.bind_eq_some_iff] at h1
      obtain ⟨cs, hc1, hc2⟩ := h1
      obtain ⟨_, hcl, hce⟩ := World.cells?_some hc1
      obtain ⟨s, e1, _⟩ := DataW.trod_string Tryd.underlying9 hc2
      refine ⟨s, ?_⟩
      have h2 := hce 0 (by omega)
      rw [e1] at h2
      simpa [Addr.add] using h2
    have pick : ∃ S : Nat → ByteArray, ∀ j, j < len → W.cell? (a.add j) = some (.string (S j)) :=
      ⟨fun j => if hj : j < len then (each j hj).choose else ⟨#[]⟩, fun j hj => by simp only [dif_pos hj]; exact (each j hj).choose_spec⟩
    obtain ⟨S, hS⟩ := pick
    refine ⟨some a, len, cap, S, rfl, ⟨by unfold maxLen at hm; omega, fun hn => ?_⟩⟩
    obtain ⟨b, o, ea⟩ : ∃ b o, a = ⟨b, o, none⟩ := by
      have h0 := hS 0 hn
      obtain ⟨b, o, s⟩ := a
      have hs : s = none := by simpa [Addr.add] using World.cell?_spot h0
      subst hs
      exact ⟨b, o, rfl⟩
    subst ea
    refine ⟨b, o, rfl, fun j hj => ?_⟩
    have h0 := hS j hj
    rw [add_plain] at h0
    exact h0
theorem Tryd.cellsOp10 : Tryd.prog.cellsOf 32 = 3 := by kernel_rfl
theorem Tryd.fieldsOp10 : ∃ f0 f1 : Field, Tryd.prog.underlying 32 = some (.struct #[f0, f1]) ∧ (f0.type = 3 ∧ f1.type = 30) ∧ f0.offset = 0 ∧ f1.offset = 1 :=
  ⟨_, _, Tryd.underlying32, ⟨rfl, rfl⟩, rfl, rfl⟩
set_option maxRecDepth 100000 in
theorem op_trod {H : Type} {enc : TypeId × Value → H} {W : World} {fuel : Nat} {l : List Value} {x : DataW H × List MemPlace} (hl : l.length = 3) (hf : DataW.trod enc Tryd.prog W 0 (fun _ => true) true fuel 32 l = some x) :
    ∃ (k : Int) (p : PrV), l = .int .i64 k :: p.cells ∧ PrOk p := by
  obtain ⟨f0, f1, hs, ⟨t0, t1⟩, o0, o1⟩ := Tryd.fieldsOp10
  obtain ⟨xs, n', _, _, _, hlen, hg⟩ := DataW.trod_struct hs hf
  match l, hl, xs, hlen with
  | v0 :: r, hl, [y0, y1], _ =>
    have g0 := hg 0 f0 rfl
    have g1 := hg 1 f1 rfl
    have hr : r.length = 2 := by simpa using hl
    rw [o0, t0, cells1 Tryd.cellsInt _ 0 v0 rfl] at g0
    rw [o1, t1, Tryd.cellsPr10, List.drop_succ_cons, List.drop_zero, List.take_of_length_le (by omega)] at g1
    obtain ⟨x0, e0, _, r0⟩ := DataW.trod_int Tryd.underlying3 (g0.trans (b := some y0) rfl)
    obtain ⟨p, rfl, hp⟩ := pr_trod hr (g1.trans (b := some y1) rfl)
    simp at e0
    subst e0
    exact ⟨x0, p, rfl, hp⟩
set_option maxRecDepth 100000 in
theorem ops_open {H : Type} {enc : TypeId × Value → H} {W : World} {base : Nat} {v : Value} {d : DataW H} {p : List MemPlace} (hv : Value.okWide Tryd.prog W .any base 22 v) (h : DataW.Trod enc Tryd.prog W 0 (fun _ => true) true 22 v d p) :
    ∃ A n cp K P, v = .slice A n cp ∧ RdOps W A n K P := by
  obtain ⟨a0, len, cap, rfl⟩ := okWide_slice Tryd.underlying22 hv
  obtain ⟨fuel, hf⟩ := h
  have hcs : (Value.slice a0 len cap).cells.toList = [.slice a0 len cap] := by simp [Value.cells]
  rw [hcs] at hf
  rcases DataW.trod_slice Tryd.underlying22 hf with ⟨e, _⟩ | ⟨a, len', cap', elems, rest, n, _, e, _, hb, hl, hm, hlen, hel, _, _⟩
  · simp at e
    obtain ⟨rfl, rfl, rfl⟩ := e
    exact ⟨none, 0, 0, fun _ => 0, fun _ => zp, rfl, ⟨by omega, fun h => absurd h (Nat.lt_irrefl _), fun _ h => absurd h (Nat.not_lt_zero _)⟩⟩
  · simp at e
    obtain ⟨rfl, rfl, rfl⟩ := e
    have each : ∀ j, j < len → ∃ (k : Int) (q : PrV), PrOk q ∧ ∀ i u, (Value.int .i64 k :: q.cells)[i]? = some u → W.cell? ((a.add (j * 3)).add i) = some u := by
      intro j hj
      have h1 := hel j hj
      rw [Tryd.cellsOp10, List.getElem?_eq_getElem (by omega)] at h1
      rw [Option.bind_eq_some_iff] at h1
      obtain ⟨cs, hc1, hc2⟩ := h1
      obtain ⟨_, hcl, hce⟩ := World.cells?_some hc1
      obtain ⟨k, q, rfl, hq⟩ := op_trod hcl hc2
      refine ⟨k, q, hq, fun i u hu => ?_⟩
      have hi : i < 3 := by have := (List.getElem?_eq_some_iff.1 hu).1; rw [List.length_cons, cells2] at this; exact this
      rw [hce i hi]
      exact hu
    have pick : ∃ (K : Nat → Int) (P : Nat → PrV), ∀ j, j < len → PrOk (P j) ∧ ∀ i u, (Value.int .i64 (K j) :: (P j).cells)[i]? = some u → W.cell? ((a.add (j * 3)).add i) = some u :=
      ⟨fun j => if hj : j < len then (each j hj).choose else 0, fun j => if hj : j < len then (each j hj).choose_spec.choose else zp, fun j hj => by simp only [dif_pos hj]; exact (each j hj).choose_spec.choose_spec⟩
    obtain ⟨K, P, hP⟩ := pick
    refine ⟨some a, len, cap, K, P, rfl, ⟨by unfold maxLen at hm; omega, fun hn => ?_, fun j hj => (hP j hj).1⟩⟩
    obtain ⟨b, o, ea⟩ : ∃ b o, a = ⟨b, o, none⟩ := by
      have h0 := (hP 0 hn).2 0 _ rfl
      obtain ⟨b, o, s⟩ := a
      have hs : s = none := by simpa [Addr.add] using World.cell?_spot h0
      subst hs
      exact ⟨b, o, rfl⟩
    subst ea
    refine ⟨b, o, rfl, fun j hj => ⟨?_, cel_of fun i u hu => ?_⟩⟩
    · have h0 := (hP j hj).2 0 _ rfl
      rw [add_plain, add_plain, Nat.add_zero] at h0
      exact h0
    · have h0 := (hP j hj).2 (i + 1) u hu
      rw [add_plain, add_plain] at h0
      rw [show o + j * 3 + 1 + i = o + j * 3 + (i + 1) by omega]
      exact h0
end Go.Proofs.YtfjghbgmjpdpbaaDoor.T10
