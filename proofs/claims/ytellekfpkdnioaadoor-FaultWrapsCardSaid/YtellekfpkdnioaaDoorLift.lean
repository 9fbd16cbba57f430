/-
  From a walk ('it returns true, and what was there is as it was') to a law's row; how arguments open; what the laid variables give. No condition.
-/
import Derived.Test.YtellekfpkdnioaaDoorNestsLaw
import Derived.Test.YtellekfpkdnioaaDoorRows
import Derived.ProofKit
import Derived.OpenShut
import Derived.SizedLaws
import Derived.Deep.Modes
import Derived.Deep.Frames
import Derived.Deep.Matrix
import Derived.LaidMore
import Derived.LaidHandle
import Derived.LaidLaws
import Derived.ChangeSame
import Derived.ChangeVars
import Derived.JoinedOf
import Derived.Stop.Joined
namespace Go.Proofs.YtellekfpkdnioaaDoor
open Go.ChangeShapes Go.WideShapes Go.ChangeAt Go.WideMaps Go.WideElems Go.RowKit

section
variable {H : Type} {enc : TypeId × Value → H} {P : Program}

theorem trodAll_stays (hl : laidOutB P = true) {W W' : World} {sp' : Nat → Bool} : ∀ {ts : List TypeId} {vs : List Value} {ds : List (DataW H)} {ps : List MemPlace}, (∀ t ∈ ts, P.readableRec t = true ∧ t < P.types.size) →
    DataW.TrodAll enc P W 0 (fun _ => true) true ts vs ds ps → (∀ p ∈ ps, W.sameAt W' p) → (∀ p ∈ ps, sp' p.block = true) → DataW.TrodAll enc P W' 0 sp' true ts vs ds ps
  | [], vs, ds, ps, _, h, _, _ => by
    obtain ⟨rfl, rfl, rfl⟩ := trodAll_nil h
    exact trodAll_mk0
  | t :: ts, vs, ds, ps, hr, h, hs, hb => by
    obtain ⟨v, vs1, d, ds1, a, b, rfl, rfl, rfl, h1, h2⟩ := trodAll_cons h
    refine trodAll_cons_mk ?_ ?_
    · exact WideElems.Trod_stays hl (hr t (by simp)).1 (hr t (by simp)).2 h1 (fun p hp => hs p (by simp [hp])) (fun p hp => hb p (by simp [hp]))
    · exact trodAll_stays hl (fun t' ht => hr t' (by simp [ht])) h2 (fun p hp => hs p (by simp [hp])) (fun p hp => hb p (by simp [hp]))

/-- A LAW's POST: the call answered true, nothing that was there has turned: the arguments read as they did. -/
theorem law_post (hl : laidOutB P = true) {f : Func} {s : ChangeSpec} {tb : TypeId} {W W' : World} {args : Array Value} {ds gs : List (DataW H)} {before : List MemPlace}
    (hvars : s.vars = []) (hr : ∀ t ∈ f.params.toList, P.readableRec t = true ∧ t < P.types.size) (ht : f.resultTypes = #[tb]) (hb : P.underlying tb = some .bool)
    (hW : DataW.Whole enc P f.params.toList s.vars false W args.toList ds gs before)
    (hfn : s.fn H (ds ++ gs) = { results := [.lit (.bool true)], args := ds }) (hk : Below W.heap.size W W') :
    s.post enc P f false true false false W args (.bool true) W' := by
  have hlt : ∀ x ∈ before, x.block < W.heap.size := fun x hx => hW.lt x hx
  have hW0 := hW
  obtain ⟨p, q, hA, hV, rfl, _, _⟩ := hW
  rw [hvars] at hV
  obtain ⟨rfl, rfl⟩ := trodVars_none hV
  simp only [List.append_nil] at hlt
  refine ⟨ds, [], p ++ [], [], p, [], hW0, ?_, ?_, ?_, hk.frame _, fun h => by cases h⟩
  · rw [hfn, ht]
    exact trodAll_cons_mk (shut_bool hb _) trodAll_mk0
  · rw [hfn]
    exact trodAll_stays hl hr hA (fun x hx => hk.same (hlt x hx)) (fun x hx => by simpa using hlt x hx)
  · rw [hfn, hvars]
    rfl

/-- A slice of int that came in. -/
theorem rd_open {W : World} {base : Nat} {t e : TypeId} {v : Value} {d : DataW H} {p : List MemPlace} (ht : P.underlying t = some (.slice e)) (he : P.underlying e = some (.int .i64)) (hc : P.cellsOf e = 1)
    (hv : Value.okWide P W .any base t v) (h : DataW.Trod enc P W 0 (fun _ => true) true t v d p) : ∃ A n c Z, v = .slice A n c ∧ Rd W A n Z := by
  obtain ⟨a0, len, cap, rfl⟩ := okWide_slice ht hv
  obtain ⟨fuel, hf⟩ := h
  rcases open_ints ht he hc hf with ⟨hcs, _⟩ | ⟨x, l, c, zs, hcs, _, hl, hm, hz, _, hcell, hwz⟩
  · simp [Value.cells] at hcs
    obtain ⟨rfl, rfl, rfl⟩ := hcs
    exact ⟨none, 0, 0, fun _ => 0, rfl, Rd.nil _ _ _⟩
  · simp [Value.cells] at hcs
    obtain ⟨rfl, rfl, rfl⟩ := hcs
    simp only [if_true] at hz
    unfold maxLen at hm
    refine ⟨_, _, _, fun k => zs.getD k 0, rfl, by omega, fun k hk => ?_, fun hn => ?_⟩
    · have hk' : k < zs.length := by omega
      have hw := hwz (zs.getD k 0) (by rw [show zs.getD k 0 = zs[k] from by simp [List.getD, hk']]; exact List.getElem_mem hk')
      simp [Lit.wf, IntKind.min, IntKind.max, IntKind.signed, IntKind.bits] at hw
      simpa using hw
    · obtain ⟨b, off, spot⟩ := x
      have hspot : spot = none := by simpa [Addr.add] using World.cell?_spot (hcell 0 (by omega))
      subst hspot
      exact ⟨b, off, rfl, fun j hj => by have := hcell j (by omega); rwa [add_plain] at this⟩

/-- A laid array of strings: its cells. -/
theorem strings_laid {W : World} {t e : TypeId} {n fuel : Nat} {cs : Array Value} {bs : List (List UInt8)} {p : List MemPlace} (ht : P.underlying t = some (.array n e)) (he : P.underlying e = some .string) (hc : P.cellsOf e = 1)
    (h : DataW.trod (fun _ => ()) P W 0 (fun _ => true) false fuel t cs.toList = some (.agg (bs.map fun b => .lit (.string b)), p)) :
    ∀ i, i < n → cs[i]? = some (.string ⟨(bs.getD i []).toArray⟩) := by
  obtain ⟨xs, m, rfl, hx, _, hn, hel⟩ := DataW.trod_array ht h
  intro i hi
  have h0 := hel i hi
  rw [hc, Nat.mul_one] at h0
  have hxi : xs[i]? = some xs[i] := List.getElem?_eq_getElem (by omega)
  rw [hxi] at h0
  obtain ⟨s, e1, e2, _⟩ := DataW.trod_string he h0
  have hcs : cs[i]? = some (.string s) := by
    have : (cs.toList.drop i).head? = some (.string s) := by
      cases hd : cs.toList.drop i with
      | nil => rw [hd] at e1; cases e1
      | cons c r => rw [hd] at e1; simp at e1; rw [e1]; rfl
    rw [List.head?_drop] at this
    simpa using this
  rw [hcs]
  simp only [Prod.mk.injEq, DataW.agg.injEq] at hx
  have hb : bs[i]? = some s.data.toList := by
    have h1 : (bs.map fun b => (DataW.lit (.string b) : DataW Unit))[i]? = (xs.map (·.1))[i]? := by rw [hx.1]
    rw [List.getElem?_map, List.getElem?_map, hxi, e2] at h1
    cases hbi : bs[i]? with
    | none => rw [hbi] at h1; cases h1
    | some b => rw [hbi] at h1; simp at h1; rw [h1]
  rw [List.getD_eq_getElem?_getD, hb]
  simp
end

theorem Tryd.own : ownKnob Tryd.prog.godebug = none := by kernel_rfl
theorem Tryd.laidOut : laidOutB Tryd.prog = true := by kernel_rfl
theorem Tryd.cellsInt : Tryd.prog.cellsOf 3 = 1 := by kernel_rfl
theorem Tryd.cellsStr : Tryd.prog.cellsOf 9 = 1 := by kernel_rfl
def seatLaid : List (String × DataW Unit) := [("errors.errorType", Rows.laid_errors_errorType), ("hammock/fault.codeNames", Rows.laid_hammock_fault_codeNames), ("hammock/fault.kindNames", Rows.laid_hammock_fault_kindNames)]
theorem door_met (os : Os) (args : Array Value) : laidMetH Tryd.prog seatLaid ((World.doorLaid Tryd.prog 400 os).forCall (fun _ _ => 0) ⟨#[], args, []⟩).memory :=
  laidMetH_of_parts3 (fuel := 8) (laidMet_of_run' 8 (by kernel_rfl) (by kernel_rfl)) (by kernel_rfl) (by kernel_rfl)
theorem Tryd.gE : Tryd.prog.globalNamed "errors.errorType" = some 0 := by kernel_rfl
theorem Tryd.gC : Tryd.prog.globalNamed "hammock/fault.codeNames" = some 1 := by kernel_rfl
theorem Tryd.gK : Tryd.prog.globalNamed "hammock/fault.kindNames" = some 2 := by kernel_rfl
theorem Tryd.gtC : (Tryd.prog.globals[1]?).map (·.type) = some 77 := by kernel_rfl
theorem Tryd.gtK : (Tryd.prog.globals[2]?).map (·.type) = some 79 := by kernel_rfl
theorem Tryd.rt : (Tryd.prog.cutTypes.find? (·.1 == "internal/reflectlite.rtype")).map (·.2) = some 86 := by kernel_rfl
theorem Tryd.oneRow : ((List.range 151).filter fun t => Tryd.prog.rowNamed t [101, 114, 114, 111, 114]) = [27] := by kernel_rfl
theorem Tryd.tsize : Tryd.prog.types.size = 151 := by kernel_rfl
theorem vars_of_laid {W : World} (h : laidMetH Tryd.prog seatLaid W) : Vars W := by
  have h' : laidMet Tryd.prog [("hammock/fault.codeNames", Rows.laid_hammock_fault_codeNames), ("hammock/fault.kindNames", Rows.laid_hammock_fault_kindNames)] W ∧ handlesMet Tryd.prog [("errors.errorType", Rows.laid_errors_errorType)] W := h
  obtain ⟨⟨ps, ⟨g0, t0, cs0, f0, p0, q0, hg0, ht0, hv0, hd0, ⟨g1, t1, cs1, f1, p1, q1, hg1, ht1, hv1, hd1, _, _⟩, _⟩, _, _⟩, hh⟩ := h'
  obtain rfl := Option.some.inj (Tryd.gC.symm.trans hg0)
  obtain rfl := Option.some.inj (Tryd.gK.symm.trans hg1)
  obtain rfl := Option.some.inj (Tryd.gtC.symm.trans ht0)
  obtain rfl := Option.some.inj (Tryd.gtK.symm.trans ht1)
  obtain ⟨name, u, ty, e1, e2, e3, e4, e5⟩ := hh _ (List.mem_singleton.2 rfl)
  have en : name = [101, 114, 114, 111, 114] := (Option.some.inj e1).symm
  subst en
  obtain rfl := Option.some.inj (Tryd.rt.symm.trans e2)
  have hm : ty ∈ (List.range 151).filter fun t => Tryd.prog.rowNamed t [101, 114, 114, 111, 114] := List.mem_filter.2 ⟨List.mem_range.2 (by rw [← Tryd.tsize]; exact e3), e4⟩
  rw [Tryd.oneRow] at hm
  obtain rfl := List.mem_singleton.1 hm
  have hth : typeHandle Tryd.prog 27 = .pointer (some ⟨6, 27, none⟩) := by kernel_rfl
  rw [hth] at e5
  refine ⟨by unfold ErrT; simpa using World.var?_cell Tryd.gE e5 0, fun i hi => ?_, fun i hi => ?_⟩
  · rw [World.var?_cell Tryd.gC hv0 i, strings_laid Tryd.underlying77 Tryd.underlying9 Tryd.cellsStr (bs := codeTbl.map fun s => s.data.toList) hd0 i hi]
    have : ∀ i, i < 11 → (⟨((codeTbl.map fun s => s.data.toList).getD i []).toArray⟩ : ByteArray) = codeTbl.getD i ⟨#[]⟩ := by decide
    rw [this i hi]
  · rw [World.var?_cell Tryd.gK hv1 i, strings_laid Tryd.underlying79 Tryd.underlying9 Tryd.cellsStr (bs := kindTbl.map fun s => s.data.toList) hd1 i hi]
    have : ∀ i, i < 8 → (⟨((kindTbl.map fun s => s.data.toList).getD i []).toArray⟩ : ByteArray) = kindTbl.getD i ⟨#[]⟩ := by decide
    rw [this i hi]
end Go.Proofs.YtellekfpkdnioaaDoor
