/-
  From a walk ('it returns true, and what was there is as it was') to a law's row; how arguments open; what the laid variables give. No condition.
-/
import Derived.Test.YtpjaalloenapbaaDoorAwake5
import Derived.Test.YtpjaalloenapbaaDoorRows
import Derived.ProofKit
import Derived.OpenShut
import Derived.SizedLaws
import Derived.Deep.Modes
import Derived.Deep.Frames
import Derived.Deep.Matrix
import Derived.LaidMore
import Derived.LaidHandle
import Derived.LaidLaws
import Derived.ChangeSame
import Derived.ChangeVars
import Derived.JoinedOf
import Derived.Stop.Joined
namespace Go.Proofs.YtpjaalloenapbaaDoor
open Go.ChangeShapes Go.WideShapes Go.ChangeAt Go.WideMaps Go.WideElems Go.RowKit

section
variable {H : Type} {enc : TypeId × Value → H} {P : Program}

theorem trodAll_stays (hl : laidOutB P = true) {W W' : World} {sp' : Nat → Bool} : ∀ {ts : List TypeId} {vs : List Value} {ds : List (DataW H)} {ps : List MemPlace}, (∀ t ∈ ts, P.readableRec t = true ∧ t < P.types.size) →
    DataW.TrodAll enc P W 0 (fun _ => true) true ts vs ds ps → (∀ p ∈ ps, W.sameAt W' p) → (∀ p ∈ ps, sp' p.block = true) → DataW.TrodAll enc P W' 0 sp' true ts vs ds ps
  | [], vs, ds, ps, _, h, _, _ => by
    obtain ⟨rfl, rfl, rfl⟩ := trodAll_nil h
    exact trodAll_mk0
  | t :: ts, vs, ds, ps, hr, h, hs, hb => by
    obtain ⟨v, vs1, d, ds1, a, b, rfl, rfl, rfl, h1, h2⟩ := trodAll_cons h
    refine trodAll_cons_mk ?_ ?_
    · exact WideElems.Trod_stays hl (hr t (by simp)).1 (hr t (by simp)).2 h1 (fun p hp => hs p (by simp [hp])) (fun p hp => hb p (by simp [hp]))
    · exact trodAll_stays hl (fun t' ht => hr t' (by simp [ht])) h2 (fun p hp => hs p (by simp [hp])) (fun p hp => hb p (by simp [hp]))

/-- A LAW's POST: the call answered true, nothing that was there has turned: the arguments read as they did. -/
theorem law_post (hl : laidOutB P = true) {f : Func} {s : ChangeSpec} {tb : TypeId} {W W' : World} {args : Array Value} {ds gs : List (DataW H)} {before : List MemPlace}
    (hvars : s.vars = []) (hr : ∀ t ∈ f.params.toList, P.readableRec t = true ∧ t < P.types.size) (ht : f.resultTypes = #[tb]) (hb : P.underlying tb = some .bool)
    (hW : DataW.Whole enc P f.params.toList s.vars false W args.toList ds gs before)
    (hfn : s.fn H (ds ++ gs) = { results := [.lit (.bool true)], args := ds }) (hk : Below W.heap.size W W') :
    s.post enc P f false true false false W args (.bool true) W' := by
  have hlt : ∀ x ∈ before, x.block < W.heap.size := fun x hx => hW.lt x hx
  have hW0 := hW
  obtain ⟨p, q, hA, hV, rfl, _, _⟩ := hW
  rw [hvars] at hV
  obtain ⟨rfl, rfl⟩ := trodVars_none hV
  simp only [List.append_nil] at hlt
  refine ⟨ds, [], p ++ [], [], p, [], hW0, ?_, ?_, ?_, hk.frame _, fun h => by cases h⟩
  · rw [hfn, ht]
    exact trodAll_cons_mk (shut_bool hb _) trodAll_mk0
  · rw [hfn]
    exact trodAll_stays hl hr hA (fun x hx => hk.same (hlt x hx)) (fun x hx => by simpa using hlt x hx)
  · rw [hfn, hvars]
    rfl

/-- A laid array of strings: its cells. -/
theorem strings_laid {W : World} {t e : TypeId} {n fuel : Nat} {cs : Array Value} {bs : List (List UInt8)} {p : List MemPlace} (ht : P.underlying t = some (.array n e)) (he : P.underlying e = some .string) (hc : P.cellsOf e = 1)
    (h : DataW.trod (fun _ => ()) P W 0 (fun _ => true) false fuel t cs.toList = some (.agg (bs.map fun b => .lit (.string b)), p)) :
    ∀ i, i < n → cs[i]? = some (.string ⟨(bs.getD i []).toArray⟩) := by
  obtain ⟨xs, m, rfl, hx, _, hn, hel⟩ := DataW.trod_array ht h
  intro i hi
  have h0 := hel i hi
  rw [hc, Nat.mul_one] at h0
  have hxi : xs[i]? = some xs[i] := List.getElem?_eq_getElem (by omega)
  rw [hxi] at h0
  obtain ⟨s, e1, e2, _⟩ := DataW.trod_string he h0
  have hcs : cs[i]? = some (.string s) := by
    have : (cs.toList.drop i).head? = some (.string s) := by
      cases hd : cs.toList.drop i with
      | nil => rw [hd] at e1; cases e1
      | cons c r => rw [hd] at e1; simp at e1; rw [e1]; rfl
    rw [List.head?_drop] at this
    simpa using this
  rw [hcs]
  simp only [Prod.mk.injEq, DataW.agg.injEq] at hx
  have hb : bs[i]? = some s.data.toList := by
    have h1 : (bs.map fun b => (DataW.lit (.string b) : DataW Unit))[i]? = (xs.map (·.1))[i]? := by rw [hx.1]
    rw [List.getElem?_map, List.getElem?_map, hxi, e2] at h1
    cases hbi : bs[i]? with
    | none => rw [hbi] at h1; cases h1
    | some b => rw [hbi] at h1; simp at h1; rw [h1]
  rw [List.getD_eq_getElem?_getD, hb]
  simp
/-- A slice of int64 that came in. -/
theorem rd_trod64 {W : World} {t e : TypeId} {v : Value} {fuel : Nat} {x : DataW H × List MemPlace} (ht : P.underlying t = some (.slice e)) (he : P.underlying e = some (.int .i64)) (hc : P.cellsOf e = 1)
    (hf : DataW.trod enc P W 0 (fun _ => true) true fuel t [v] = some x) : ∃ A n c Z, v = .slice A n c ∧ Rd W A n Z ∧ (A = none → n = 0 ∧ c = 0) := by
  rcases open_ints ht he hc hf with ⟨hcs, _⟩ | ⟨x, l, c, zs, hcs, _, hl, hm, hz, _, hcell, hwz⟩
  · simp at hcs
    exact ⟨none, 0, 0, fun _ => 0, hcs, Rd.nil _ _ _, fun _ => ⟨rfl, rfl⟩⟩
  · simp at hcs
    simp only [if_true] at hz
    unfold maxLen at hm
    refine ⟨_, _, _, fun k => zs.getD k 0, hcs, ⟨by omega, fun k hk => ?_, fun hn => ?_⟩, fun h => by cases h⟩
    · have hk' : k < zs.length := by omega
      have hw := hwz (zs.getD k 0) (by rw [show zs.getD k 0 = zs[k] from by simp [List.getD, hk']]; exact List.getElem_mem hk')
      simp [Lit.wf, IntKind.min, IntKind.max, IntKind.signed, IntKind.bits] at hw
      simpa using hw
    · obtain ⟨b, off, spot⟩ := x
      have hspot : spot = none := by simpa [Addr.add] using World.cell?_spot (hcell 0 (by omega))
      subst hspot
      exact ⟨b, off, rfl, fun j hj => by have := hcell j (by omega); rwa [add_plain] at this⟩
theorem rd_open0 {W : World} {base : Nat} {t e : TypeId} {v : Value} {d : DataW H} {p : List MemPlace} (ht : P.underlying t = some (.slice e)) (he : P.underlying e = some (.int .i64)) (hc : P.cellsOf e = 1)
    (hv : Value.okWide P W .any base t v) (h : DataW.Trod enc P W 0 (fun _ => true) true t v d p) : ∃ A n c Z, v = .slice A n c ∧ Rd W A n Z ∧ (A = none → n = 0 ∧ c = 0) := by
  obtain ⟨a0, len, cap, rfl⟩ := okWide_slice ht hv
  obtain ⟨fuel, hf⟩ := h
  have hcs : (Value.slice a0 len cap).cells.toList = [.slice a0 len cap] := by simp [Value.cells]
  rw [hcs] at hf
  exact rd_trod64 ht he hc hf
theorem rd_open {W : World} {base : Nat} {t e : TypeId} {v : Value} {d : DataW H} {p : List MemPlace} (ht : P.underlying t = some (.slice e)) (he : P.underlying e = some (.int .i64)) (hc : P.cellsOf e = 1)
    (hv : Value.okWide P W .any base t v) (h : DataW.Trod enc P W 0 (fun _ => true) true t v d p) : ∃ A n c Z, v = .slice A n c ∧ Rd W A n Z := by
  obtain ⟨A, n, c, Z, e, hR, _⟩ := rd_open0 ht he hc hv h
  exact ⟨A, n, c, Z, e, hR⟩
end

theorem Tryd.own : ownKnob Tryd.prog.godebug = none := by kernel_rfl
theorem Tryd.laidOut : laidOutB Tryd.prog = true := by kernel_rfl
theorem Tryd.cellsInt : Tryd.prog.cellsOf 3 = 1 := by kernel_rfl
theorem Tryd.cellsStr : Tryd.prog.cellsOf 9 = 1 := by kernel_rfl
def seatLaid : List (String × DataW Unit) := [("hammock/phase.names", Rows.laid_hammock_phase_names)]
theorem door_met (os : Os) (args : Array Value) : laidMetH Tryd.prog seatLaid ((World.doorLaid Tryd.prog 400 os).forCall (fun _ _ => 0) ⟨#[], args, []⟩).memory :=
  laidMetH_of_parts3 (fuel := 8) (laidMet_of_run' 8 (by kernel_rfl) (by kernel_rfl)) (by kernel_rfl) (by kernel_rfl)
theorem Tryd.gK : Tryd.prog.globalNamed "hammock/phase.names" = some 0 := by kernel_rfl
theorem Tryd.gtK : (Tryd.prog.globals[0]?).map (·.type) = some 45 := by kernel_rfl
theorem vars_of_laid {W : World} (h : laidMetH Tryd.prog seatLaid W) : V5 W := by
  have h' : laidMet Tryd.prog [("hammock/phase.names", Rows.laid_hammock_phase_names)] W := h
  obtain ⟨ps, ⟨g1, t1, cs1, f1, p1, q1, hg1, ht1, hv1, hd1, _, _⟩, _, _⟩ := h'
  obtain rfl := Option.some.inj (Tryd.gK.symm.trans hg1)
  obtain rfl := Option.some.inj (Tryd.gtK.symm.trans ht1)
  intro i hi
  rw [World.var?_cell Tryd.gK hv1 i, strings_laid Tryd.underlying45 Tryd.underlying9 Tryd.cellsStr (bs := nmTbl.map fun s => s.data.toList) hd1 i hi]
  have : ∀ i, i < 6 → (⟨((nmTbl.map fun s => s.data.toList).getD i []).toArray⟩ : ByteArray) = nmTbl.getD i ⟨#[]⟩ := by decide
  rw [this i hi]
end Go.Proofs.YtpjaalloenapbaaDoor
