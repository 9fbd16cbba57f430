/-
  How the reference's description of an error opens as an argument; the library's table out of the world's shape; the lift that hands the shape on. No condition.
-/
import Derived.Test.YtellekfpkdnioaaDoorLift
import Derived.Test.YtellekfpkdnioaaDoorItoa
import Derived.HandedShaped
namespace Go.Proofs.YtellekfpkdnioaaDoor
open Go.ChangeShapes Go.WideShapes Go.ChangeAt Go.WideMaps Go.WideElems Go.RowKit

theorem Tryd.fieldsErr : ∃ f0 f1 f2 f3 f4 : Field, Tryd.prog.underlying 24 = some (.struct #[f0, f1, f2, f3, f4]) ∧ f0.type = 4 ∧ f1.type = 22 ∧ f2.type = 3 ∧ f3.type = 3 ∧ f4.type = 4 ∧ f0.offset = 0 ∧ f1.offset = 1 ∧ f2.offset = 2 ∧ f3.offset = 3 ∧ f4.offset = 4 :=
  ⟨_, _, _, _, _, Tryd.underlying24, rfl, rfl, rfl, rfl, rfl, rfl, rfl, rfl, rfl, rfl⟩
theorem Tryd.cellsErr : Tryd.prog.cellsOf 24 = 5 := by kernel_rfl
theorem Tryd.cellsBool : Tryd.prog.cellsOf 4 = 1 := by kernel_rfl
theorem Tryd.cellsInts : Tryd.prog.cellsOf 22 = 1 := by kernel_rfl
theorem cells1 {t : TypeId} (h : Tryd.prog.cellsOf t = 1) (cs : List Value) (j : Nat) (v : Value) (hv : cs[j]? = some v) : (cs.drop j).take (Tryd.prog.cellsOf t) = [v] := by
  rw [h]
  cases hd : cs.drop j with
  | nil =>
    rw [List.drop_eq_nil_iff] at hd
    rw [List.getElem?_eq_none hd] at hv
    cases hv
  | cons a r =>
    have : (cs.drop j).head? = some a := by rw [hd]; rfl
    rw [List.head?_drop, hv] at this
    simp at this
    simp [this]
theorem rd_trod {H : Type} {enc : TypeId × Value → H} {W : World} {v : Value} {fuel : Nat} {x : DataW H × List MemPlace}
    (hf : DataW.trod enc Tryd.prog W 0 (fun _ => true) true fuel 22 [v] = some x) : ∃ A n c Z, v = .slice A n c ∧ Rd W A n Z := by
  rcases open_ints Tryd.underlying22 Tryd.underlying3 Tryd.cellsInt hf with ⟨hcs, _⟩ | ⟨x, l, c, zs, hcs, _, hl, hm, hz, _, hcell, hwz⟩
  · simp at hcs
    exact ⟨none, 0, 0, fun _ => 0, hcs, Rd.nil _ _ _⟩
  · simp at hcs
    simp only [if_true] at hz
    unfold maxLen at hm
    refine ⟨_, _, _, fun k => zs.getD k 0, hcs, by omega, fun k hk => ?_, fun hn => ?_⟩
    · have hk' : k < zs.length := by omega
      have hw := hwz (zs.getD k 0) (by rw [show zs.getD k 0 = zs[k] from by simp [List.getD, hk']]; exact List.getElem_mem hk')
      simp [Lit.wf, IntKind.min, IntKind.max, IntKind.signed, IntKind.bits] at hw
      simpa using hw
    · obtain ⟨b, off, spot⟩ := x
      have hspot : spot = none := by simpa [Addr.add] using World.cell?_spot (hcell 0 (by omega))
      subst hspot
      exact ⟨b, off, rfl, fun j hj => by have := hcell j (by omega); rwa [add_plain] at this⟩
set_option maxRecDepth 100000 in
theorem err_open {H : Type} {enc : TypeId × Value → H} {W : World} {base : Nat} {v : Value} {d : DataW H} {p : List MemPlace} (hv : Value.okWide Tryd.prog W .any base 24 v) (h : DataW.Trod enc Tryd.prog W 0 (fun _ => true) true 24 v d p) :
    ∃ N A m cap c n F Z, v = .agg #[.bool N, .slice A m cap, .int .i64 c, .int .i64 n, .bool F] ∧ Rd W A m Z ∧ -9223372036854775808 ≤ c ∧ c ≤ 9223372036854775807 := by
  obtain ⟨f0, f1, f2, f3, f4, hs, t0, t1, t2, t3, t4, o0, o1, o2, o3, o4⟩ := Tryd.fieldsErr
  obtain ⟨cs, rfl, hsz⟩ := okWide_struct hs hv
  rw [Tryd.cellsErr] at hsz
  obtain ⟨l⟩ := cs
  obtain ⟨fuel, hf⟩ := h
  obtain ⟨xs, n', _, _, _, hlen, hg⟩ := DataW.trod_struct hs hf
  have hl : l.length = 5 := by simpa using hsz
  have hcl : (Value.agg ⟨l⟩).cells.toList = l := by simp [Value.cells]
  match l, hl, xs, hlen with
  | [v0, v1, v2, v3, v4], _, [y0, y1, y2, y3, y4], _ =>
    have g0 := hg 0 f0 rfl
    have g1 := hg 1 f1 rfl
    have g2 := hg 2 f2 rfl
    have g3 := hg 3 f3 rfl
    have g4 := hg 4 f4 rfl
    rw [o0, t0, hcl, cells1 Tryd.cellsBool _ 0 v0 rfl] at g0
    rw [o1, t1, hcl, cells1 Tryd.cellsInts _ 1 v1 rfl] at g1
    rw [o2, t2, hcl, cells1 Tryd.cellsInt _ 2 v2 rfl] at g2
    rw [o3, t3, hcl, cells1 Tryd.cellsInt _ 3 v3 rfl] at g3
    rw [o4, t4, hcl, cells1 Tryd.cellsBool _ 4 v4 rfl] at g4
    obtain ⟨N, e0, _⟩ := DataW.trod_bool Tryd.underlying4 (g0.trans (b := some y0) rfl)
    obtain ⟨A, m, cap, Z, e1, hR⟩ := rd_trod (g1.trans (b := some y1) rfl)
    obtain ⟨c, e2, _, hw⟩ := DataW.trod_int Tryd.underlying3 (g2.trans (b := some y2) rfl)
    obtain ⟨n, e3, _, _⟩ := DataW.trod_int Tryd.underlying3 (g3.trans (b := some y3) rfl)
    obtain ⟨F, e4, _⟩ := DataW.trod_bool Tryd.underlying4 (g4.trans (b := some y4) rfl)
    simp at e0 e2 e3 e4
    subst e0 e1 e2 e3 e4
    simp [Lit.wf, IntKind.min, IntKind.max, IntKind.signed, IntKind.bits] at hw
    exact ⟨N, A, m, cap, c, n, F, Z, rfl, hR, by simpa using hw.1, by simpa using hw.2⟩

set_option maxRecDepth 100000 in
/-- The table of powers holds twenty numbers. -/
theorem pow_shaped {W : World} (h : W.ShapedOpen Tryd.prog) : ∃ T, PowT W T := by
  have h0 : ((begin Tryd.prog (fun _ _ => 0) default).world.heap[3]?).bind Obj.row? = some (Array.replicate 20 (.int .u64 0), 123) := by kernel_rfl
  obtain ⟨cs, hh, hs, hr⟩ := h.1 3 _ _ (by decide +kernel) h0
  obtain ⟨ts, hts, _, hall⟩ := hr (by kernel_rfl)
  have hc : Tryd.prog.cellTypes Tryd.prog.depth 123 = some (List.replicate 20 115) := by kernel_rfl
  rw [hc] at hts
  cases hts
  have hsz : cs.size = 20 := by simpa using hs
  have hk : ∀ i, i < 20 → ∃ n, W.cell? ⟨3, i, none⟩ = some (.int .u64 n) := fun i hi => by
    obtain ⟨u, hu, hok⟩ := hall i cs[i] (by simp [hsz, hi])
    have hu' : u = 115 := by
      rw [List.length_replicate, Nat.mod_eq_of_lt hi, List.getElem?_replicate, if_pos hi] at hu
      simpa using hu.symm
    subst hu'
    have hcell : W.cell? ⟨3, i, none⟩ = some cs[i] := by simp [World.cell?, hh, hsz, hi]
    rw [hcell]
    unfold Cell.ok at hok
    rw [Tryd.underlying115] at hok
    cases hv : cs[i] <;> rw [hv] at hok <;> simp at hok
    exact ⟨_, by rw [hok.1]⟩
  exact ⟨fun i => match W.cell? ⟨3, i, none⟩ with | some (.int _ n) => n | _ => 0, fun i hi => by
    obtain ⟨n, hn⟩ := hk i hi
    simp only [hn]⟩

section
variable {H : Type} {enc : TypeId × Value → H}
/-- The lift of a row that lists variables, with the world's shape handed on. -/
theorem handed_shaped {a : Assume} {C : Checked} {os : Os} {f : FuncId} {fn : Func} {s : ChangeSpec} {conds : List PathCond} {apart fresh handsOn again : Bool} {X : World → Array Value → Prop}
    (hX : ∀ (w w' : World) (args : Array Value), w.heap = w'.heap → X w args → X w' args)
    (own : ownKnob C.prog.godebug = none) (started : os.Started) (noInit : C.prog.inits.idxOf? f = none) (hfn : C.prog.funcs[f]? = some fn)
    (witness : ∃ (w : World) (tape : Tape) (i : Input), w.os = os ∧ (w.forCall tape i).Shaped C.prog ∧ i.vars = [] ∧ Input.okWide C.prog (w.forCall tape i) .any w.heap.size f i ∧
      ((s.pre enc C.prog fn conds apart (w.forCall tape i).memory i.args ∧ X (w.forCall tape i).memory i.args) ∧ sizedMet enc C.prog fn (OpenSpec.ofChange s) apart (w.forCall tape i).memory i.args) ∧ a.holds C.prog (lone (Frame.enter C.prog f i.args .normal) [] (w.forCall tape i)))
    (walk : ∀ (W : World) (base : Nat) (args : Array Value) (ds gs : List (DataW H)) (before : List MemPlace),
      (∀ (j : Nat) t v, fn.params[j]? = some t → args[j]? = some v → Value.okWide C.prog W .any base t v) →
      DataW.Whole enc C.prog fn.params.toList s.vars apart W args.toList ds gs before → W.ShapedOpen C.prog → X W args →
      Calls C.prog f args W fun e W' => ∃ v, e = .returned v ∧ s.post enc C.prog fn apart fresh handsOn again W args v W') :
    ReturnsInHanded a C os f .any (fun w args => (s.pre enc C.prog fn conds apart w args ∧ X w args) ∧ sizedMet enc C.prog fn (OpenSpec.ofChange s) apart w args) (s.post enc C.prog fn apart fresh handsOn again) := by
  refine returnsInHanded_of_calls own started noInit witness fun w tape i _ hsh _ hok hpre _ => ?_
  obtain ⟨_, _, _, fn', hfn', _, _, _, _, hval⟩ := hok
  obtain rfl : fn' = fn := Option.some.inj (hfn'.symm.trans hfn)
  obtain ⟨⟨⟨ds, gs, before, hw, _⟩, hx⟩, _⟩ := hpre
  refine (walk (w.forCall tape i) w.heap.size i.args ds gs before hval (DataW.Whole.of_heap (w' := w.forCall tape i) (by rfl) hw) hsh (hX _ _ _ (by rfl) hx)).mono fun e W' ⟨v, he, hp⟩ => ?_
  subst he
  exact ChangeSpec.post_blind hp
end
end Go.Proofs.YtellekfpkdnioaaDoor
