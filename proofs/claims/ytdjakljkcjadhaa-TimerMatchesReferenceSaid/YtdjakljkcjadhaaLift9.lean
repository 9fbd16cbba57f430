/-
  From a walk ('it returns true, and what was there is as it was') to a law's row; how timers, slices of timers and slices of operations open. No condition.
-/
import Derived.Test.YtdjakljkcjadhaaMatchLaw9
import Derived.Test.YtdjakljkcjadhaaRows
import Derived.ProofKit
import Derived.OpenShut
import Derived.SizedLaws
import Derived.Deep.Modes
import Derived.Deep.Frames
import Derived.Deep.Matrix
import Derived.LaidMore
import Derived.LaidHandle
import Derived.LaidLaws
import Derived.ChangeSame
import Derived.ChangeVars
import Derived.JoinedOf
import Derived.Stop.Joined
namespace Go.Proofs.Ytdjakljkcjadhaa.T9
open Go.ChangeShapes Go.WideShapes Go.ChangeAt Go.WideMaps Go.WideElems Go.RowKit

section
variable {H : Type} {enc : TypeId × Value → H} {P : Program}

theorem trodAll_stays (hl : laidOutB P = true) {W W' : World} {sp' : Nat → Bool} : ∀ {ts : List TypeId} {vs : List Value} {ds : List (DataW H)} {ps : List MemPlace}, (∀ t ∈ ts, P.readableRec t = true ∧ t < P.types.size) →
    DataW.TrodAll enc P W 0 (fun _ => true) true ts vs ds ps → (∀ p ∈ ps, W.sameAt W' p) → (∀ p ∈ ps, sp' p.block = true) → DataW.TrodAll enc P W' 0 sp' true ts vs ds ps
  | [], vs, ds, ps, _, h, _, _ => by
    obtain ⟨rfl, rfl, rfl⟩ := trodAll_nil h
    exact trodAll_mk0
  | t :: ts, vs, ds, ps, hr, h, hs, hb => by
    obtain ⟨v, vs1, d, ds1, a, b, rfl, rfl, rfl, h1, h2⟩ := trodAll_cons h
    refine trodAll_cons_mk ?_ ?_
    · exact WideElems.Trod_stays hl (hr t (by simp)).1 (hr t (by simp)).2 h1 (fun p hp => hs p (by simp [hp])) (fun p hp => hb p (by simp [hp]))
    · exact trodAll_stays hl (fun t' ht => hr t' (by simp [ht])) h2 (fun p hp => hs p (by simp [hp])) (fun p hp => hb p (by simp [hp]))

/-- A LAW's POST: the call answered true, nothing that was there has turned: the arguments read as they did. -/
theorem law_post (hl : laidOutB P = true) {f : Func} {s : ChangeSpec} {tb : TypeId} {W W' : World} {args : Array Value} {ds gs : List (DataW H)} {before : List MemPlace}
    (hvars : s.vars = []) (hr : ∀ t ∈ f.params.toList, P.readableRec t = true ∧ t < P.types.size) (ht : f.resultTypes = #[tb]) (hb : P.underlying tb = some .bool)
    (hW : DataW.Whole enc P f.params.toList s.vars false W args.toList ds gs before)
    (hfn : s.fn H (ds ++ gs) = { results := [.lit (.bool true)], args := ds }) (hk : Below W.heap.size W W') :
    s.post enc P f false true false false W args (.bool true) W' := by
  have hlt : ∀ x ∈ before, x.block < W.heap.size := fun x hx => hW.lt x hx
  have hW0 := hW
  obtain ⟨p, q, hA, hV, rfl, _, _⟩ := hW
  rw [hvars] at hV
  obtain ⟨rfl, rfl⟩ := trodVars_none hV
  simp only [List.append_nil] at hlt
  refine ⟨ds, [], p ++ [], [], p, [], hW0, ?_, ?_, ?_, hk.frame _, fun h => by cases h⟩
  · rw [hfn, ht]
    exact trodAll_cons_mk (shut_bool hb _) trodAll_mk0
  · rw [hfn]
    exact trodAll_stays hl hr hA (fun x hx => hk.same (hlt x hx)) (fun x hx => by simpa using hlt x hx)
  · rw [hfn, hvars]
    rfl
end

theorem Try.own9 : ownKnob Try.prog.godebug = none := by kernel_rfl
theorem Try.laidOut9 : laidOutB Try.prog = true := by kernel_rfl
theorem Try.cellsInt9 : Try.prog.cellsOf 3 = 1 := by kernel_rfl
theorem Try.cellsTm9 : Try.prog.cellsOf 30 = 3 := by kernel_rfl
theorem Try.fieldsTm9 : ∃ f0 f1 f2 : Field, Try.prog.underlying 30 = some (.struct #[f0, f1, f2]) ∧ (f0.type = 3 ∧ f1.type = 3 ∧ f2.type = 3) ∧ f0.offset = 0 ∧ f1.offset = 1 ∧ f2.offset = 2 :=
  ⟨_, _, _, Try.underlying30, ⟨rfl, rfl, rfl⟩, rfl, rfl, rfl⟩
theorem cells1 {t : TypeId} (h : Try.prog.cellsOf t = 1) (cs : List Value) (j : Nat) (v : Value) (hv : cs[j]? = some v) : (cs.drop j).take (Try.prog.cellsOf t) = [v] := by
  rw [h]
  cases hd : cs.drop j with
  | nil =>
    rw [List.drop_eq_nil_iff] at hd
    rw [List.getElem?_eq_none hd] at hv
    cases hv
  | cons a r =>
    have : (cs.drop j).head? = some a := by rw [hd]; rfl
    rw [List.head?_drop, hv] at this
    simp at this
    simp [this]
theorem i64_wf {x : Int} (h : (Lit.int .i64 x).wf = true) : I64 x := by
  unfold I64
  simp [Lit.wf, IntKind.min, IntKind.max, IntKind.signed, IntKind.bits] at h
  simpa using h
theorem u16_wf {x : Int} (h : (Lit.int .u16 x).wf = true) : 0 ≤ x ∧ x ≤ 65535 := by
  simp [Lit.wf, IntKind.min, IntKind.max, IntKind.signed, IntKind.bits] at h
  simpa using h
set_option maxRecDepth 100000 in
theorem tm_trod {H : Type} {enc : TypeId × Value → H} {W : World} {fuel : Nat} {l : List Value} {x : DataW H × List MemPlace} (hl : l.length = 3) (hf : DataW.trod enc Try.prog W 0 (fun _ => true) true fuel 30 l = some x) :
    ∃ p : TmV, l = p.cells ∧ TmOk p := by
  obtain ⟨f0, f1, f2, hs, ⟨t0, t1, t2⟩, o0, o1, o2⟩ := Try.fieldsTm9
  obtain ⟨xs, n', _, _, _, hlen, hg⟩ := DataW.trod_struct hs hf
  match l, hl, xs, hlen with
  | [v0, v1, v2], _, [y0, y1, y2], _ =>
    have g0 := hg 0 f0 rfl
    have g1 := hg 1 f1 rfl
    have g2 := hg 2 f2 rfl
    rw [o0, t0, cells1 Try.cellsInt9 _ 0 v0 rfl] at g0
    rw [o1, t1, cells1 Try.cellsInt9 _ 1 v1 rfl] at g1
    rw [o2, t2, cells1 Try.cellsInt9 _ 2 v2 rfl] at g2
    obtain ⟨x0, e0, _, r0⟩ := DataW.trod_int Try.underlying3 (g0.trans (b := some y0) rfl)
    obtain ⟨x1, e1, _, r1⟩ := DataW.trod_int Try.underlying3 (g1.trans (b := some y1) rfl)
    obtain ⟨x2, e2, _, r2⟩ := DataW.trod_int Try.underlying3 (g2.trans (b := some y2) rfl)
    simp at e0 e1 e2
    subst e0 e1 e2
    exact ⟨⟨x0, x1, x2⟩, rfl, ⟨i64_wf r0, i64_wf r1, i64_wf r2⟩⟩
set_option maxRecDepth 100000 in
theorem tms_open {H : Type} {enc : TypeId × Value → H} {W : World} {base : Nat} {v : Value} {d : DataW H} {p : List MemPlace} (hv : Value.okWide Try.prog W .any base 26 v) (h : DataW.Trod enc Try.prog W 0 (fun _ => true) true 26 v d p) :
    ∃ A n cp P, v = .slice A n cp ∧ RdT W A n P := by
  obtain ⟨a0, len, cap, rfl⟩ := okWide_slice Try.underlying26 hv
  obtain ⟨fuel, hf⟩ := h
  have hcs : (Value.slice a0 len cap).cells.toList = [.slice a0 len cap] := by simp [Value.cells]
  rw [hcs] at hf
  rcases DataW.trod_slice Try.underlying26 hf with ⟨e, _⟩ | ⟨a, len', cap', elems, rest, n, _, e, _, hb, hl, hm, hlen, hel, _, _⟩
  · simp at e
    obtain ⟨rfl, rfl, rfl⟩ := e
    exact ⟨none, 0, 0, fun _ => zt, rfl, RdT.nil _ _ _⟩
  · simp at e
    obtain ⟨rfl, rfl, rfl⟩ := e
    have each : ∀ j, j < len → ∃ q : TmV, TmOk q ∧ ∀ i u, q.cells[i]? = some u → W.cell? ((a.add (j * 3)).add i) = some u := by
      intro j hj
      have h1 := hel j hj
      rw [Try.cellsTm9, List.getElem?_eq_getElem (by omega)] at h1
      rw [Option.bind_eq_some_iff] at h1
      obtain ⟨cs, hc1, hc2⟩ := h1
      obtain ⟨_, hcl, hce⟩ := World.cells?_some hc1
      obtain ⟨q, rfl, hq⟩ := tm_trod hcl hc2
      refine ⟨q, hq, fun i u hu => ?_⟩
      have hi : i < 3 := by have := (List.getElem?_eq_some_iff.1 hu).1; exact this
      rw [hce i hi]
      exact hu
    have pick : ∃ P : Nat → TmV, ∀ j, j < len → TmOk (P j) ∧ ∀ i u, (P j).cells[i]? = some u → W.cell? ((a.add (j * 3)).add i) = some u :=
      ⟨fun j => if hj : j < len then (each j hj).choose else zt, fun j hj => by simp only [dif_pos hj]; exact (each j hj).choose_spec⟩
    obtain ⟨P, hP⟩ := pick
    refine ⟨some a, len, cap, P, rfl, ⟨by unfold maxLen at hm; omega, fun hn => ?_, fun j hj => (hP j hj).1⟩⟩
    obtain ⟨b, o, ea⟩ : ∃ b o, a = ⟨b, o, none⟩ := by
      have h0 := (hP 0 hn).2 0 _ rfl
      obtain ⟨b, o, s⟩ := a
      have hs : s = none := by simpa [Addr.add] using World.cell?_spot h0
      subst hs
      exact ⟨b, o, rfl⟩
    subst ea
    refine ⟨b, o, rfl, fun j hj => cel_of fun i u hu => ?_⟩
    have h0 := (hP j hj).2 i u hu
    rw [add_plain, add_plain] at h0
    exact h0
theorem Try.cellsOp9 : Try.prog.cellsOf 32 = 4 := by kernel_rfl
theorem Try.fieldsOp9 : ∃ f0 f1 : Field, Try.prog.underlying 32 = some (.struct #[f0, f1]) ∧ (f0.type = 3 ∧ f1.type = 30) ∧ f0.offset = 0 ∧ f1.offset = 1 :=
  ⟨_, _, Try.underlying32, ⟨rfl, rfl⟩, rfl, rfl⟩
theorem op_trod {H : Type} {enc : TypeId × Value → H} {W : World} {fuel : Nat} {l : List Value} {x : DataW H × List MemPlace} (hl : l.length = 4) (hf : DataW.trod enc Try.prog W 0 (fun _ => true) true fuel 32 l = some x) :
    ∃ (k : Int) (p : TmV), l = .int .i64 k :: p.cells ∧ TmOk p := by
  obtain ⟨f0, f1, hs, ⟨t0, t1⟩, o0, o1⟩ := Try.fieldsOp9
  obtain ⟨xs, n', _, _, _, hlen, hg⟩ := DataW.trod_struct hs hf
  match l, hl, xs, hlen with
  | v0 :: r, hl, [y0, y1], _ =>
    have g0 := hg 0 f0 rfl
    have g1 := hg 1 f1 rfl
    have hr : r.length = 3 := by simpa using hl
    rw [o0, t0, cells1 Try.cellsInt9 _ 0 v0 rfl] at g0
    rw [o1, t1, Try.cellsTm9, List.drop_succ_cons, List.drop_zero, List.take_of_length_le (by omega)] at g1
    obtain ⟨x0, e0, _, r0⟩ := DataW.trod_int Try.underlying3 (g0.trans (b := some y0) rfl)
    obtain ⟨p, rfl, hp⟩ := tm_trod hr (g1.trans (b := some y1) rfl)
    simp at e0
    subst e0
    exact ⟨x0, p, rfl, hp⟩
set_option maxRecDepth 100000 in
theorem ops_open {H : Type} {enc : TypeId × Value → H} {W : World} {base : Nat} {v : Value} {d : DataW H} {p : List MemPlace} (hv : Value.okWide Try.prog W .any base 22 v) (h : DataW.Trod enc Try.prog W 0 (fun _ => true) true 22 v d p) :
    ∃ A n cp K P, v = .slice A n cp ∧ RdOps W A n K P := by
  obtain ⟨a0, len, cap, rfl⟩ := okWide_slice Try.underlying22 hv
  obtain ⟨fuel, hf⟩ := h
  have hcs : (Value.slice a0 len cap).cells.toList = [.slice a0 len cap] := by simp [Value.cells]
  rw [hcs] at hf
  rcases DataW.trod_slice Try.underlying22 hf with ⟨e, _⟩ | ⟨a, len', cap', elems, rest, n, _, e, _, hb, hl, hm, hlen, hel, _, _⟩
  · simp at e
    obtain ⟨rfl, rfl, rfl⟩ := e
    exact ⟨none, 0, 0, fun _ => 0, fun _ => zt, rfl, ⟨by omega, fun h => absurd h (Nat.lt_irrefl _), fun _ h => absurd h (Nat.not_lt_zero _)⟩⟩
  · simp at e
    obtain ⟨rfl, rfl, rfl⟩ := e
    have each : ∀ j, j < len → ∃ (k : Int) (q : TmV), TmOk q ∧ ∀ i u, (Value.int .i64 k :: q.cells)[i]? = some u → W.cell? ((a.add (j * 4)).add i) = some u := by
      intro j hj
      have h1 := hel j hj
      rw [Try.cellsOp9, List.getElem?_eq_getElem (by omega)] at h1
      rw [Option.bind_eq_some_iff] at h1
      obtain ⟨cs, hc1, hc2⟩ := h1
      obtain ⟨_, hcl, hce⟩ := World.cells?_some hc1
      obtain ⟨k, q, rfl, hq⟩ := op_trod hcl hc2
      refine ⟨k, q, hq, fun i u hu => ?_⟩
      have hi : i < 4 := by have := (List.getElem?_eq_some_iff.1 hu).1; rw [List.length_cons, cells3] at this; exact this
      rw [hce i hi]
      exact hu
    have pick : ∃ (K : Nat → Int) (P : Nat → TmV), ∀ j, j < len → TmOk (P j) ∧ ∀ i u, (Value.int .i64 (K j) :: (P j).cells)[i]? = some u → W.cell? ((a.add (j * 4)).add i) = some u :=
      ⟨fun j => if hj : j < len then (each j hj).choose else 0, fun j => if hj : j < len then (each j hj).choose_spec.choose else zt, fun j hj => by simp only [dif_pos hj]; exact (each j hj).choose_spec.choose_spec⟩
    obtain ⟨K, P, hP⟩ := pick
    refine ⟨some a, len, cap, K, P, rfl, ⟨by unfold maxLen at hm; omega, fun hn => ?_, fun j hj => (hP j hj).1⟩⟩
    obtain ⟨b, o, ea⟩ : ∃ b o, a = ⟨b, o, none⟩ := by
      have h0 := (hP 0 hn).2 0 _ rfl
      obtain ⟨b, o, s⟩ := a
      have hs : s = none := by simpa [Addr.add] using World.cell?_spot h0
      subst hs
      exact ⟨b, o, rfl⟩
    subst ea
    refine ⟨b, o, rfl, fun j hj => ⟨?_, cel_of fun i u hu => ?_⟩⟩
    · have h0 := (hP j hj).2 0 _ rfl
      rw [add_plain, add_plain, Nat.add_zero] at h0
      exact h0
    · have h0 := (hP j hj).2 (i + 1) u hu
      rw [add_plain, add_plain] at h0
      rw [show o + j * 4 + 1 + i = o + j * 4 + (i + 1) by omega]
      exact h0
end Go.Proofs.Ytdjakljkcjadhaa.T9
