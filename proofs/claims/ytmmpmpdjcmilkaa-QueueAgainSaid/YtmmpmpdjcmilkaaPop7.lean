/-
  Pop of a queue's heap: the last of the list. Condition: the list is not empty.
-/
import Derived.Test.YtmmpmpdjcmilkaaPush7
namespace Go.Proofs.Ytmmpmpdjcmilkaa
open Go.RowKit Go.Sort Go.Lib Go.Shelf
open Go.ChangeMaps (setBlock)

theorem own_blocks1 {w w' : World} {base n z : Nat} {e : TypeId} {v : Value} {xs : List Value} (h : w.ownsRow base e z v n xs) (hs : ∀ g, v.ownBlock = some g → w'.heap[g]? = w.heap[g]?) : w'.ownsRow base e z v n xs := by
  rcases h with ⟨h1, h2 | ⟨g, cap, cur, h3, h4, h5, h6⟩⟩
  · exact ⟨h1, .inl h2⟩
  · exact ⟨h1, .inr ⟨g, cap, cur, h3, h4, (hs g (by rw [h3]; rfl)).trans h5, h6⟩⟩
/-- The last one is cleared, the list is shorter. -/
theorem pop_row {w : World} {b0 b1 bq B c n g : Nat} {Q : Nat → PodV} (h : QMem w b0 b1 bq B (some ⟨g, 0, none⟩) c (n + 1) Q) : RowP (w.setCells g (n * 9) zpod.cells) b1 (.slice (some ⟨g, 0, none⟩) n c) n Q :=
  ((h.row.store n (by omega) zpod (zpod_req _ _) zpod_ok).shrink).congr fun j hj => put_ne _ _ _ (by omega)
theorem pop_end {w W Wf : World} {b0 b1 bq B c n g : Nat} {Q : Nat → PodV} (h : QMem w b0 b1 bq B (some ⟨g, 0, none⟩) c (n + 1) Q)
    (hR : RowP W b1 (.slice (some ⟨g, 0, none⟩) n c) n Q) {f : Int → Option Int} (hP : Places (n + 1) Q f) {o : Obj} (hO : ObjI o (del f (Q n).k)) (hq : Wf.heap[bq]? = some (.cells #[.slice (some ⟨g, 0, none⟩) n c, .map (some B)] 54 (0, 0)))
    (hB : Wf.heap[B]? = some o) (hf : ∀ k, k < W.heap.size → k ≠ bq → k ≠ B → Wf.heap[k]? = W.heap[k]?) (hF : Fr (Foot bq B (some ⟨g, 0, none⟩)) w Wf) (wq : W.heap[bq]? = w.heap[bq]?) (wB : W.heap[B]? = w.heap[B]?) :
    QMem Wf b0 b1 bq B (some ⟨g, 0, none⟩) c n Q := by
  refine ⟨hq, hR.blocks fun k T hk hT => hf k ?_ ?_ ?_, ⟨_, ⟨o, hB, hO⟩, places_del hP⟩, by have := h.lim; omega, h.lo.1, h.lo.2.1, h.lo.2.2.1, Nat.le_trans h.lo.2.2.2 hF.size⟩
  · obtain ⟨cs, fr, hk⟩ := hk
    exact (Array.getElem?_eq_some_iff.1 hk).1
  · rintro rfl
    obtain ⟨cs, fr, hk⟩ := hk
    rw [wq, h.hq] at hk
    injection hk with hk
    injection hk with _ hk
    rcases hT with rfl | rfl <;> exact absurd hk (by decide)
  · rintro rfl
    obtain ⟨cs, fr, hk⟩ := hk
    obtain ⟨f, ⟨om, h1, es, cl, l, rfl, _⟩, _⟩ := h.map
    rw [wB, h1] at hk
    cases hk
section
variable {ops : Array Oper} {o : Oper} {a : Act} {w : World} {K : Act → World → Prop} {Q : Exit → Act → World → Prop} {E : Prop}
/-- A delete, at a step of a region that draws. -/
theorem step_del (hgd : o.guard = none) (m x : Operand) (ho : o.op = .call { callee := .builtin .delete, args := #[m, x], argTypes := #[50, 3] })
    (B : Nat) (k : Int) (hm : a.eval m = .map (some B)) (hx : a.eval x = .int .i64 k) (ob : Obj) (hE : ∀ ty, (Builtin.delete_ #[50, 3] ty #[.map (some B), .int .i64 k]).run Try.prog w = .ok (.tuple #[]) (setBlock w B ob))
    (h : ∀ w', w' = setBlock w B ob → K (a.put o.dst (.tuple #[])) w') :
    if Region.wanted o (yielded ops a.tmps) = true then Oper.wp Try.prog o a w K Q else E := by
  have hw : Region.wanted o (yielded ops a.tmps) = true := by simp [Region.wanted, hgd]
  rw [if_pos hw]
  have := h _ rfl
  unfold Oper.wp
  simp [execOp, ho, resolve, invoke, builtin, hm, hx, hE, Result.andThen]
  exact this
end
theorem zp_world (w : World) (g o : Nat) : w.setCells g o zpod.cells = (((((((((w.setCell ⟨g, o, none⟩ (.int .i64 0)).setCell ⟨g, o + 1, none⟩ (.int .i64 0)).setCell ⟨g, o + 2, none⟩ (.bool false)).setCell ⟨g, o + 3, none⟩ (.int .i64 0)).setCell ⟨g, o + 4, none⟩ (.slice none 0 0)).setCell ⟨g, o + 5, none⟩ (.int .i64 0)).setCell ⟨g, o + 6, none⟩ (.int .i64 0)).setCell ⟨g, o + 7, none⟩ (.int .i64 0)).setCell ⟨g, o + 8, none⟩ (.int .i64 0)) := rfl

set_option maxRecDepth 100000 in
set_option maxHeartbeats 8000000 in
theorem hpop_fn {w : World} {b0 b1 bq B : Nat} {A : Option Addr} {c n : Nat} {Q : Nat → PodV} (h : QMem w b0 b1 bq B A c (n + 1) Q) :
    Calls Try.prog 73 #[.pointer (some ⟨bq, 0, none⟩)] w fun e w' => e = .returned (.iface 32 (Q n).val) ∧ QMem w' b0 b1 bq B A c n Q ∧ Fr (Foot bq B A) w w' ∧ Req w' b1 (Q n) := by
  have mixed : Try.prog.follows .mixedOrders = true := by kernel_rfl
  have H := Lib.hid h
  obtain ⟨g, rfl, hg⟩ := h.at (by omega)
  have c0 := h.e0
  have c1 := h.e1
  have f0 := h.f0
  have hlim := h.lim
  have hlt := h.lt
  have hne := Lib.hid h.ne
  have nq : g ≠ bq := h.ne.1
  have nB : g ≠ B := h.ne.2.1
  have X := (hg n (by omega)).1
  have FX := (hg n (by omega)).2
  have q1 := pods_at g 0 (n + 1) c n (by omega)
  rw [Nat.zero_add] at q1
  clear hg h
  obtain ⟨f, M0, PL⟩ := H.out.map
  obtain ⟨x, hx⟩ : ∃ x, x = Q n := ⟨_, rfl⟩
  rw [← hx] at X ⊢
  have rq := H.out.row.own n (by omega)
  rw [← hx] at rq
  obtain ⟨o, O1, E1⟩ := mapI_del M0 x.k
  replace rq := Lib.hid rq
  replace hx := Lib.hid hx
  have x0 := X.e0; have x1 := X.e1; have x2 := X.e2; have x3 := X.e3; have x4 := X.e4; have x5 := X.e5; have x6 := X.e6; have x7 := X.e7; have x8 := X.e8
  have f1 := FX 0; have f2 := FX 1; have f3 := FX 2; have f4 := FX 3; have f5 := FX 4; have f6 := FX 5; have f7 := FX 6; have f8 := FX 7; have f9 := FX 8
  simp only [Nat.add_zero] at f1
  clear X FX
  have hl1 : (n : Int) + 1 - 1 = (n : Int) := by omega
  have ltg : g < w.heap.size := cell_lt x0
  have nd0 : w.heap.size ≠ g := by omega
  have nd1 : w.heap.size ≠ bq := by omega
  have hcap : (n : Int) ≤ (c : Int) := by have := own_cap H.out.row.row; omega
  replace O1 := Lib.hid O1
  replace E1 := Lib.hid E1
  replace PL := Lib.hid PL
  replace M0 := Lib.hid M0
  go_enter Try.func73, Try.ntmps73
  have RW := pop_row H.out
  have CG := cells_grown g zpod.cells (n * 9) w
  have wq : (w.setCells g (n * 9) zpod.cells).heap[bq]? = w.heap[bq]? := CG.1.block bq hlt.1 (fun e => nq (Option.some.inj e).symm)
  have wB : (w.setCells g (n * 9) zpod.cells).heap[B]? = w.heap[B]? := CG.1.block B hlt.2 (fun e => nB (Option.some.inj e).symm)
  have FW : Fr (Foot bq B (some ⟨g, 0, none⟩)) w (w.setCells g (n * 9) zpod.cells) := Fr.grown CG.1 (fun k hk => Or.inl (Or.inr (Or.inr ⟨0, by rw [Option.some.inj hk]⟩)))
  rw [zp_world] at RW CG wq wB FW
  replace RW := Lib.hid RW
  replace CG := Lib.hid CG
  replace wq := Lib.hid wq
  replace wB := Lib.hid wB
  replace FW := Lib.hid FW
  go_wp2_with fail
  clear x0 x1 x2 x3 x4 x5 x6 x7 x8 f1 f2 f3 f4 f5 f6 f7 f8 f9 c0 c1 f0 q1
  generalize (((((((((w.setCell ⟨g, n * 9, none⟩ (.int .i64 0)).setCell ⟨g, n * 9 + 1, none⟩ (.int .i64 0)).setCell ⟨g, n * 9 + 2, none⟩ (.bool false)).setCell ⟨g, n * 9 + 3, none⟩ (.int .i64 0)).setCell ⟨g, n * 9 + 4, none⟩ (.slice none 0 0)).setCell ⟨g, n * 9 + 5, none⟩ (.int .i64 0)).setCell ⟨g, n * 9 + 6, none⟩ (.int .i64 0)).setCell ⟨g, n * 9 + 7, none⟩ (.int .i64 0)).setCell ⟨g, n * 9 + 8, none⟩ (.int .i64 0)) = W1 at *
  have sz : W1.heap.size = w.heap.size := CG.out.2
  obtain ⟨s0, hs0⟩ : ∃ s0, s0 = w.heap.size := ⟨_, rfl⟩
  rw [← hs0] at sz nd0 nd1 ⊢
  obtain ⟨P0, hP0⟩ : ∃ P0, P0 = Obj.cells #[.int .i64 x.k, .int .i64 x.p, .bool x.f, .int .i64 x.g, .slice x.A x.m x.c, .int .i64 x.a, .int .i64 x.h, .int .i64 x.d, .int .i64 x.t] 32 := ⟨_, rfl⟩
  obtain ⟨W5, hW5⟩ : ∃ W5, W5 = (W1.setCell ⟨bq, 0, none⟩ (.slice (some ⟨g, 0, none⟩) n c)).alloc P0 := ⟨_, rfl⟩
  rw [← hP0, ← hW5]
  have sz2 : (W1.setCell ⟨bq, 0, none⟩ (.slice (some ⟨g, 0, none⟩) n c)).heap.size = s0 := by simp; exact sz
  have v5 : W5.heap[s0]? = some P0 := by rw [hW5, ← sz2]; exact heap_alloc_new _ _
  have q5 : W5.heap[bq]? = some (.cells #[.slice (some ⟨g, 0, none⟩) n c, .map (some B)] 54 (0, 0)) := by
    rw [hW5, Below.heap_alloc _ _ _ (by rw [sz2]; omega)]
    exact heap_setCell_same W1 bq 0 _ _ (.slice (some ⟨g, 0, none⟩) n c) (wq.out.trans H.out.hq)
  have o5 : ∀ k, k < s0 → k ≠ bq → W5.heap[k]? = W1.heap[k]? := fun k hk hn => by
    rw [hW5, Below.heap_alloc _ _ _ (by rw [sz2]; exact hk)]
    exact Below.heap_setCell W1 _ _ k hn
  have B5 : W5.heap[B]? = w.heap[B]? := (o5 B (by omega) (fun e => hne.out.2.2 e.symm)).trans wB.out
  have F5 : Fr (Foot bq B (some ⟨g, 0, none⟩)) w W5 := by rw [hW5]; exact (FW.out.set (Or.inl (Or.inl rfl)) _).alloc _
  have z5 : W5.heap.size = s0 + 1 := by rw [hW5, World.size_alloc, sz2]
  rw [hP0] at v5
  have y0 : W5.cell? ⟨s0, 0, none⟩ = some (.int .i64 x.k) := by rw [cell_of_row W5 _ _ _ _ _ v5]; rfl
  have u0 : W5.cell? ⟨bq, 1, none⟩ = some (.map (some B)) := by rw [cell_of_row W5 _ _ _ _ _ q5]; rfl
  have hO : ∀ (W : World) (ty : TypeId), W.heap[B]? = W5.heap[B]? → (Builtin.delete_ #[50, 3] ty #[.map (some B), .int .i64 x.k]).run Try.prog W = .ok (.tuple #[]) (setBlock W B o) := fun W ty e => E1.out W ty (e.trans B5)
  clear hW5 hP0 sz2
  replace v5 := Lib.hid v5
  replace q5 := Lib.hid q5
  replace o5 := Lib.hid o5
  replace B5 := Lib.hid B5
  replace F5 := Lib.hid F5
  replace z5 := Lib.hid z5
  replace hO := Lib.hid hO
  replace sz := Lib.hid sz
  replace hs0 := Lib.hid hs0
  go_region_law (first
    | (refine step_del rfl (.tmp 37) (.tmp 39) rfl B x.k (by simp [Act.eval]) (by simp [Act.eval]) o (fun ty => hO.out _ ty rfl) ?_
       intro w6 e6
       have h6 : Hid (∀ k, k ≠ B → w6.heap[k]? = W5.heap[k]?) := fun k hk => by rw [e6]; exact heap_setBlock_ne hk
       have b6 : Hid (w6.heap[B]? = some o) := by
         rw [e6]
         refine heap_setBlock ?_
         show B < W5.heap.size
         have := z5.out
         have := hs0.out
         omega
       have F6 : Hid (Fr (Foot bq B (some ⟨g, 0, none⟩)) w w6) := by
         rw [e6]
         exact Fr.put (by first | exact F5.out | exact F5.out.drew) (Or.inl (Or.inr (Or.inl rfl))) o
       have d6 : w6.heap[s0]? = some (.cells #[.int .i64 x.k, .int .i64 x.p, .bool x.f, .int .i64 x.g, .slice x.A x.m x.c, .int .i64 x.a, .int .i64 x.h, .int .i64 x.d, .int .i64 x.t] 32 (0, 0)) := (h6.out s0 (by have := hs0.out; omega)).trans v5.out
       clear e6))
  all_goals
    clear y0 u0
    have y0 : w6.cell? ⟨s0, 0, none⟩ = some (.int .i64 x.k) := by rw [cell_of_row w6 _ _ _ _ _ d6]; rfl
    have y1 : w6.cell? ⟨s0, 1, none⟩ = some (.int .i64 x.p) := by rw [cell_of_row w6 _ _ _ _ _ d6]; rfl
    have y2 : w6.cell? ⟨s0, 2, none⟩ = some (.bool x.f) := by rw [cell_of_row w6 _ _ _ _ _ d6]; rfl
    have y3 : w6.cell? ⟨s0, 3, none⟩ = some (.int .i64 x.g) := by rw [cell_of_row w6 _ _ _ _ _ d6]; rfl
    have y4 : w6.cell? ⟨s0, 4, none⟩ = some (.slice x.A x.m x.c) := by rw [cell_of_row w6 _ _ _ _ _ d6]; rfl
    have y5 : w6.cell? ⟨s0, 5, none⟩ = some (.int .i64 x.a) := by rw [cell_of_row w6 _ _ _ _ _ d6]; rfl
    have y6 : w6.cell? ⟨s0, 6, none⟩ = some (.int .i64 x.h) := by rw [cell_of_row w6 _ _ _ _ _ d6]; rfl
    have y7 : w6.cell? ⟨s0, 7, none⟩ = some (.int .i64 x.d) := by rw [cell_of_row w6 _ _ _ _ _ d6]; rfl
    have y8 : w6.cell? ⟨s0, 8, none⟩ = some (.int .i64 x.t) := by rw [cell_of_row w6 _ _ _ _ _ d6]; rfl
    replace d6 := Lib.hid d6
    go_wp2
    go_ret
    have rk : Req w6 b1 x := own_blocks1 rq.out (fun g1 hg1 => by
      obtain ⟨cur, hk⟩ := row_kind rq.out hg1
      have n1 : g1 ≠ B := by
        rintro rfl
        obtain ⟨om, h2, es, cl, l, rfl, _⟩ := M0.out
        rw [h2] at hk
        cases hk
      have n2 : g1 ≠ bq := by
        rintro rfl
        rw [H.out.hq] at hk
        injection hk with hk
        injection hk with _ hk
        exact absurd hk (by decide)
      have n3 : g1 ≠ g := by
        rintro rfl
        obtain ⟨cur2, hk2⟩ := row_kind H.out.row.row (g := g1) rfl
        rw [hk2] at hk
        injection hk with hk
        injection hk with _ hk
        exact absurd hk (by decide)
      have hl := (Array.getElem?_eq_some_iff.1 hk).1
      exact ((h6.out g1 n1).trans (o5.out g1 (by have := hs0.out; omega) n2)).trans (CG.out.1.block g1 hl (fun e => n3 (Option.some.inj e))))
    refine ⟨rfl, pop_end H.out RW.out PL.out (by rw [← hx.out]; exact O1.out) ((h6.out bq (fun e => hne.out.2.2 e)).trans q5.out) b6.out (fun k hk n1 n2 => (h6.out k n2).trans (o5.out k (by have := sz.out; omega) n1)) F6.out wq.out wB.out, F6.out, rk⟩
end Go.Proofs.Ytmmpmpdjcmilkaa
