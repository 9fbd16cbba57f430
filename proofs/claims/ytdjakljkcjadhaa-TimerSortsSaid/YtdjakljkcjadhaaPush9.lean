/-
  Push of a list's heap: at the end of the list. Condition: fewer than 1000 timers.
-/
import Derived.Test.YtdjakljkcjadhaaSwap9
namespace Go.Proofs.Ytdjakljkcjadhaa.T9
open Go.RowKit Go.Sort Go.Lib Go.Shelf
open Go.ChangeMaps (setBlock)

theorem Keep.frozen {w w' : World} (h : Keep w w') {b o : Nat} (hb : b < w.heap.size) : w'.frozen? ⟨b, o, none⟩ = w.frozen? ⟨b, o, none⟩ := by
  simp only [World.frozen?, Below.block h b hb]
theorem Foot.more {bq B : Nat} {A A' : Option Addr} {s : Nat} (h : ∀ g off, A' = some ⟨g, off, none⟩ → A = some ⟨g, off, none⟩ ∨ s ≤ g) : ∀ k, Foot bq B A' k → Foot bq B A k ∨ s ≤ k := by
  rintro k (h1 | h1 | ⟨off, h1⟩)
  · exact Or.inl (Or.inl h1)
  · exact Or.inl (Or.inr (Or.inl h1))
  · rcases h k off h1 with h | h
    · exact Or.inl (Or.inr (Or.inr ⟨off, h⟩))
    · exact Or.inr h
theorem places_put {n : Nat} {Q : Nat → TmV} {f : Int → Option Int} {x : TmV} (h : Places n Q f) (hx : ∀ j, j < n → (Q j).k ≠ x.k) : Places (n + 1) (put Q n x) (upd f x.k n) := by
  intro k v
  unfold upd
  by_cases e : k = x.k
  · rw [if_pos e]
    constructor
    · intro hv
      injection hv with hv
      exact ⟨n, by omega, by rw [put_at]; exact e.symm, hv.symm⟩
    · rintro ⟨j, hj, hk, rfl⟩
      by_cases e2 : j = n
      · rw [e2]
      · rw [put_ne _ _ _ e2] at hk
        exact absurd (hk.trans e) (hx j (by omega))
  · rw [if_neg e, h k v]
    constructor
    · rintro ⟨j, hj, hk, hv⟩
      exact ⟨j, by omega, by rw [put_ne _ _ _ (by omega)]; exact hk, hv⟩
    · rintro ⟨j, hj, hk, hv⟩
      by_cases e2 : j = n
      · rw [e2, put_at] at hk
        exact absurd hk.symm e
      · rw [put_ne _ _ _ e2] at hk
        exact ⟨j, by omega, hk, hv⟩
theorem tm_news {W : World} {k : Nat} {x : TmV} (h : W.heap[k]? = some (.cells #[.int .i64 x.k, .int .i64 x.t, .int .i64 x.a] 33 (0, 0))) : ∀ j u, x.cells[j]? = some u → W.cell? ((⟨k, 0, none⟩ : Addr).add j) = some u := by
  intro j u hu
  rw [WideShapes.add_plain, Nat.zero_add, cell_of_row W k j _ _ _ h, List.getElem?_toArray]
  exact hu
section
variable {ops : Array Oper} {o : Oper} {a : Act} {w : World} {K : Act → World → Prop} {Q : Exit → Act → World → Prop} {E : Prop}
/-- One timer more, at a step of a region that draws: the old row, or a new block. -/
theorem step_lies (hgd : o.guard = none) (s x : Operand) (ho : o.op = .call { callee := .builtin .append, args := #[s, x], argTypes := #[37, 37] })
    (base : Nat) (v : Value) (n : Nat) (xs : List Value) (hs : a.eval s = v) (hown : w.ownsRow base 33 3 v n xs) (ad : Addr) (news : List Value) (hx : a.eval x = .slice (some ad) 1 1) (hl : news.length = 3) (hnews : ∀ j u, news[j]? = some u → w.cell? (ad.add j) = some u) (h1 : ∀ u ∈ news, u.oneCell' = true)
    (hlim : n ≤ 1048576) (hbase : base ≤ w.heap.size)
    (h : ∀ g cap w', w'.ownsRow base 33 3 (.slice (some ⟨g, 0, none⟩) (n + 1) cap) (n + 1) (xs ++ news) → w.grownBy w' v.ownBlock → (v.ownBlock = some g ∨ g = w.heap.size) → g < w'.heap.size → K (a.put o.dst (.slice (some ⟨g, 0, none⟩) (n + 1) cap)) w') :
    if Region.wanted o (yielded ops a.tmps) = true then Oper.wp Try.prog o a w K Q else E := by
  obtain ⟨i0, hi0, hz0, hz1, hz2⟩ := info_parts Try.tyT9.info
  exact step_append_lies (P := Try.prog) w hgd s x 37 ho base 33 i0 _ 3 24 Try.underlying37 hi0 hz0 hz1 hz2 rfl (by decide) v n xs hs hown ad 1 1 news hx (by rw [hl]) hnews h1 (by omega) (by unfold maxLen; omega) (by omega) hbase _ rfl h
end
/-- The end of Push: the new list is stored. -/
theorem push_end {w W : World} {b bq B : Nat} {A A' : Option Addr} {c c' n : Nat} {Q : Nat → TmV} {x : TmV} (h : TMem w b bq B A c n Q) (hn : n < 1000) (hx : ∀ j, j < n → (Q j).k ≠ x.k) (hok : TmOk x)
    (hW : W.heap[bq]? = w.heap[bq]?) (hR : W.ownsRow b 33 3 (.slice A' (n + 1) c') (n + 1) (tmCs (put Q n x) (n + 1))) {f : Int → Option Int} (hP : Places n Q f) (hM : MapI W B (upd f x.k n)) (hF : Fr (Foot bq B A) w W) (hA : ∀ g off, A' = some ⟨g, off, none⟩ → A = some ⟨g, off, none⟩ ∨ w.heap.size ≤ g) :
    TMem (W.setCell ⟨bq, 0, none⟩ (.slice A' (n + 1) c')) b bq B A' c' (n + 1) (put Q n x) ∧ Fr (Foot bq B A) w (W.setCell ⟨bq, 0, none⟩ (.slice A' (n + 1) c')) ∧ ∀ k, Foot bq B A' k → Foot bq B A k ∨ w.heap.size ≤ k := by
  have hb := hW.trans h.hq
  have hq2 : (W.setCell ⟨bq, 0, none⟩ (.slice A' (n + 1) c')).heap[bq]? = some (.cells #[.slice A' (n + 1) c', .map (some B)] 55 (0, 0)) := heap_setCell_same W bq 0 _ _ (.slice A' (n + 1) c') hb
  have ho : ∀ k, k ≠ bq → (W.setCell ⟨bq, 0, none⟩ (.slice A' (n + 1) c')).heap[k]? = W.heap[k]? := fun k hk => Below.heap_setCell W _ _ k hk
  have hBq : B ≠ bq := by
    obtain ⟨o, h3, es, cl, l, rfl, _⟩ := hM
    rintro rfl
    rw [hb] at h3
    cases h3
  refine ⟨⟨hq2, own_blocks1 hR fun k hk => ho k ?_, fun j hj => ?_, ⟨_, hM.of (ho B hBq), places_put hP hx⟩, by omega, h.lo.1, h.lo.2.1, ?_⟩, hF.set (Or.inl (Or.inl rfl)) _, Foot.more hA⟩
  · rintro rfl
    obtain ⟨cur, h1⟩ := own_kind hR (own_zero hR hk)
    rw [hb] at h1
    injection h1 with h1
    injection h1 with _ h1
    exact absurd h1 (by decide)
  · by_cases e : j = n
    · rw [e, put_at]; exact hok
    · rw [put_ne _ _ _ e]; exact h.ok j (by omega)
  · have h1 := h.lo.2.2
    have h2 := hF.size
    have h3 : (W.setCell ⟨bq, 0, none⟩ (.slice A' (n + 1) c')).heap.size = W.heap.size := by simp
    omega
theorem Try.asTm (v : Value) (w : World) : (Instr.typeAssert (.iface 33 v) 20 33 false).run Try.prog w = .ok v w := by kernel_rfl

set_option maxRecDepth 100000 in
set_option maxHeartbeats 8000000 in
theorem hpush_fn {w : World} {b bq B : Nat} {A : Option Addr} {c n : Nat} {Q : Nat → TmV} (h : TMem w b bq B A c n Q) (hn : n < 1000) (x : TmV) (hx : ∀ j, j < n → (Q j).k ≠ x.k) (hok : TmOk x) :
    Calls Try.prog 74 #[.pointer (some ⟨bq, 0, none⟩), .iface 33 x.val] w fun e w' => e = .returned (.tuple #[]) ∧ ∃ A' c', TMem w' b bq B A' c' (n + 1) (put Q n x) ∧ Fr (Foot bq B A) w w' ∧ ∀ k, Foot bq B A' k → Foot bq B A k ∨ w.heap.size ≤ k := by
  have mixed : Try.prog.follows .mixedOrders = true := by kernel_rfl
  have H := Lib.hid h
  have hxs := Lib.hid hx
  have hokk := Lib.hid hok
  have hlim : n ≤ 1000 := by omega
  clear h hx hok
  have ta := Try.asTm
  unfold TmV.val
  go_enter Try.func74, Try.ntmps74
  go_wp2_with fail
  have hlt := H.out.lt
  have C1 := cel_new w x _ rfl
  have H1 := Lib.hid (H.out.keep (Keep.one w (.cells #[.int .i64 x.k, .int .i64 x.t, .int .i64 x.a] 33)))
  have F1 : Hid (Fr (Foot bq B A) w (w.alloc (.cells #[.int .i64 x.k, .int .i64 x.t, .int .i64 x.a] 33))) := Fr.of (Keep.one _ _)
  have nB : w.heap.size ≠ B := by omega
  have nq : w.heap.size ≠ bq := by omega
  have sz1 : (w.alloc (.cells #[.int .i64 x.k, .int .i64 x.t, .int .i64 x.a] 33)).heap.size = w.heap.size + 1 := World.size_alloc _ _
  obtain ⟨s0, hs0⟩ : ∃ s0, s0 = w.heap.size := ⟨_, rfl⟩
  rw [← hs0] at C1 nB nq sz1 ⊢
  generalize w.alloc (.cells #[.int .i64 x.k, .int .i64 x.t, .int .i64 x.a] 33) = w1 at *
  have c0 := H1.out.e0
  have c1 := H1.out.e1
  have x0 := C1.e0
  obtain ⟨f, M1, PL⟩ := H1.out.map
  have hlt1 := H1.out.lt
  obtain ⟨o2, O2, E2⟩ := mapI_put M1 x.k n
  have e2a := E2 w1 rfl
  have e2b : (Instr.mapUpdate 51 (.map (some B)) (.int .i64 x.k) (.int .i64 n)).run Try.prog w1.drew = .ok () (setBlock w1 B o2).drew := E2 w1.drew rfl
  have C1' := Lib.hid C1
  replace M1 := Lib.hid M1
  replace PL := Lib.hid PL
  replace O2 := Lib.hid O2
  replace E2 := Lib.hid E2
  replace hs0 := Lib.hid hs0
  replace sz1 := Lib.hid sz1
  replace hlt := Lib.hid hlt
  replace hlt1 := Lib.hid hlt1
  replace nB := Lib.hid nB
  replace nq := Lib.hid nq
  clear C1
  go_wp2_with fail
  go_region
  clear e2a e2b c0 c1 x0
  have n2 : ∀ k, k ≠ B → (setBlock w1 B o2).drew.heap[k]? = w1.heap[k]? := fun k hk => heap_setBlock_ne hk
  have M2 : MapI (setBlock w1 B o2).drew B (upd f x.k n) := ⟨o2, heap_setBlock hlt1.out.2, O2.out⟩
  have sz2 : (setBlock w1 B o2).drew.heap.size = w1.heap.size := by show (setBlock w1 B o2).heap.size = _; simp [setBlock]
  have F2 : Hid (Fr (Foot bq B A) w (setBlock w1 B o2).drew) := (F1.out.put (Or.inl (Or.inr (Or.inl rfl))) o2).drew
  generalize (setBlock w1 B o2).drew = w2 at *
  have hqB : bq ≠ B := H1.out.ne.1
  have hb2 : w2.heap[bq]? = some (.cells #[.slice A n c, .map (some B)] 55 (0, 0)) := (n2 bq hqB).trans H1.out.hq
  have R2 : Hid (w2.ownsRow b 33 3 (.slice A n c) n (tmCs Q n)) := own_blocks1 H1.out.row fun k hk => n2 k (H1.out.ne.2 k 0 (own_zero H1.out.row hk)).2
  have c0 : w2.cell? ⟨bq, 0, none⟩ = some (.slice A n c) := by rw [cell_of_row w2 _ _ _ _ _ hb2]; rfl
  have cc : ∀ t v, w1.cell? ⟨s0, t, none⟩ = some v → w2.cell? ⟨s0, t, none⟩ = some v := fun t v h => (World.cell?_of_block (w := w1) (a := ⟨s0, t, none⟩) (n2 s0 nB.out)).trans h
  have C2 : Cel3 w2 s0 0 x := ⟨cc _ _ C1'.out.e0, cc _ _ C1'.out.e1, cc _ _ C1'.out.e2⟩
  have x0 := C2.e0; have x1 := C2.e1; have x2 := C2.e2
  simp only [Nat.zero_add] at x1 x2
  have hbl : b ≤ w2.heap.size := by rw [sz2]; exact H1.out.lo.2.2
  have ltq2 : bq < w2.heap.size := by rw [sz2]; exact hlt1.out.1
  have ltB2 : B < w2.heap.size := by rw [sz2]; exact hlt1.out.2
  have fz : w2.frozen? ⟨bq, 0, none⟩ = false := frozen_of_row w2 _ _ _ _ hb2
  have hAq : some bq ≠ (Value.slice A n c).ownBlock := fun e => (H1.out.ne.2 bq 0 (own_zero H1.out.row e.symm)).1 rfl
  have hAB : some B ≠ (Value.slice A n c).ownBlock := fun e => (H1.out.ne.2 B 0 (own_zero H1.out.row e.symm)).2 rfl
  clear C2 cc hqB C1' M1 H1 F1
  replace n2 := Lib.hid n2
  replace M2 := Lib.hid M2
  replace sz2 := Lib.hid sz2
  replace hb2 := Lib.hid hb2
  replace hAq := Lib.hid hAq
  replace hAB := Lib.hid hAB
  go_wp2_with fail
  go_region_law (first
    | (refine step_lies rfl (.tmp 22) (.tmp 24) rfl b (.slice A n c) n (tmCs Q n) (by simp [Act.eval]) (own_keep R2.out (by repeat (first | exact Keep.refl _ | apply Keep.alloc | apply Keep.drew))) ⟨w2.heap.size, 0, none⟩ x.cells (by simp [Act.eval]) rfl (tm_news (heap_alloc_new _ _)) (cells_one _) (by omega) (by first | (rw [World.size_alloc]; omega) | (simp; omega)) ?_
       intro g4 c4 w4 hr4 hg4 hl4 hz4
       have d0 : w4.cell? ⟨bq, 0, none⟩ = some (.slice A n c) := World.grownBy.cell hg4 (Keep.cell (w := w2) (by repeat (first | exact Keep.refl _ | apply Keep.alloc | apply Keep.drew)) c0) hAq.out
       have d1 : w4.frozen? ⟨bq, 0, none⟩ = false := by
         rw [hg4.frozen_far ⟨bq, 0, none⟩ (by simp; omega) hAq.out]
         exact (Keep.frozen (w := w2) (by repeat (first | exact Keep.refl _ | apply Keep.alloc | apply Keep.drew)) ltq2).trans fz
       have G4 : Hid (Fr (Foot bq B A) w w4) := by
         refine (F2.out.keep (by repeat (first | exact Keep.refl _ | apply Keep.alloc | apply Keep.drew))).trans (Fr.grown (D := Foot bq B A) hg4 ?_) (fun _ h => Or.inl h)
         intro g hg
         left
         right
         right
         exact ⟨0, own_zero R2.out hg⟩
       have R4 : Hid (w4.ownsRow b 33 3 (.slice (some ⟨g4, 0, none⟩) (n + 1) c4) (n + 1) (tmCs (put Q n x) (n + 1))) := by rw [tmCs_put]; exact hr4
       have q4 : Hid (w4.heap[bq]? = w.heap[bq]?) := by
         refine ((hg4.block bq (by simp; omega) hAq.out).trans ?_).trans (hb2.out.trans H.out.hq.symm)
         exact Below.block (B := w2.heap.size) (w := w2) (by show Keep w2 _; repeat (first | exact Keep.refl _ | apply Keep.alloc | apply Keep.drew)) bq ltq2
       have m4 : Hid (MapI w4 B (upd f x.k n)) := by
         refine M2.out.of ((hg4.block B (by simp; omega) hAB.out).trans ?_)
         exact Below.block (B := w2.heap.size) (w := w2) (by show Keep w2 _; repeat (first | exact Keep.refl _ | apply Keep.alloc | apply Keep.drew)) B ltB2
       have l4 : Hid (∀ g off, (some ⟨g4, 0, none⟩ : Option Addr) = some ⟨g, off, none⟩ → A = some ⟨g, off, none⟩ ∨ w.heap.size ≤ g) := by
         intro g off e
         simp only [Option.some.injEq, Addr.mk.injEq, and_true] at e
         obtain ⟨rfl, rfl⟩ := e
         rcases hl4 with hl4 | hl4
         · left
           exact own_zero R2.out hl4
         · right
           rw [hl4]
           have := sz2.out
           have := sz1.out
           have := hs0.out
           simp
           omega
       replace hr4 := Lib.hid hr4
       replace hg4 := Lib.hid hg4
       replace hl4 := Lib.hid hl4
       replace hz4 := Lib.hid hz4))
  all_goals
    clear x0 x1 x2
    go_wp2
    go_end0
    exact ⟨rfl, some ⟨g4, 0, none⟩, c4, push_end H.out hn hxs.out hokk.out q4.out R4.out PL.out m4.out G4.out l4.out⟩
end Go.Proofs.Ytdjakljkcjadhaa.T9
