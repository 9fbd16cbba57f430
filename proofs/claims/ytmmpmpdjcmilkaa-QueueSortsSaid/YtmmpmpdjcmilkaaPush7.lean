/-
  Push and Pop of a queue's heap: at the end of the list. Condition: fewer than 1000 pods.
-/
import Derived.Test.YtmmpmpdjcmilkaaSwap7
namespace Go.Proofs.Ytmmpmpdjcmilkaa
open Go.RowKit Go.Sort Go.Lib Go.Shelf
open Go.ChangeMaps (setBlock)

theorem Foot.more {bq B : Nat} {A A' : Option Addr} {s : Nat} (h : ∀ g off, A' = some ⟨g, off, none⟩ → A = some ⟨g, off, none⟩ ∨ s ≤ g) : ∀ k, Foot bq B A' k → Foot bq B A k ∨ s ≤ k := by
  rintro k (h1 | h1 | ⟨off, h1⟩)
  · exact Or.inl (Or.inl h1)
  · exact Or.inl (Or.inr (Or.inl h1))
  · rcases h k off h1 with h | h
    · exact Or.inl (Or.inr (Or.inr ⟨off, h⟩))
    · exact Or.inr h
theorem places_put {n : Nat} {Q : Nat → PodV} {f : Int → Option Int} {x : PodV} (h : Places n Q f) (hx : ∀ j, j < n → (Q j).k ≠ x.k) : Places (n + 1) (put Q n x) (upd f x.k n) := by
  intro k v
  unfold upd
  by_cases e : k = x.k
  · rw [if_pos e]
    constructor
    · intro hv
      injection hv with hv
      exact ⟨n, by omega, by rw [put_at]; exact e.symm, hv.symm⟩
    · rintro ⟨j, hj, hk, rfl⟩
      by_cases e2 : j = n
      · rw [e2]
      · rw [put_ne _ _ _ e2] at hk
        exact absurd (hk.trans e) (hx j (by omega))
  · rw [if_neg e, h k v]
    constructor
    · rintro ⟨j, hj, hk, hv⟩
      exact ⟨j, by omega, by rw [put_ne _ _ _ (by omega)]; exact hk, hv⟩
    · rintro ⟨j, hj, hk, hv⟩
      by_cases e2 : j = n
      · rw [e2, put_at] at hk
        exact absurd hk.symm e
      · rw [put_ne _ _ _ e2] at hk
        exact ⟨j, by omega, hk, hv⟩
theorem places_inj {n : Nat} {Q : Nat → PodV} {f : Int → Option Int} (h : Places n Q f) {s t : Nat} (hs : s < n) (ht : t < n) (e : (Q s).k = (Q t).k) : s = t := by
  have h1 := (h (Q s).k s).2 ⟨s, hs, rfl, rfl⟩
  have h2 := (h (Q s).k t).2 ⟨t, ht, e.symm, rfl⟩
  rw [h1] at h2
  injection h2 with h2
  omega
theorem places_del {n : Nat} {Q : Nat → PodV} {f : Int → Option Int} (h : Places (n + 1) Q f) : Places n Q (del f (Q n).k) := by
  intro k v
  unfold del
  by_cases e : k = (Q n).k
  · rw [if_pos e]
    constructor
    · intro hv; cases hv
    · rintro ⟨j, hj, hk, _⟩
      have := places_inj h (s := j) (t := n) (by omega) (by omega) (by rw [hk, e])
      omega
  · rw [if_neg e, h k v]
    constructor
    · rintro ⟨j, hj, hk, hv⟩
      by_cases e2 : j = n
      · exact absurd (by rw [← hk, e2]) e
      · exact ⟨j, by omega, hk, hv⟩
    · rintro ⟨j, hj, hk, hv⟩
      exact ⟨j, by omega, hk, hv⟩
theorem RowP.shrink {w : World} {base n c : Nat} {A : Option Addr} {Q : Nat → PodV} (h : RowP w base (.slice A (n + 1) c) (n + 1) Q) : RowP w base (.slice A n c) n Q := by
  refine ⟨?_, fun j hj => h.own j (by omega), fun j hj => h.ok j (by omega)⟩
  rcases h.row with ⟨h1, ⟨_, h2⟩ | ⟨g, cap, cur, h3, h4, h5, h6, h7, h8, h9⟩⟩
  · omega
  · simp only [Value.slice.injEq] at h3
    obtain ⟨rfl, _, rfl⟩ := h3
    refine ⟨podCs_len _ _, .inr ⟨g, c, cur, rfl, h4, h5, by omega, h7, h8, ?_⟩⟩
    have : (cur.toList.take ((n + 1) * 9)).take (n * 9) = (podCs Q (n + 1)).take (n * 9) := by rw [h9]
    rw [List.take_take, Nat.min_eq_left (by omega)] at this
    rw [this, podCs, List.take_append_of_le_length (by rw [podCs_len]; exact Nat.le_refl _), List.take_of_length_le (by rw [podCs_len]; exact Nat.le_refl _)]
theorem RowP.congr {w : World} {base n : Nat} {v : Value} {Q R : Nat → PodV} (h : RowP w base v n Q) (e : ∀ j, j < n → Q j = R j) : RowP w base v n R :=
  ⟨by rw [← podCs_congr n e]; exact h.row, fun j hj => by rw [← e j hj]; exact h.own j hj, fun j hj => by rw [← e j hj]; exact h.ok j hj⟩
/-- The zero pod. -/
def zpod : PodV := ⟨0, 0, false, 0, none, 0, 0, fun _ => 0, 0, 0, 0, 0⟩
theorem zpod_ok : PodOk zpod := ⟨by show (0 : Nat) ≤ _; omega, fun _ h => absurd h (Nat.not_lt_zero _), fun _ => ⟨rfl, rfl⟩, by unfold I64 zpod; simp⟩
theorem zpod_req (w : World) (b : Nat) : Req w b zpod := World.ownsRow_nil _ _ _ _
theorem zpod_is (w : World) : PodIs w zpod := (zpod_req w 0).is zpod_ok

section
variable {ops : Array Oper} {o : Oper} {a : Act} {w : World} {K : Act → World → Prop} {Q : Exit → Act → World → Prop} {E : Prop}
theorem src_cells {W : World} {k : Nat} {x : PodV} (h : W.heap[k]? = some (.cells #[.int .i64 x.k, .int .i64 x.p, .bool x.f, .int .i64 x.g, .slice x.A x.m x.c, .int .i64 x.a, .int .i64 x.h, .int .i64 x.d, .int .i64 x.t] 32 (0, 0))) : ∀ j u, x.cells[j]? = some u → W.cell? ((⟨k, 0, none⟩ : Addr).add j) = some u := by
  intro j u hu
  rw [WideShapes.add_plain, Nat.zero_add, cell_of_row W k j _ _ _ h, List.getElem?_toArray]
  exact hu
theorem own_zero {w : World} {base n z c g : Nat} {e : TypeId} {A : Option Addr} {xs : List Value} (h : w.ownsRow base e z (.slice A n c) n xs) (hg : (Value.slice A n c).ownBlock = some g) : A = some ⟨g, 0, none⟩ := by
  rcases h.2 with ⟨e, _⟩ | ⟨g', cap, cur, e, _⟩
  · rw [e] at hg; cases hg
  · rw [e] at hg
    simp only [Value.slice.injEq] at e
    rw [e.1]
    have : g' = g := by simpa [Value.ownBlock] using hg
    rw [this]
theorem own_addr {w : World} {base n z c g : Nat} {e : TypeId} {A : Option Addr} {xs : List Value} (h : w.ownsRow base e z (.slice A n c) n xs) (hg : (Value.slice A n c).ownBlock = some g) : ∃ off, A = some ⟨g, off, none⟩ := ⟨0, own_zero h hg⟩
/-- One pod more, at a step of a region that draws: the old row, or a new block. -/
theorem step_lies (hgd : o.guard = none) (s x : Operand) (ho : o.op = .call { callee := .builtin .append, args := #[s, x], argTypes := #[27, 27] })
    (base : Nat) (v : Value) (n : Nat) (xs : List Value) (hs : a.eval s = v) (hown : w.ownsRow base 32 9 v n xs) (ad : Addr) (news : List Value) (hx : a.eval x = .slice (some ad) 1 1) (hl : news.length = 9) (hnews : ∀ j u, news[j]? = some u → w.cell? (ad.add j) = some u) (h1 : ∀ u ∈ news, u.oneCell' = true)
    (hlim : n ≤ 1048576) (hbase : base ≤ w.heap.size)
    (h : ∀ g cap w', w'.ownsRow base 32 9 (.slice (some ⟨g, 0, none⟩) (n + 1) cap) (n + 1) (xs ++ news) → w.grownBy w' v.ownBlock → (v.ownBlock = some g ∨ g = w.heap.size) → g < w'.heap.size → K (a.put o.dst (.slice (some ⟨g, 0, none⟩) (n + 1) cap)) w') :
    if Region.wanted o (yielded ops a.tmps) = true then Oper.wp Try.prog o a w K Q else E := by
  obtain ⟨i0, hi0, hz0, hz1, hz2⟩ := info_parts Try.infoPod
  exact step_append_lies (P := Try.prog) w hgd s x 27 ho base 32 i0 _ 9 88 Try.underlying27 hi0 hz0 hz1 hz2 rfl (by decide) v n xs hs hown ad 1 1 news hx (by rw [hl]) hnews h1 (by omega) (by unfold maxLen; omega) (by omega) hbase _ rfl h
end
/-- The end of Push: the new list is stored. -/
theorem push_end {w W : World} {b0 b1 bq B : Nat} {A A' : Option Addr} {c c' n : Nat} {Q : Nat → PodV} {x : PodV} (h : QMem w b0 b1 bq B A c n Q) (hn : n < 1000) (hx : ∀ j, j < n → (Q j).k ≠ x.k)
    (hW : W.heap[bq]? = w.heap[bq]?) (hR : RowP W b1 (.slice A' (n + 1) c') (n + 1) (put Q n x)) {f : Int → Option Int} (hP : Places n Q f) (hM : MapI W B (upd f x.k n)) (hF : Fr (Foot bq B A) w W) (hA : ∀ g off, A' = some ⟨g, off, none⟩ → A = some ⟨g, off, none⟩ ∨ w.heap.size ≤ g) :
    QMem (W.setCell ⟨bq, 0, none⟩ (.slice A' (n + 1) c')) b0 b1 bq B A' c' (n + 1) (put Q n x) ∧ Fr (Foot bq B A) w (W.setCell ⟨bq, 0, none⟩ (.slice A' (n + 1) c')) ∧ ∀ k, Foot bq B A' k → Foot bq B A k ∨ w.heap.size ≤ k := by
  have hb := hW.trans h.hq
  have hq2 : (W.setCell ⟨bq, 0, none⟩ (.slice A' (n + 1) c')).heap[bq]? = some (.cells #[.slice A' (n + 1) c', .map (some B)] 54 (0, 0)) := heap_setCell_same W bq 0 _ _ (.slice A' (n + 1) c') hb
  have ho : ∀ k, k ≠ bq → (W.setCell ⟨bq, 0, none⟩ (.slice A' (n + 1) c')).heap[k]? = W.heap[k]? := fun k hk => Below.heap_setCell W _ _ k hk
  have hBq : B ≠ bq := by
    obtain ⟨o, h3, es, cl, l, rfl, _⟩ := hM
    rintro rfl
    rw [hb] at h3
    cases h3
  refine ⟨⟨hq2, hR.blocks fun k T hk hT => ho k ?_, ⟨_, hM.of (ho B hBq), places_put hP hx⟩, by omega, h.lo.1, h.lo.2.1, h.lo.2.2.1, ?_⟩, hF.set (Or.inl (Or.inl rfl)) _, Foot.more hA⟩
  · rintro rfl
    obtain ⟨cs, fr, hk⟩ := hk
    rw [hb] at hk
    injection hk with hk
    injection hk with _ hk
    rcases hT with rfl | rfl <;> exact absurd hk (by decide)
  · have h1 := h.lo.2.2.2
    have h2 := hF.size
    have h3 : (W.setCell ⟨bq, 0, none⟩ (.slice A' (n + 1) c')).heap.size = W.heap.size := by simp
    omega
theorem Try.asPod (v : Value) (w : World) : (Instr.typeAssert (.iface 32 v) 20 32 false).run Try.prog w = .ok v w := by kernel_rfl

set_option maxRecDepth 100000 in
set_option maxHeartbeats 8000000 in
theorem hpush_fn {w : World} {b0 b1 bq B : Nat} {A : Option Addr} {c n : Nat} {Q : Nat → PodV} (h : QMem w b0 b1 bq B A c n Q) (hn : n < 1000) (x : PodV) (hx : ∀ j, j < n → (Q j).k ≠ x.k) (hr : Req w b1 x) (hok : PodOk x) :
    Calls Try.prog 74 #[.pointer (some ⟨bq, 0, none⟩), .iface 32 x.val] w fun e w' => e = .returned (.tuple #[]) ∧ ∃ A' c', QMem w' b0 b1 bq B A' c' (n + 1) (put Q n x) ∧ Fr (Foot bq B A) w w' ∧ ∀ k, Foot bq B A' k → Foot bq B A k ∨ w.heap.size ≤ k := by
  have mixed : Try.prog.follows .mixedOrders = true := by kernel_rfl
  have H := Lib.hid h
  have hxs := Lib.hid hx
  have hrq := Lib.hid hr
  have hokk := Lib.hid hok
  have hlim : n ≤ 1000 := by omega
  clear h hx hr hok
  have ta := Try.asPod
  unfold PodV.val
  go_enter Try.func74, Try.ntmps74
  go_wp2_with fail
  have hlt := H.out.lt
  have C1 := Cel9.new w x 32 _ rfl
  have H1 := Lib.hid (H.out.keep (Keep.one w (.cells #[.int .i64 x.k, .int .i64 x.p, .bool x.f, .int .i64 x.g, .slice x.A x.m x.c, .int .i64 x.a, .int .i64 x.h, .int .i64 x.d, .int .i64 x.t] 32)))
  have hrq1 : Hid (Req (w.alloc (.cells #[.int .i64 x.k, .int .i64 x.p, .bool x.f, .int .i64 x.g, .slice x.A x.m x.c, .int .i64 x.a, .int .i64 x.h, .int .i64 x.d, .int .i64 x.t] 32)) b1 x) := own_keep hrq.out (Keep.one w _)
  have F1 : Hid (Fr (Foot bq B A) w (w.alloc (.cells #[.int .i64 x.k, .int .i64 x.p, .bool x.f, .int .i64 x.g, .slice x.A x.m x.c, .int .i64 x.a, .int .i64 x.h, .int .i64 x.d, .int .i64 x.t] 32))) := Fr.of (Keep.one _ _)
  have nB : w.heap.size ≠ B := by omega
  have nq : w.heap.size ≠ bq := by omega
  have sz1 : (w.alloc (.cells #[.int .i64 x.k, .int .i64 x.p, .bool x.f, .int .i64 x.g, .slice x.A x.m x.c, .int .i64 x.a, .int .i64 x.h, .int .i64 x.d, .int .i64 x.t] 32)).heap.size = w.heap.size + 1 := World.size_alloc _ _
  obtain ⟨s0, hs0⟩ : ∃ s0, s0 = w.heap.size := ⟨_, rfl⟩
  rw [← hs0] at C1 nB nq sz1 ⊢
  generalize w.alloc (.cells #[.int .i64 x.k, .int .i64 x.p, .bool x.f, .int .i64 x.g, .slice x.A x.m x.c, .int .i64 x.a, .int .i64 x.h, .int .i64 x.d, .int .i64 x.t] 32) = w1 at *
  have c0 := H1.out.e0
  have c1 := H1.out.e1
  have x0 := C1.e0
  obtain ⟨f, M1, PL⟩ := H1.out.map
  have hlt1 := H1.out.lt
  obtain ⟨o2, O2, E2⟩ := mapI_put M1 x.k n
  have e2a := E2 w1 rfl
  have e2b : (Instr.mapUpdate 50 (.map (some B)) (.int .i64 x.k) (.int .i64 n)).run Try.prog w1.drew = .ok () (setBlock w1 B o2).drew := E2 w1.drew rfl
  have C1' := Lib.hid C1
  replace M1 := Lib.hid M1
  replace PL := Lib.hid PL
  replace O2 := Lib.hid O2
  replace E2 := Lib.hid E2
  replace hs0 := Lib.hid hs0
  replace sz1 := Lib.hid sz1
  replace hlt := Lib.hid hlt
  replace hlt1 := Lib.hid hlt1
  replace nB := Lib.hid nB
  replace nq := Lib.hid nq
  clear C1
  go_wp2_with fail
  go_region
  clear e2a e2b c0 c1 x0
  have n2 : ∀ k, k ≠ B → (setBlock w1 B o2).drew.heap[k]? = w1.heap[k]? := fun k hk => heap_setBlock_ne hk
  have M2 : MapI (setBlock w1 B o2).drew B (upd f x.k n) := ⟨o2, heap_setBlock hlt1.out.2, O2.out⟩
  have sz2 : (setBlock w1 B o2).drew.heap.size = w1.heap.size := by show (setBlock w1 B o2).heap.size = _; simp [setBlock]
  have F2 : Hid (Fr (Foot bq B A) w (setBlock w1 B o2).drew) := (F1.out.put (Or.inl (Or.inr (Or.inl rfl))) o2).drew
  generalize (setBlock w1 B o2).drew = w2 at *
  have hqB : bq ≠ B := by
    obtain ⟨om, h1, es, cl, l, rfl, _⟩ := M1.out
    rintro rfl
    rw [H1.out.hq] at h1
    cases h1
  have hb2 : w2.heap[bq]? = some (.cells #[.slice A n c, .map (some B)] 54 (0, 0)) := (n2 bq hqB).trans H1.out.hq
  have R2 : Hid (RowP w2 b1 (.slice A n c) n Q) := H1.out.row.blocks fun k T hk _ => n2 k (by
    rintro rfl
    obtain ⟨cs, fr, hk⟩ := hk
    obtain ⟨om, h1, es, cl, l, rfl, _⟩ := M1.out
    rw [h1] at hk
    cases hk)
  have rq2 : Hid (Req w2 b1 x) := by
    refine World.ownsRow.kept (row := some B) hrq1.out ⟨?_, ?_, ?_, by rw [sz2]; exact Nat.le_refl _, fun k _ hk => n2 k (fun e => hk (by rw [e]))⟩ ?_
    · exact F2.out.os.trans F1.out.os.symm
    · exact F2.out.tape.trans F1.out.tape.symm
    · exact F2.out.output.trans F1.out.output.symm
    · cases hv : (Value.slice x.A x.m x.c).ownBlock with
      | none => exact Or.inl rfl
      | some g =>
        right
        intro e
        obtain ⟨cur, h1⟩ := row_kind hrq1.out hv
        obtain ⟨om, h2, es, cl, l, rfl, _⟩ := M1.out
        rw [Option.some.inj e, h2] at h1
        cases h1
  have c0 : w2.cell? ⟨bq, 0, none⟩ = some (.slice A n c) := by rw [cell_of_row w2 _ _ _ _ _ hb2]; rfl
  have cc : ∀ t v, w1.cell? ⟨s0, t, none⟩ = some v → w2.cell? ⟨s0, t, none⟩ = some v := fun t v h => (World.cell?_of_block (w := w1) (a := ⟨s0, t, none⟩) (n2 s0 nB.out)).trans h
  have C2 : Cel9 w2 s0 0 x := ⟨cc _ _ C1'.out.e0, cc _ _ C1'.out.e1, cc _ _ C1'.out.e2, cc _ _ C1'.out.e3, cc _ _ C1'.out.e4, cc _ _ C1'.out.e5, cc _ _ C1'.out.e6, cc _ _ C1'.out.e7, cc _ _ C1'.out.e8⟩
  have x0 := C2.e0; have x1 := C2.e1; have x2 := C2.e2; have x3 := C2.e3; have x4 := C2.e4; have x5 := C2.e5; have x6 := C2.e6; have x7 := C2.e7; have x8 := C2.e8
  simp only [Nat.zero_add] at x1 x2 x3 x4 x5 x6 x7 x8
  have hbl : b1 ≤ w2.heap.size := by rw [sz2]; exact H1.out.lo.2.2.2
  have ltq2 : bq < w2.heap.size := by rw [sz2]; exact hlt1.out.1
  clear C2 cc hqB C1' M1 H1 F1 hrq1
  replace n2 := Lib.hid n2
  replace M2 := Lib.hid M2
  replace sz2 := Lib.hid sz2
  replace hb2 := Lib.hid hb2
  go_wp2_with fail
  have hAq : some bq ≠ (Value.slice A n c).ownBlock := by
    intro e
    obtain ⟨cur, h1⟩ := row_kind R2.out.row e.symm
    rw [hb2.out] at h1
    injection h1 with h1
    injection h1 with _ h1
    exact absurd h1 (by decide)
  have hAB : some B ≠ (Value.slice A n c).ownBlock := by
    intro e
    obtain ⟨cur, h1⟩ := row_kind R2.out.row e.symm
    obtain ⟨om, h2, es, cl, l, rfl, _⟩ := M2.out
    rw [h2] at h1
    cases h1
  have ltB2 : B < w2.heap.size := by rw [sz2.out]; exact hlt1.out.2
  have fz : w2.frozen? ⟨bq, 0, none⟩ = false := frozen_of_row w2 _ _ _ _ hb2.out
  replace hAq := Lib.hid hAq
  replace hAB := Lib.hid hAB
  go_region_law (first
    | (refine step_lies rfl (.tmp 22) (.tmp 24) rfl b1 (.slice A n c) n (podCs Q n) (by simp [Act.eval]) (own_keep R2.out.row (by repeat (first | exact Keep.refl _ | apply Keep.alloc | apply Keep.drew))) ⟨w2.heap.size, 0, none⟩ x.cells (by simp [Act.eval]) rfl (src_cells (heap_alloc_new _ _)) (cells_one _) (by omega) (by first | (rw [World.size_alloc]; omega) | (simp; omega)) ?_
       intro g4 c4 w4 hr4 hg4 hl4 hz4
       have d0 : w4.cell? ⟨bq, 0, none⟩ = some (.slice A n c) := World.grownBy.cell hg4 (Keep.cell (w := w2) (by repeat (first | exact Keep.refl _ | apply Keep.alloc | apply Keep.drew)) c0) hAq.out
       have d1 : w4.frozen? ⟨bq, 0, none⟩ = false := by
         rw [hg4.frozen_far ⟨bq, 0, none⟩ (by simp; omega) hAq.out]
         exact (Keep.frozen (w := w2) (by repeat (first | exact Keep.refl _ | apply Keep.alloc | apply Keep.drew)) ltq2).trans fz
       have G4 : Hid (Fr (Foot bq B A) w w4) := by
         refine (F2.out.keep (by repeat (first | exact Keep.refl _ | apply Keep.alloc | apply Keep.drew))).trans (Fr.grown (D := Foot bq B A) hg4 ?_) (fun _ h => Or.inl h)
         intro g hg
         left
         right
         right
         exact own_addr R2.out.row hg
       have R4 : Hid (RowP w4 b1 (.slice (some ⟨g4, 0, none⟩) (n + 1) c4) (n + 1) (put Q n x)) := (R2.out.keep (by repeat (first | exact Keep.refl _ | apply Keep.alloc | apply Keep.drew))).more (own_keep rq2.out (by repeat (first | exact Keep.refl _ | apply Keep.alloc | apply Keep.drew))) hokk.out hr4 hg4
       have q4 : Hid (w4.heap[bq]? = w.heap[bq]?) := by
         refine ((hg4.block bq (by simp; omega) hAq.out).trans ?_).trans (hb2.out.trans H.out.hq.symm)
         exact Below.block (B := w2.heap.size) (w := w2) (by show Keep w2 _; repeat (first | exact Keep.refl _ | apply Keep.alloc | apply Keep.drew)) bq ltq2
       have m4 : Hid (MapI w4 B (upd f x.k n)) := by
         refine M2.out.of ((hg4.block B (by simp; omega) hAB.out).trans ?_)
         exact Below.block (B := w2.heap.size) (w := w2) (by show Keep w2 _; repeat (first | exact Keep.refl _ | apply Keep.alloc | apply Keep.drew)) B ltB2
       have l4 : Hid (∀ g off, (some ⟨g4, 0, none⟩ : Option Addr) = some ⟨g, off, none⟩ → A = some ⟨g, off, none⟩ ∨ w.heap.size ≤ g) := by
         intro g off e
         simp only [Option.some.injEq, Addr.mk.injEq, and_true] at e
         obtain ⟨rfl, rfl⟩ := e
         rcases hl4 with hl4 | hl4
         · left
           exact own_zero R2.out.row hl4
         · right
           rw [hl4]
           have := sz2.out
           have := sz1.out
           have := hs0.out
           simp
           omega
       replace hr4 := Lib.hid hr4
       replace hg4 := Lib.hid hg4
       replace hl4 := Lib.hid hl4
       replace hz4 := Lib.hid hz4))
  all_goals
    clear x0 x1 x2 x3 x4 x5 x6 x7 x8
    go_wp2
    go_end0
    exact ⟨rfl, some ⟨g4, 0, none⟩, c4, push_end H.out hn hxs.out q4.out R4.out PL.out m4.out G4.out l4.out⟩
end Go.Proofs.Ytmmpmpdjcmilkaa
