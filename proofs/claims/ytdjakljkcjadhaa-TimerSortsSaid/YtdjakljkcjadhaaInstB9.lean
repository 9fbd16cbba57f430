/-
  Set, Cancel, All, Due of a list of timers. Conditions: fewer than 1000 timers ahead of a Set.
-/
import Derived.Test.YtdjakljkcjadhaaInst9
namespace Go.Proofs.Ytdjakljkcjadhaa.T9
open Go.RowKit Go.Sort Go.Lib Go.Shelf

set_option maxHeartbeats 1000000 in
theorem tset_nil (w : World) (x : TmV) : Calls Try.prog 15 #[.pointer none, x.val] w fun e w' => e = .returned (.bool false) ∧ Keep w w' := by
  unfold TmV.val
  go_enter Try.func15, Try.ntmps15
  go_wp2
  go_ret
  exact ⟨rfl, Keep.one _ _⟩

set_option maxRecDepth 100000 in
set_option maxHeartbeats 4000000 in
theorem tset_there {w : World} {b bq : Nat} {D : Nat → Prop} {L : List TmV} {x : TmV} (h : TI w b bq D L) (hk : x.k ∈ T9.keys L) :
    Calls Try.prog 15 #[.pointer (some ⟨bq, 0, none⟩), x.val] w fun e w' => e = .returned (.bool false) ∧ Keep w w' ∧ TI w' b bq D L := by
  have mixed : Try.prog.follows .mixedOrders = true := by kernel_rfl
  have H := Lib.hid (h.keep (Keep.one w (.cells #[.int .i64 x.k, .int .i64 x.t, .int .i64 x.a] 33)))
  have K1 : Hid (Keep w (w.alloc (.cells #[.int .i64 x.k, .int .i64 x.t, .int .i64 x.a] 33))) := Keep.one _ _
  have X := cel_new w x (.cells #[.int .i64 x.k, .int .i64 x.t, .int .i64 x.a] 33) rfl
  clear h
  have hk := Lib.hid hk
  unfold TmV.val
  go_enter Try.func15, Try.ntmps15
  go_wp2_with fail
  obtain ⟨s0, hs0⟩ : ∃ s0, s0 = w.heap.size := ⟨_, rfl⟩
  rw [← hs0] at X ⊢
  replace hs0 := Lib.hid hs0
  generalize w.alloc (.cells #[.int .i64 x.k, .int .i64 x.t, .int .i64 x.a] 33) = w1 at *
  have x0 := X.e0; have x1 := X.e1; have x2 := X.e2
  simp only [Nat.zero_add] at x1 x2
  clear X
  obtain ⟨B, A, c, n, Q, f, h1, hD, h2, h3, hf, hP, hi⟩ := H.out.map x.k
  have c1 := h1.e1
  have ml := mapI_look2 (w := w1.drew) (hf.of rfl) x.k
  rw [hi] at ml
  replace h3 := Lib.hid h3
  replace h2 := Lib.hid h2
  replace hD := Lib.hid hD
  replace hP := Lib.hid hP
  replace hf := Lib.hid hf
  replace hi := Lib.hid hi
  clear h1
  rw [decide_eq_true hk.out] at ml
  go_region
  go_wp2
  go_ret
  exact ⟨rfl, K1.out.drew, H.out.keep (Keep.refl _).drew⟩

set_option maxRecDepth 100000 in
set_option maxHeartbeats 4000000 in
theorem tset_new {w : World} {b bq : Nat} {D : Nat → Prop} {L : List TmV} {x : TmV} (h : TI w b bq D L) (hx : TmOk x) (hl : L.length < 1000) (hk : x.k ∉ T9.keys L) :
    Calls Try.prog 15 #[.pointer (some ⟨bq, 0, none⟩), x.val] w fun e w' => e = .returned (.bool true) ∧ ∃ D', TI w' b bq D' (insL x L) ∧ Fr D w w' ∧ ∀ k, D' k → D k ∨ w.heap.size ≤ k := by
  have mixed : Try.prog.follows .mixedOrders = true := by kernel_rfl
  have H := Lib.hid (h.keep (Keep.one w (.cells #[.int .i64 x.k, .int .i64 x.t, .int .i64 x.a] 33)))
  have K1 : Hid (Keep w (w.alloc (.cells #[.int .i64 x.k, .int .i64 x.t, .int .i64 x.a] 33))) := Keep.one _ _
  have X := cel_new w x (.cells #[.int .i64 x.k, .int .i64 x.t, .int .i64 x.a] 33) rfl
  clear h
  have hk := Lib.hid hk
  have hok := Lib.hid hx
  clear hx
  unfold TmV.val
  go_enter Try.func15, Try.ntmps15
  go_wp2_with fail
  obtain ⟨s0, hs0⟩ : ∃ s0, s0 = w.heap.size := ⟨_, rfl⟩
  rw [← hs0] at X ⊢
  replace hs0 := Lib.hid hs0
  generalize w.alloc (.cells #[.int .i64 x.k, .int .i64 x.t, .int .i64 x.a] 33) = w1 at *
  have x0 := X.e0; have x1 := X.e1; have x2 := X.e2
  simp only [Nat.zero_add] at x1 x2
  clear X
  obtain ⟨B, A, c, n, Q, f, h1, hD, h2, h3, hf, hP, hi⟩ := H.out.map x.k
  have c1 := h1.e1
  have ml := mapI_look2 (w := w1.drew) (hf.of rfl) x.k
  rw [hi] at ml
  replace h3 := Lib.hid h3
  replace h2 := Lib.hid h2
  replace hD := Lib.hid hD
  replace hP := Lib.hid hP
  replace hf := Lib.hid hf
  replace hi := Lib.hid hi
  rw [decide_eq_false hk.out] at ml
  have hn : n < 1000 := by rw [← TI.len_eq h3.out]; exact hl
  have hnew : ∀ t, t < n → (Q t).k ≠ x.k := fun t ht e => hk.out (by
    unfold keys
    rw [← (h3.out.map (·.k)).mem_iff]
    exact List.mem_map.2 ⟨Q t, lst_mem.2 ⟨t, ht, rfl⟩, e⟩)
  go_region
  have T2 : TM b bq D w1.drew n Q := ⟨B, A, c, h1.keep (Keep.refl _).drew, hD.out⟩
  have K2 : Hid (Keep w w1.drew) := K1.out.drew
  have x0 : w1.drew.cell? ⟨s0, 0, none⟩ = some (.int .i64 x.k) := x0
  have x1 : w1.drew.cell? ⟨s0, 1, none⟩ = some (.int .i64 x.t) := x1
  have x2 : w1.drew.cell? ⟨s0, 2, none⟩ = some (.int .i64 x.a) := x2
  clear c1 ml
  have H2 := Lib.hid (H.out.keep (Keep.refl w1).drew)
  have h1' := Lib.hid h1
  clear h1
  generalize w1.drew = w2 at *
  have cP := fun W (k : Keep w2 W) => heappush_fn (heapC b bq) ((heapC b bq).keep T2 k) h2.out hn x hnew hok.out
  unfold TmV.val at cP
  replace cP := Lib.hid cP
  replace hnew := Lib.hid hnew
  replace T2 := Lib.hid T2
  go_wp2_with fail
  go_region_with (go_at_call 27; refine (cP.out _ (by first | exact Keep.refl _ | exact (Keep.refl _).drew)).mono ?_; rintro e w3 ⟨rfl, D', Q3, H3, HQ, P3, F3, N3⟩; replace H3 := Lib.hid H3; replace HQ := Lib.hid HQ; replace P3 := Lib.hid P3; replace F3 := Lib.hid F3; replace N3 := Lib.hid N3)
  all_goals
    clear x0 x1 x2
    go_wp2
    go_ret
    refine ⟨rfl, D', ⟨n + 1, Q3, H3.out, HQ.out, P3.out.trans ((h3.out.cons x).trans (ins_perm x L).symm), ?_, ?_⟩, Fr.after K2.out (Fr.after (by first | exact Keep.refl _ | exact (Keep.refl _).drew) F3.out), fun k hk => ?_⟩
    · exact ins_sorted (by obtain ⟨_, _, _, _, _, s, _⟩ := H2.out; exact s) hk.out
    · exact ins_keys (by obtain ⟨_, _, _, _, _, _, s⟩ := H2.out; exact s) hk.out
    · rcases N3.out k hk with h | h
      · exact Or.inl h
      · right
        have := K2.out.size
        have h : w2.heap.size ≤ k := h
        omega
end Go.Proofs.Ytdjakljkcjadhaa.T9
