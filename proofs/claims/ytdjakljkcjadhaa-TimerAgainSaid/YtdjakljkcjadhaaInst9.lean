/-
  The functions of the list of timers keep what the laws ask. No condition.
-/
import Derived.Test.YtdjakljkcjadhaaSort9
import Derived.Test.YtdjakljkcjadhaaPop9
import Derived.Test.YtdjakljkcjadhaaHeaps9
import Derived.Test.YtdjakljkcjadhaaCon9
import Derived.BigQuiet
namespace Go.Proofs.Ytdjakljkcjadhaa.T9
open Go.RowKit Go.Sort Go.Lib Go.Shelf

def TM (b bq : Nat) (D : Nat → Prop) (w : World) (n : Nat) (Q : Nat → TmV) : Prop := ∃ B A c, TMem w b bq B A c n Q ∧ D = Foot bq B A
theorem heapC (b bq : Nat) : HeapC bq (TM b bq) where
  keep := fun ⟨B, A, c, h, e⟩ k => ⟨B, A, c, h.keep k, e⟩
  lim := fun ⟨_, _, _, h, _⟩ => h.lim
  len := fun ⟨_, _, _, h, _⟩ => hlen_fn h
  less := fun ⟨_, _, _, h, _⟩ i j hi hj => hless_fn h i j hi hj
  swap := fun {D w n Q} ⟨B, A, c, h, e⟩ i j hi hj => by
    subst e
    exact (hswap_fn h i j hi hj).mono fun _ _ ⟨h1, h2, h3⟩ => ⟨h1, ⟨B, A, c, h2, rfl⟩, h3⟩
  push := fun {D w n Q} ⟨B, A, c, h, e⟩ hn x hx hok => by
    subst e
    exact (hpush_fn h hn x hx hok).mono fun _ _ ⟨h1, A', c', h2, h3, h4⟩ => ⟨h1, Foot bq B A', ⟨B, A', c', h2, rfl⟩, h3, h4⟩
  pop := fun {D w n Q} ⟨B, A, c, h, e⟩ => by
    subst e
    exact (hpop_fn h).mono fun _ _ ⟨h1, h2, h3⟩ => ⟨h1, ⟨B, A, c, h2, rfl⟩, h3⟩

/-- The list at block bq holds the timers L. -/
def TI (w : World) (b bq : Nat) (D : Nat → Prop) (L : List TmV) : Prop := ∃ n Q, TM b bq D w n Q ∧ HeapQ Q n ∧ (lst Q n).Perm L ∧ Srt L ∧ (keys L).Nodup
section
variable {w w' : World} {b bq : Nat} {D : Nat → Prop} {L : List TmV}
theorem TI.keep (h : TI w b bq D L) (k : Keep w w') : TI w' b bq D L := by
  obtain ⟨n, Q, ⟨B, A, c, h1, e⟩, h2⟩ := h
  exact ⟨n, Q, ⟨B, A, c, h1.keep k, e⟩, h2⟩
theorem TI.len_eq {n : Nat} {Q : Nat → TmV} (p : (lst Q n).Perm L) : L.length = n := by rw [← p.length_eq, lst_len]
/-- The first of the heap is the first of the list. -/
theorem head_is {n : Nat} {Q : Nat → TmV} (hQ : HeapQ Q (n + 1)) (p : (lst Q (n + 1)).Perm L) (s : Srt L) : Q 0 = row L 0 := by
  cases L with
  | nil => have := p.length_eq; rw [lst_len] at this; cases this
  | cons x L =>
    show Q 0 = x
    have h0 : Q 0 ∈ x :: L := p.mem_iff.1 (lst_mem.2 ⟨0, by omega, rfl⟩)
    rcases List.mem_cons.1 h0 with h | h
    · exact h
    · obtain ⟨j, hj, e⟩ := lst_mem.1 (p.mem_iff.2 (List.mem_cons_self (a := x) (l := L)))
      have h1 := hQ.min j hj
      rw [e] at h1
      unfold Srt at s
      rw [List.pairwise_cons] at s
      rw [s.1 _ h] at h1
      cases h1
theorem TI.map (h : TI w b bq D L) (id : Int) : ∃ B A c n Q f, TMem w b bq B A c n Q ∧ D = Foot bq B A ∧ HeapQ Q n ∧ (lst Q n).Perm L ∧ MapI w B f ∧ Places n Q f ∧ (f id).isSome = decide (id ∈ keys L) := by
  obtain ⟨n, Q, ⟨B, A, c, h1, e⟩, h2, h3, _, _⟩ := h
  obtain ⟨f, hf, hP⟩ := h1.map
  refine ⟨B, A, c, n, Q, f, h1, e, h2, h3, hf, hP, ?_⟩
  have h6 : id ∈ keys L ↔ ∃ j, j < n ∧ (Q j).k = id := by
    unfold keys
    rw [← (h3.map (·.k)).mem_iff]
    unfold lst
    simp
  cases e : f id with
  | none =>
    symm
    simp only [Option.isSome_none, decide_eq_false_iff_not]
    rw [h6]
    rintro ⟨j, hj, hk⟩
    rw [(hP id j).2 ⟨j, hj, hk, rfl⟩] at e
    cases e
  | some v =>
    symm
    simp only [Option.isSome_some, decide_eq_true_eq]
    rw [h6]
    obtain ⟨j, hj, hk, _⟩ := (hP id v).1 e
    exact ⟨j, hj, hk⟩
end

set_option maxHeartbeats 1000000 in
theorem tnew_fn (w : World) : Calls Try.prog 8 #[] w fun e w' => ∃ bq, e = .returned (.pointer (some ⟨bq, 0, none⟩)) ∧ Keep w w' ∧ ∃ D, TI w' w.heap.size bq D [] := by
  have hmm := @run_makeMap Try.prog
  go_enter Try.func8, Try.ntmps8
  go_wp2
  go_ret
  refine ⟨_, rfl, (Keep.one _ _).alloc _, Foot (w.heap.size + 1) w.heap.size none, 0, fun _ => zt, ⟨w.heap.size, none, 0, ⟨?_, World.ownsRow_nil _ _ _ _, fun _ h => absurd h (Nat.not_lt_zero _), ⟨fun _ => none, ?_, ?_⟩, by omega, by omega, by omega, ?_⟩, rfl⟩, fun k h1 h2 => by omega, List.Perm.refl _, List.Pairwise.nil, List.nodup_nil⟩
  · have := heap_alloc_new (w.alloc (.map #[] 0)) (.cells #[.slice none 0 0, .map (some w.heap.size)] 55)
    rwa [World.size_alloc] at this
  · exact (mapI_new w).of (Below.block (Keep.one (w.alloc (.map #[] 0)) (.cells #[.slice none 0 0, .map (some w.heap.size)] 55)) _ (by rw [World.size_alloc]; omega))
  · intro k v
    constructor
    · intro h; cases h
    · rintro ⟨j, h, _⟩; omega
  · simp
    omega

set_option maxHeartbeats 1000000 in
theorem tlen_fn {w : World} {b bq : Nat} {D : Nat → Prop} {L : List TmV} (h : TI w b bq D L) : Calls Try.prog 14 #[.pointer (some ⟨bq, 0, none⟩)] w fun e w' => e = .returned (.int .i64 L.length) ∧ w = w' := by
  obtain ⟨n, Q, ⟨B, A, c, h1, _⟩, _, p, _, _⟩ := h
  rw [TI.len_eq p]
  have cL := Lib.hid (hlen_fn h1)
  clear h1 p
  go_enter Try.func14, Try.ntmps14
  go_wp2_with fail
  refine cL.out.mono ?_
  rintro e w1 ⟨rfl, rfl⟩
  go_wp2
  go_ret
  exact ⟨rfl, rfl⟩
set_option maxHeartbeats 1000000 in
theorem tlen_nil (w : World) : Calls Try.prog 14 #[.pointer none] w fun e w' => e = .returned (.int .i64 0) ∧ w = w' := by
  go_enter Try.func14, Try.ntmps14
  go_wp2
  go_ret
  exact ⟨rfl, rfl⟩

set_option maxHeartbeats 2000000 in
theorem tnext_fn {w : World} {b bq : Nat} {D : Nat → Prop} {L : List TmV} (h : TI w b bq D L) : Calls Try.prog 11 #[.pointer (some ⟨bq, 0, none⟩)] w fun e w' => e = .returned (.tuple #[(row L 0).val, .bool (decide (L ≠ []))]) ∧ Keep w w' := by
  have cL : ∀ W, Keep w W → Calls Try.prog 14 #[.pointer (some ⟨bq, 0, none⟩)] W fun e w' => e = .returned (.int .i64 L.length) ∧ W = w' := fun W k => tlen_fn (h.keep k)
  replace cL := Lib.hid cL
  obtain ⟨n, Q, ⟨B, A, c, h1, _⟩, h2, p, s, _⟩ := h
  have hl := TI.len_eq p
  rw [hl] at cL
  cases n with
  | zero =>
    have : L = [] := List.length_eq_zero_iff.1 hl
    subst this
    clear h1 h2 p s hl
    go_enter Try.func11, Try.ntmps11
    go_wp2_with fail
    refine (cL.out _ (Keep.one _ _)).mono ?_
    rintro e w1 ⟨rfl, rfl⟩
    go_wp2
    refine bodyPost_ret (v := .tuple #[.agg #[.int .i64 0, .int .i64 0, .int .i64 0], .bool false]) (by simp [results, Try.results11, go_sem, *]) rfl ⟨rfl, ?_⟩
    repeat (refine Keep.set ?_ (by simp) _)
    exact Keep.one _ _
  | succ n =>
    have hn : L ≠ [] := by rintro rfl; cases hl
    rw [← head_is h2 p s, decide_eq_true hn]
    obtain ⟨g, rfl, hg⟩ := h1.at (by omega)
    have c0 := (h1.keep (Keep.one w (.cells #[.int .i64 0, .int .i64 0, .int .i64 0] 33))).e0
    have X := ((hg 0 (by omega)).1).keep (Keep.one w (.cells #[.int .i64 0, .int .i64 0, .int .i64 0] 33))
    have q1 := atT g 0 (n + 1) c 0 (by omega)
    rw [Nat.zero_add] at q1
    have hlim := h1.lim
    clear hg h1 h2 p s hl hn
    generalize Q 0 = x at X ⊢
    simp only [Nat.zero_mul] at X q1
    have x0 := X.e0; have x1 := X.e1; have x2 := X.e2
    simp only [Nat.zero_add] at x1 x2
    clear X
    unfold TmV.val
    go_enter Try.func11, Try.ntmps11
    go_wp2_with fail
    refine (cL.out _ (Keep.one _ _)).mono ?_
    rintro e w1 ⟨rfl, rfl⟩
    go_wp2
    refine bodyPost_ret (v := .tuple #[.agg #[.int .i64 x.k, .int .i64 x.t, .int .i64 x.a], .bool true]) (by simp [results, Try.results11, go_sem, *]) rfl ⟨rfl, ?_⟩
    repeat (refine Keep.set ?_ (by simp) _)
    exact Keep.one _ _
end Go.Proofs.Ytdjakljkcjadhaa.T9
