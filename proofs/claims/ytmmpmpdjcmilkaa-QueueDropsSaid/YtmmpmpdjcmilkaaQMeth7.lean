/-
  The methods of a queue but Push. No condition.
-/
import Derived.Test.YtmmpmpdjcmilkaaQInv7
import Derived.Deep.RegionLaw
namespace Go.Proofs.Ytmmpmpdjcmilkaa
open Go.RowKit Go.Sort Go.Lib Go.Shelf

theorem places_none (Q : Nat → PodV) : Places 0 Q fun _ => none := by
  intro k v
  constructor
  · intro h; cases h
  · rintro ⟨j, h, _⟩; omega
set_option maxHeartbeats 1000000 in
theorem qnew_fn (w : World) : Calls Try.prog 8 #[] w fun e w' => ∃ bq, e = .returned (.pointer (some ⟨bq, 0, none⟩)) ∧ Keep w w' ∧ ∀ b1 w2, w.heap.size ≤ b1 → Keep w' w2 → b1 ≤ w2.heap.size → ∃ D, QInv w2 w.heap.size b1 bq D [] ∧ ∀ k, D k → k < w'.heap.size := by
  have hmm := @run_makeMap Try.prog
  go_enter Try.func8, Try.ntmps8
  go_wp2
  go_ret
  refine ⟨_, rfl, (Keep.one _ _).alloc _, fun b1 w2 hb k hl => ⟨Foot (w.heap.size + 1) w.heap.size none, ⟨w.heap.size, none, 0, 0, fun _ => zpod, ⟨?_, RowP.nil _ _ _, ⟨fun _ => none, ?_, places_none _⟩, by omega, by omega, by omega, hb, hl⟩, fun k h1 h2 => by omega, List.Perm.refl _, rfl, fun x h => by cases h⟩, ?_⟩⟩
  · refine k.block ?_
    have := heap_alloc_new (w.alloc (.map #[] 0)) (.cells #[.slice none 0 0, .map (some w.heap.size)] 54)
    rwa [World.size_alloc] at this
  · exact (mapI_new w).of (Below.block ((Keep.one (w.alloc (.map #[] 0)) (.cells #[.slice none 0 0, .map (some w.heap.size)] 54)).trans k) _ (by rw [World.size_alloc]; omega))
  · rintro k (h | h | ⟨off, h⟩)
    · simp; omega
    · simp; omega
    · cases h

set_option maxHeartbeats 1000000 in
theorem qlen_fn {w : World} {b0 b1 bq : Nat} {D : Nat → Prop} {L : List PodV} (h : QInv w b0 b1 bq D L) : Calls Try.prog 12 #[.pointer (some ⟨bq, 0, none⟩)] w fun e w' => e = .returned (.int .i64 L.length) ∧ w = w' := by
  obtain ⟨B, A, c, n, Q, h1, h2, h3, rfl, h5⟩ := h
  have e : L.length = n := by rw [← h3.length_eq, List.length_map, lst_len]
  rw [e]
  have cL := Lib.hid (hlen_fn h1)
  clear h1 h2 h3 h5 e
  go_enter Try.func12, Try.ntmps12
  go_wp2_with fail
  refine cL.out.mono ?_
  rintro e w1 ⟨rfl, rfl⟩
  go_wp2
  go_ret
  exact ⟨rfl, rfl⟩
set_option maxHeartbeats 1000000 in
theorem qlen_nil (w : World) : Calls Try.prog 12 #[.pointer none] w fun e w' => e = .returned (.int .i64 0) ∧ w = w' := by
  go_enter Try.func12, Try.ntmps12
  go_wp2
  go_ret
  exact ⟨rfl, rfl⟩

theorem find_places {w : World} {b0 b1 bq B : Nat} {A : Option Addr} {c n : Nat} {Q : Nat → PodV} {L : List PodV} (h1 : QMem w b0 b1 bq B A c n Q) (h3 : ((lst Q n).map nm).Perm L) (id : Int) : ∃ f, MapI w B f ∧ Places n Q f ∧ (id ∈ L.map (·.k) ↔ (f id).isSome = true) := by
  obtain ⟨f, hf, hP⟩ := h1.map
  refine ⟨f, hf, hP, ?_⟩
  have h6 : id ∈ L.map (·.k) ↔ ∃ j, j < n ∧ (Q j).k = id := by
    rw [← (h3.map (·.k)).mem_iff, List.map_map]
    unfold lst
    simp [nm, PodV.at]
  rw [h6]
  cases e : f id with
  | none =>
    simp only [Option.isSome_none, Bool.false_eq_true, iff_false]
    rintro ⟨j, hj, hk⟩
    rw [(hP id j).2 ⟨j, hj, hk, rfl⟩] at e
    cases e
  | some v =>
    simp only [Option.isSome_some, iff_true]
    obtain ⟨j, hj, hk, _⟩ := (hP id v).1 e
    exact ⟨j, hj, hk⟩

set_option maxHeartbeats 1000000 in
theorem qhas_fn {w : World} {b0 b1 bq : Nat} {D : Nat → Prop} {L : List PodV} (h : QInv w b0 b1 bq D L) (id : Int) (b : Bool) (hb : b = true ↔ id ∈ L.map (·.k)) : Calls Try.prog 15 #[.pointer (some ⟨bq, 0, none⟩), .int .i64 id] w fun e w' => e = .returned (.bool b) ∧ w = w' := by
  obtain ⟨B, A, c, n, Q, h1, h2, h3, rfl, h5⟩ := h
  obtain ⟨f, hf, hP, hi⟩ := find_places h1 h3 id
  have hb2 : (f id).isSome = b := by
    rw [hi] at hb
    cases b <;> cases e : (f id).isSome <;> simp_all
  have c1 := h1.e1
  have ml := mapI_look2 hf id
  rw [hb2] at ml
  clear h1 h2 h3 h5 hf hP hi hb2 hb
  go_enter Try.func15, Try.ntmps15
  go_wp2
  go_ret
  exact ⟨rfl, rfl⟩

/-- What a sorted copy of the queue is. -/
structure AllIs (w w' : World) (L : List PodV) (n : Nat) (v : Value) (S : Nat → PodV) : Prop where
  keep : Keep w w'
  at_ : ∃ g, v = .slice (some ⟨g, 0, none⟩) n n ∧ w.heap.size ≤ g ∧ g < w'.heap.size ∧ (∀ t, t < n * 9 → w'.frozen? ⟨g, t, none⟩ = false) ∧ RdPods w' (some ⟨g, 0, none⟩) n S ∧ ∀ j, j < n → Req w' w.heap.size (S j) ∧ PodOk (S j) ∧ (Value.slice (S j).A (S j).m (S j).c).ownBlock ≠ some g
  perm : ((lst S n).map nm).Perm L
  sort : ((lst S n).map nm).Pairwise leP
theorem perm_dk {n : Nat} {dk : Array Nat} (h : PermIn 0 n (Array.range n) dk) : ((List.range n).map fun j => dk[j]!).Perm (List.range n) := by
  obtain ⟨hs, _, hp⟩ := h
  rw [Array.size_range] at hs
  have e1 : (dk.extract 0 n).toList = (List.range n).map fun j => dk[j]! := by
    rw [Array.extract_eq_self_of_le (by omega)]
    refine List.ext_getElem? fun t => ?_
    by_cases ht : t < n
    · rw [Array.getElem?_toList, Array.getElem?_eq_getElem (by omega), List.getElem?_map, List.getElem?_range ht]
      simp only [Option.map_some, Option.some.injEq]
      rw [getElem!_pos dk t (by omega)]
    · rw [List.getElem?_eq_none (by simp; omega), List.getElem?_eq_none (by simp; omega)]
  have e2 : ((Array.range n).extract 0 n).toList = List.range n := by
    rw [Array.extract_eq_self_of_le (by simp), Array.toList_range]
  rw [e1, e2] at hp
  exact hp
theorem all_is {w w' : World} {P : Nat → PodV} {n : Nat} {v : Value} {L : List PodV} (h : Sorted7 w w' P n v) (hp : ((lst P n).map nm).Perm L) : ∃ S, AllIs w w' L n v S := by
  obtain ⟨k, g, rfl, hg, hl, hz, S, dk, hR, hq, p, s, c⟩ := h
  have hin : ∀ t, t < n → dk[t]! < n := fun t ht => by
    have := (perm_dk p).mem_iff.1 (List.mem_map.2 ⟨t, List.mem_range.2 ht, rfl⟩)
    exact List.mem_range.1 this
  have e : (lst S n).map nm = ((List.range n).map fun j => dk[j]!).map fun t => nm (P t) := by
    unfold lst
    rw [List.map_map, List.map_map]
    exact List.map_congr_left fun j hj => nm_same (c j (List.mem_range.1 hj))
  refine ⟨S, k, ⟨g, rfl, hg, hl, hz, hR, fun j hj => ?_⟩, ?_, ?_⟩
  · exact ⟨own_base (hq j hj).1 hg, (hq j hj).2⟩
  · rw [e]
    refine (((perm_dk p).map fun t => nm (P t)).trans ?_).trans hp
    unfold lst
    rw [List.map_map]
    exact List.Perm.refl _
  · unfold lst
    rw [List.map_map, List.pairwise_map]
    refine (List.pairwise_lt_range (n := n)).imp_of_mem fun {a b} ha hb hab => ?_
    have ha := List.mem_range.1 ha
    have hb := List.mem_range.1 hb
    have := s a b (Nat.zero_le _) hab hb
    show befP (S b) (S a) = false
    have e1 : befP (S b) (S a) = ltOf (cfP P) dk[b]! dk[a]! := by
      unfold befP ltOf cfP
      rw [cmp_same (c b hb) (c a ha)]
    rw [e1]
    unfold lo at this
    simp only [Bool.or_eq_false_iff] at this
    exact this.1

set_option maxRecDepth 100000 in
set_option maxHeartbeats 1000000 in
theorem qall_fn {w : World} {b0 b1 bq : Nat} {D : Nat → Prop} {L : List PodV} (h : QInv w b0 b1 bq D L) : Calls Try.prog 14 #[.pointer (some ⟨bq, 0, none⟩)] w fun e w' => ∃ v S, e = .returned v ∧ AllIs w w' L L.length v S := by
  obtain ⟨B, A, c, n, Q, h1, h2, h3, rfl, h5⟩ := h
  have e : L.length = n := by rw [← h3.length_eq, List.length_map, lst_len]
  rw [e]
  have c0 := h1.e0
  obtain ⟨A', c', e', hR⟩ := h1.row.rd (by have := h1.lim; omega)
  simp only [Value.slice.injEq, true_and] at e'
  obtain ⟨rfl, rfl⟩ := e'
  have cS := Lib.hid (ksort7_fn A n c Q w hR (by have := h1.lim; omega) (fun j hj => by
    have : nm (Q j) ∈ L := h3.mem_iff.1 (List.mem_map_of_mem (lst_mem.2 ⟨j, hj, rfl⟩))
    have := h5 _ this
    have : (Q j).m ≤ 1000 := this
    omega))
  replace h3 := Lib.hid h3
  clear h1 h2 h5 hR e
  go_enter Try.func14, Try.ntmps14
  go_wp2_with fail
  refine cS.out.mono ?_
  rintro e w1 ⟨v, rfl, hs⟩
  obtain ⟨S, hS⟩ := all_is hs h3.out
  replace hS := Lib.hid hS
  replace hs := Lib.hid hs
  go_wp2
  go_ret
  exact ⟨v, S, rfl, hS.out⟩

def zv : Value := .agg #[.int .i64 0, .int .i64 0, .bool false, .int .i64 0, .slice none 0 0, .int .i64 0, .int .i64 0, .int .i64 0, .int .i64 0]
def zo : Obj := .cells #[.int .i64 0, .int .i64 0, .bool false, .int .i64 0, .slice none 0 0, .int .i64 0, .int .i64 0, .int .i64 0, .int .i64 0] 32
set_option maxRecDepth 100000 in
set_option maxHeartbeats 4000000 in
theorem qpop_nil (w : World) : Calls Try.prog 20 #[.pointer none] w fun e w' => e = .returned (.tuple #[zpod.val, .bool false]) ∧ Keep w w' := by
  rw [show zpod.val = zv from rfl]
  have cL := Lib.hid (fun W => qlen_nil W)
  unfold zv
  go_enter Try.func20, Try.ntmps20
  go_wp2_with fail
  refine (cL.out _).mono ?_
  rintro e w1 ⟨rfl, rfl⟩
  go_wp2
  refine bodyPost_ret (v := .tuple #[.agg #[.int .i64 0, .int .i64 0, .bool false, .int .i64 0, .slice none 0 0, .int .i64 0, .int .i64 0, .int .i64 0, .int .i64 0], .bool false]) (by simp [results, Try.results20, go_sem, *]) rfl ⟨rfl, ?_⟩
  repeat (first | exact Keep.refl _ | (refine Keep.set ?_ (by simp) _) | apply Keep.alloc)
set_option maxRecDepth 100000 in
set_option maxHeartbeats 4000000 in
theorem qpop_none {w : World} {b0 b1 bq : Nat} {D : Nat → Prop} (h : QInv w b0 b1 bq D []) : Calls Try.prog 20 #[.pointer (some ⟨bq, 0, none⟩)] w fun e w' => e = .returned (.tuple #[zpod.val, .bool false]) ∧ Keep w w' := by
  rw [show zpod.val = zv from rfl]
  have cL := Lib.hid (qlen_fn (h.keep (Keep.one w (.cells #[.int .i64 0, .int .i64 0, .bool false, .int .i64 0, .slice none 0 0, .int .i64 0, .int .i64 0, .int .i64 0, .int .i64 0] 32))))
  clear h
  unfold zv
  go_enter Try.func20, Try.ntmps20
  go_wp2_with fail
  refine cL.out.mono ?_
  rintro e w1 ⟨rfl, rfl⟩
  go_wp2
  refine bodyPost_ret (v := .tuple #[.agg #[.int .i64 0, .int .i64 0, .bool false, .int .i64 0, .slice none 0 0, .int .i64 0, .int .i64 0, .int .i64 0, .int .i64 0], .bool false]) (by simp [results, Try.results20, go_sem, *]) rfl ⟨rfl, ?_⟩
  repeat (first | exact Keep.refl _ | (refine Keep.set ?_ (by simp) _) | apply Keep.alloc)
set_option maxRecDepth 100000 in
set_option maxHeartbeats 4000000 in
theorem qpeek_nil (w : World) : Calls Try.prog 23 #[.pointer none] w fun e w' => e = .returned (.tuple #[zpod.val, .bool false]) ∧ Keep w w' := by
  rw [show zpod.val = zv from rfl]
  have cL := Lib.hid (fun W => qlen_nil W)
  unfold zv
  go_enter Try.func23, Try.ntmps23
  go_wp2_with fail
  refine (cL.out _).mono ?_
  rintro e w1 ⟨rfl, rfl⟩
  go_wp2
  refine bodyPost_ret (v := .tuple #[.agg #[.int .i64 0, .int .i64 0, .bool false, .int .i64 0, .slice none 0 0, .int .i64 0, .int .i64 0, .int .i64 0, .int .i64 0], .bool false]) (by simp [results, Try.results23, go_sem, *]) rfl ⟨rfl, ?_⟩
  repeat (first | exact Keep.refl _ | (refine Keep.set ?_ (by simp) _) | apply Keep.alloc)
set_option maxRecDepth 100000 in
set_option maxHeartbeats 4000000 in
theorem qpeek_none {w : World} {b0 b1 bq : Nat} {D : Nat → Prop} (h : QInv w b0 b1 bq D []) : Calls Try.prog 23 #[.pointer (some ⟨bq, 0, none⟩)] w fun e w' => e = .returned (.tuple #[zpod.val, .bool false]) ∧ Keep w w' := by
  rw [show zpod.val = zv from rfl]
  have cL := Lib.hid (qlen_fn (h.keep (Keep.one w (.cells #[.int .i64 0, .int .i64 0, .bool false, .int .i64 0, .slice none 0 0, .int .i64 0, .int .i64 0, .int .i64 0, .int .i64 0] 32))))
  clear h
  unfold zv
  go_enter Try.func23, Try.ntmps23
  go_wp2_with fail
  refine cL.out.mono ?_
  rintro e w1 ⟨rfl, rfl⟩
  go_wp2
  refine bodyPost_ret (v := .tuple #[.agg #[.int .i64 0, .int .i64 0, .bool false, .int .i64 0, .slice none 0 0, .int .i64 0, .int .i64 0, .int .i64 0, .int .i64 0], .bool false]) (by simp [results, Try.results23, go_sem, *]) rfl ⟨rfl, ?_⟩
  repeat (first | exact Keep.refl _ | (refine Keep.set ?_ (by simp) _) | apply Keep.alloc)
set_option maxRecDepth 100000 in
set_option maxHeartbeats 4000000 in
theorem qremove_none {w : World} {b0 b1 bq : Nat} {D : Nat → Prop} {L : List PodV} (h : QInv w b0 b1 bq D L) (id : Int) (hi : id ∉ L.map (·.k)) : Calls Try.prog 24 #[.pointer (some ⟨bq, 0, none⟩), .int .i64 id] w fun e w' => e = .returned (.tuple #[zpod.val, .bool false]) ∧ Keep w w' := by
  rw [show zpod.val = zv from rfl]
  have cL := Lib.hid (qhas_fn (h.keep (Keep.one w (.cells #[.int .i64 0, .int .i64 0, .bool false, .int .i64 0, .slice none 0 0, .int .i64 0, .int .i64 0, .int .i64 0, .int .i64 0] 32))) id false (by simp only [Bool.false_eq_true, false_iff]; exact hi))
  clear h hi
  unfold zv
  go_enter Try.func24, Try.ntmps24
  go_wp2_with fail
  refine cL.out.mono ?_
  rintro e w1 ⟨rfl, rfl⟩
  go_wp2
  refine bodyPost_ret (v := .tuple #[.agg #[.int .i64 0, .int .i64 0, .bool false, .int .i64 0, .slice none 0 0, .int .i64 0, .int .i64 0, .int .i64 0, .int .i64 0], .bool false]) (by simp [results, Try.results24, go_sem, *]) rfl ⟨rfl, ?_⟩
  repeat (first | exact Keep.refl _ | (refine Keep.set ?_ (by simp) _) | apply Keep.alloc)

theorem req_other {w w' : World} {base : Nat} {x : PodV} (h : Req w base x) {s0 : Nat} (hk : Kind w s0 32) (hs : ∀ k, k ≠ s0 → w'.heap[k]? = w.heap[k]?) : Req w' base x := own_blocks1 h fun g hg => hs g fun e => by
  obtain ⟨cur, h1⟩ := row_kind h hg
  obtain ⟨cs, fr, h2⟩ := hk
  rw [e, h2] at h1
  injection h1 with h1
  injection h1 with _ h1
  exact absurd h1 (by decide)
/-- What a method that takes a pod out leaves. -/
structure Out (w w' : World) (b0 b1 bq : Nat) (D : Nat → Prop) (L : List PodV) (x : PodV) : Prop where
  fr : Fr D w w'
  inv : ∃ D' L', QInv w' b0 b1 bq D' L' ∧ L.Perm (nm x :: L') ∧ ∀ k, D' k → D k ∨ w.heap.size ≤ k
  req : Req w' b1 x
  ok : PodOk x
theorem QMem.other {w w' : World} {b0 b1 bq B : Nat} {A : Option Addr} {c n : Nat} {Q : Nat → PodV} (h : QMem w b0 b1 bq B A c n Q) (s0 : Nat) (hn : ¬ Foot bq B A s0) (hk : Kind w s0 32) (hs : ∀ k, k ≠ s0 → w'.heap[k]? = w.heap[k]?) (hz : w.heap.size ≤ w'.heap.size) : QMem w' b0 b1 bq B A c n Q := by
  obtain ⟨f, h1, h2⟩ := h.map
  refine ⟨(hs bq (fun e => hn (Or.inl e.symm))).trans h.hq, ⟨own_blocks1 h.row.row (fun g hg => hs g (fun e => hn ?_)), fun j hj => req_other (h.row.own j hj) hk hs, h.row.ok⟩, ⟨f, h1.of (hs B (fun e => hn (Or.inr (Or.inl e.symm)))), h2⟩, h.lim, h.lo.1, h.lo.2.1, h.lo.2.2.1, Nat.le_trans h.lo.2.2.2 hz⟩
  rw [← e]
  exact Or.inr (Or.inr ⟨0, own_zero h.row.row hg⟩)
theorem out_past {w w1 w2 w3 : World} {b0 b1 bq B : Nat} {A : Option Addr} {c n : Nat} {L : List PodV} {Q R : Nat → PodV} {i : Nat} (hp : ((lst Q (n + 1)).map nm).Perm L) (h5 : ∀ x ∈ L, x.m ≤ 1000) (k : Keep w w1) (hf : ∀ k, Foot bq B A k → k < w.heap.size) (hk1 : Kind w1 w.heap.size 32) (H : QMem w2 b0 b1 bq B A c n R) (hh : HeapQ R n) (p : (lst Q (n + 1)).Perm (Q i :: lst R n)) (F : Fr (Foot bq B A) w1 w2) (r : Req w2 b1 (Q i)) (ok : PodOk (Q i))
    (xs : List Value) (hw : w3 = w2.setCells w.heap.size 0 xs) : Out w w3 b0 b1 bq (Foot bq B A) L (Q i) := by
  have hn : ¬ Foot bq B A w.heap.size := fun h => by have := hf _ h; omega
  have cg := cells_grown w.heap.size xs 0 w2
  have hz : w3.heap.size = w2.heap.size := by rw [hw]; exact cg.2
  have hlt : w.heap.size < w1.heap.size := by
    obtain ⟨cs, fr, h⟩ := hk1
    exact (Array.getElem?_eq_some_iff.1 h).1
  have hk2 : Kind w2 w.heap.size 32 := by
    obtain ⟨cs, fr, h⟩ := hk1
    exact ⟨cs, fr, (F.block _ hlt hn).trans h⟩
  have hs : ∀ k, k ≠ w.heap.size → w3.heap[k]? = w2.heap[k]? := fun k hne => by
    by_cases hl : k < w2.heap.size
    · rw [hw]; exact cg.1.block k hl (fun e => hne (Option.some.inj e))
    · rw [Array.getElem?_eq_none (by rw [hz]; omega), Array.getElem?_eq_none (by omega)]
  have F3 : Fr (Foot bq B A) w w3 := by
    rw [hw]
    refine ((Fr.after k F).trans (Fr.grown (D := fun k => k = w.heap.size) cg.1 (fun g hg => Or.inl (Option.some.inj hg).symm)) ?_)
    rintro i rfl
    exact Or.inr (Nat.le_refl _)
  have pL : L.Perm (nm (Q i) :: (lst R n).map nm) := hp.symm.trans (p.map nm)
  refine ⟨F3, ⟨_, _, ⟨B, A, c, n, R, H.other w.heap.size hn hk2 hs (by rw [hw, cg.2]; exact Nat.le_refl _), hh, List.Perm.refl _, rfl, fun x hx => h5 x (pL.mem_iff.2 (List.mem_cons_of_mem _ hx))⟩, pL, fun _ h => Or.inl h⟩, req_other r hk2 hs, ok⟩

set_option maxRecDepth 100000 in
set_option maxHeartbeats 8000000 in
theorem qpop_fn {w : World} {b0 b1 bq : Nat} {D : Nat → Prop} {L : List PodV} (h : QInv w b0 b1 bq D L) (h0 : L ≠ []) : Calls Try.prog 20 #[.pointer (some ⟨bq, 0, none⟩)] w fun e w' => ∃ x, e = .returned (.tuple #[x.val, .bool true]) ∧ nm x ∈ L ∧ (∀ y ∈ L, befP y x = false) ∧ Out w w' b0 b1 bq D L x := by
  have cL := qlen_fn (h.keep (Keep.one w (.cells #[.int .i64 0, .int .i64 0, .bool false, .int .i64 0, .slice none 0 0, .int .i64 0, .int .i64 0, .int .i64 0, .int .i64 0] 32)))
  obtain ⟨B, A, c, n, Q, h1, h2, h3, rfl, h5⟩ := h
  have e : L.length = n := by rw [← h3.length_eq, List.length_map, lst_len]
  obtain ⟨n, rfl⟩ : ∃ m, n = m + 1 := ⟨n - 1, by
    have : L.length ≠ 0 := fun h => h0 (List.length_eq_zero_iff.1 h)
    omega⟩
  rw [e] at cL
  have hlim : n + 1 ≤ 1000 := h1.lim
  have ft := Lib.hid (fun k hk => (h1.foot_lt k hk).2)
  have ok0 := Lib.hid (h1.row.ok 0 (by omega))
  have K1 : Hid (Keep w (w.alloc (.cells #[.int .i64 0, .int .i64 0, .bool false, .int .i64 0, .slice none 0 0, .int .i64 0, .int .i64 0, .int .i64 0, .int .i64 0] 32))) := Keep.one _ _
  have kd1 : (w.alloc (.cells #[.int .i64 0, .int .i64 0, .bool false, .int .i64 0, .slice none 0 0, .int .i64 0, .int .i64 0, .int .i64 0, .int .i64 0] 32)).heap[w.heap.size]? = some (.cells #[.int .i64 0, .int .i64 0, .bool false, .int .i64 0, .slice none 0 0, .int .i64 0, .int .i64 0, .int .i64 0, .int .i64 0] 32 (0, 0)) := heap_alloc_new _ _
  have cP := Lib.hid (heappop_fn (h1.keep K1.out) h2)
  have mem0 : Hid (nm (Q 0) ∈ L) := h3.mem_iff.1 (List.mem_map_of_mem (lst_mem.2 ⟨0, by omega, rfl⟩))
  have min0 : Hid (∀ y ∈ L, befP y (Q 0) = false) := fun y hy => head_min h2 y (h3.mem_iff.2 hy)
  have ta := Try.asPod
  replace cL := Lib.hid cL
  replace h3 := Lib.hid h3
  replace h5 := Lib.hid h5
  replace kd1 := Lib.hid kd1
  clear h1 h2 h0 e
  obtain ⟨x, hx⟩ : ∃ x, x = Q 0 := ⟨_, rfl⟩
  rw [← hx] at cP
  replace hx := Lib.hid hx
  unfold PodV.val at cP
  go_enter Try.func20, Try.ntmps20
  go_wp2_with fail
  refine cL.out.mono ?_
  rintro e w1 ⟨rfl, rfl⟩
  clear cL
  go_wp2_with fail
  refine cP.out.mono ?_
  rintro e w2 ⟨rfl, R, H2, HR, P2, F2, R2⟩
  have hn : ¬ Foot bq B A w.heap.size := fun h => by have := ft.out _ h; omega
  have d2 : w2.heap[w.heap.size]? = some (.cells #[.int .i64 0, .int .i64 0, .bool false, .int .i64 0, .slice none 0 0, .int .i64 0, .int .i64 0, .int .i64 0, .int .i64 0] 32 (0, 0)) := (F2.block _ (by rw [World.size_alloc]; omega) hn).trans kd1.out
  have fin : Hid (∀ W, W = w2.setCells w.heap.size 0 x.cells → Out w W b0 b1 bq (Foot bq B A) L (Q 0)) := fun W hW => by
    rw [hx.out] at P2 R2
    exact out_past h3.out h5.out K1.out ft.out ⟨_, _, kd1.out⟩ H2 HR P2 F2 R2 ok0.out _ hW
  have r0 : w2.cell? ⟨w.heap.size, 0, none⟩ = some (.int .i64 0) := by rw [cell_of_row w2 _ _ _ _ _ d2]; rfl
  have r1 : w2.cell? ⟨w.heap.size, 1, none⟩ = some (.int .i64 0) := by rw [cell_of_row w2 _ _ _ _ _ d2]; rfl
  have r2 : w2.cell? ⟨w.heap.size, 2, none⟩ = some (.bool false) := by rw [cell_of_row w2 _ _ _ _ _ d2]; rfl
  have r3 : w2.cell? ⟨w.heap.size, 3, none⟩ = some (.int .i64 0) := by rw [cell_of_row w2 _ _ _ _ _ d2]; rfl
  have r4 : w2.cell? ⟨w.heap.size, 4, none⟩ = some (.slice none 0 0) := by rw [cell_of_row w2 _ _ _ _ _ d2]; rfl
  have r5 : w2.cell? ⟨w.heap.size, 5, none⟩ = some (.int .i64 0) := by rw [cell_of_row w2 _ _ _ _ _ d2]; rfl
  have r6 : w2.cell? ⟨w.heap.size, 6, none⟩ = some (.int .i64 0) := by rw [cell_of_row w2 _ _ _ _ _ d2]; rfl
  have r7 : w2.cell? ⟨w.heap.size, 7, none⟩ = some (.int .i64 0) := by rw [cell_of_row w2 _ _ _ _ _ d2]; rfl
  have r8 : w2.cell? ⟨w.heap.size, 8, none⟩ = some (.int .i64 0) := by rw [cell_of_row w2 _ _ _ _ _ d2]; rfl
  have g0 : w2.frozen? ⟨w.heap.size, 0, none⟩ = false := frozen_of_row w2 _ _ _ _ d2
  have g1 : w2.frozen? ⟨w.heap.size, 1, none⟩ = false := frozen_of_row w2 _ _ _ _ d2
  have g2 : w2.frozen? ⟨w.heap.size, 2, none⟩ = false := frozen_of_row w2 _ _ _ _ d2
  have g3 : w2.frozen? ⟨w.heap.size, 3, none⟩ = false := frozen_of_row w2 _ _ _ _ d2
  have g4 : w2.frozen? ⟨w.heap.size, 4, none⟩ = false := frozen_of_row w2 _ _ _ _ d2
  have g5 : w2.frozen? ⟨w.heap.size, 5, none⟩ = false := frozen_of_row w2 _ _ _ _ d2
  have g6 : w2.frozen? ⟨w.heap.size, 6, none⟩ = false := frozen_of_row w2 _ _ _ _ d2
  have g7 : w2.frozen? ⟨w.heap.size, 7, none⟩ = false := frozen_of_row w2 _ _ _ _ d2
  have g8 : w2.frozen? ⟨w.heap.size, 8, none⟩ = false := frozen_of_row w2 _ _ _ _ d2
  replace d2 := Lib.hid d2
  replace hn := Lib.hid hn
  replace H2 := Lib.hid H2
  replace HR := Lib.hid HR
  replace P2 := Lib.hid P2
  replace F2 := Lib.hid F2
  replace R2 := Lib.hid R2
  clear cP
  go_wp2
  refine bodyPost_ret (v := .tuple #[.agg #[.int .i64 x.k, .int .i64 x.p, .bool x.f, .int .i64 x.g, .slice x.A x.m x.c, .int .i64 x.a, .int .i64 x.h, .int .i64 x.d, .int .i64 x.t], .bool true]) (by simp [results, Try.results20, go_sem, *]) rfl ⟨Q 0, by rw [← hx.out]; rfl, mem0.out, min0.out, fin.out _ rfl⟩

set_option maxRecDepth 100000 in
set_option maxHeartbeats 8000000 in
theorem qpeek_fn {w : World} {b0 b1 bq : Nat} {D : Nat → Prop} {L : List PodV} (h : QInv w b0 b1 bq D L) (h0 : L ≠ []) : Calls Try.prog 23 #[.pointer (some ⟨bq, 0, none⟩)] w fun e w' => ∃ x, e = .returned (.tuple #[x.val, .bool true]) ∧ nm x ∈ L ∧ (∀ y ∈ L, befP y x = false) ∧ Keep w w' ∧ Req w' w.heap.size x ∧ PodOk x := by
  have cL := qlen_fn (h.keep (Keep.one w (.cells #[.int .i64 0, .int .i64 0, .bool false, .int .i64 0, .slice none 0 0, .int .i64 0, .int .i64 0, .int .i64 0, .int .i64 0] 32)))
  obtain ⟨B, A, c, n, Q, h1, h2, h3, rfl, h5⟩ := h
  have e : L.length = n := by rw [← h3.length_eq, List.length_map, lst_len]
  obtain ⟨n, rfl⟩ : ∃ m, n = m + 1 := ⟨n - 1, by
    have : L.length ≠ 0 := fun h => h0 (List.length_eq_zero_iff.1 h)
    omega⟩
  rw [e] at cL
  have hlim : n + 1 ≤ 1000 := h1.lim
  have K1 : Hid (Keep w (w.alloc (.cells #[.int .i64 0, .int .i64 0, .bool false, .int .i64 0, .slice none 0 0, .int .i64 0, .int .i64 0, .int .i64 0, .int .i64 0] 32))) := Keep.one _ _
  have kd1 : (w.alloc (.cells #[.int .i64 0, .int .i64 0, .bool false, .int .i64 0, .slice none 0 0, .int .i64 0, .int .i64 0, .int .i64 0, .int .i64 0] 32)).heap[w.heap.size]? = some (.cells #[.int .i64 0, .int .i64 0, .bool false, .int .i64 0, .slice none 0 0, .int .i64 0, .int .i64 0, .int .i64 0, .int .i64 0] 32 (0, 0)) := heap_alloc_new _ _
  have mem0 : Hid (nm (Q 0) ∈ L) := h3.mem_iff.1 (List.mem_map_of_mem (lst_mem.2 ⟨0, by omega, rfl⟩))
  have min0 : Hid (∀ y ∈ L, befP y (Q 0) = false) := fun y hy => head_min h2 y (h3.mem_iff.2 hy)
  have H1 := h1.keep K1.out
  obtain ⟨g, rfl, hg⟩ := H1.at (by omega)
  have X := (hg 0 (by omega)).1
  have c0 := H1.e0
  have hm : (Q 0).m ≤ 1048576 := by
    have := h5 _ mem0.out
    have : (Q 0).m ≤ 1000 := this
    omega
  have is0 := (H1.row.own 0 (by omega)).is (H1.row.ok 0 (by omega))
  have q1 := pods_at g 0 (n + 1) c 0 (by omega)
  rw [Nat.zero_add] at q1
  simp only [Nat.zero_mul] at q1 X
  obtain ⟨x, hx⟩ : ∃ x, x = Q 0 := ⟨_, rfl⟩
  rw [← hx] at X hm is0 mem0 min0
  have cC := qclone_fn x _ is0 hm
  unfold PodV.val PodV.at at cC
  have sz1 : (w.alloc (.cells #[.int .i64 0, .int .i64 0, .bool false, .int .i64 0, .slice none 0 0, .int .i64 0, .int .i64 0, .int .i64 0, .int .i64 0] 32)).heap.size = w.heap.size + 1 := World.size_alloc _ _
  rw [sz1] at cC
  replace cL := Lib.hid cL
  replace cC := Lib.hid cC
  clear h1 h2 h0 e h3 h5 H1 hg is0 hx
  have x0 := X.e0; have x1 := X.e1; have x2 := X.e2; have x3 := X.e3; have x4 := X.e4; have x5 := X.e5; have x6 := X.e6; have x7 := X.e7; have x8 := X.e8
  simp only [Nat.zero_add] at x1 x2 x3 x4 x5 x6 x7 x8
  clear X
  go_enter Try.func23, Try.ntmps23
  go_wp2_with fail
  refine cL.out.mono ?_
  rintro e w1 ⟨rfl, rfl⟩
  clear cL
  replace kd1 := Lib.hid kd1
  generalize w.alloc (.cells #[.int .i64 0, .int .i64 0, .bool false, .int .i64 0, .slice none 0 0, .int .i64 0, .int .i64 0, .int .i64 0, .int .i64 0] 32) = W1 at *
  go_wp2_with fail
  refine cC.out.mono ?_
  rintro e w2 ⟨A', c', rfl, k2, is2, ow2⟩
  have d2 : w2.heap[w.heap.size]? = some (.cells #[.int .i64 0, .int .i64 0, .bool false, .int .i64 0, .slice none 0 0, .int .i64 0, .int .i64 0, .int .i64 0, .int .i64 0] 32 (0, 0)) := k2.block kd1.out
  have fin : Hid (∀ W, W = w2.setCells w.heap.size 0 (x.at A' c').cells → Keep w W ∧ Req W w.heap.size (x.at A' c')) := fun W hW => by
    rw [hW]
    have cg := cells_grown w.heap.size (x.at A' c').cells 0 w2
    refine ⟨keep_grown (K1.out.trans k2) cg.1 (fun q hq => by have := Option.some.inj hq; omega), ?_⟩
    refine own_blocks1 (own_base ow2 (by omega)) fun q hq => cg.1.block q (ow2.lt q hq).2 (fun e => ?_)
    have := (ow2.lt q hq).1
    have := Option.some.inj e
    omega
  have okx := Lib.hid is2.ok
  have r0 : w2.cell? ⟨w.heap.size, 0, none⟩ = some (.int .i64 0) := by rw [cell_of_row w2 _ _ _ _ _ d2]; rfl
  have r1 : w2.cell? ⟨w.heap.size, 1, none⟩ = some (.int .i64 0) := by rw [cell_of_row w2 _ _ _ _ _ d2]; rfl
  have r2 : w2.cell? ⟨w.heap.size, 2, none⟩ = some (.bool false) := by rw [cell_of_row w2 _ _ _ _ _ d2]; rfl
  have r3 : w2.cell? ⟨w.heap.size, 3, none⟩ = some (.int .i64 0) := by rw [cell_of_row w2 _ _ _ _ _ d2]; rfl
  have r4 : w2.cell? ⟨w.heap.size, 4, none⟩ = some (.slice none 0 0) := by rw [cell_of_row w2 _ _ _ _ _ d2]; rfl
  have r5 : w2.cell? ⟨w.heap.size, 5, none⟩ = some (.int .i64 0) := by rw [cell_of_row w2 _ _ _ _ _ d2]; rfl
  have r6 : w2.cell? ⟨w.heap.size, 6, none⟩ = some (.int .i64 0) := by rw [cell_of_row w2 _ _ _ _ _ d2]; rfl
  have r7 : w2.cell? ⟨w.heap.size, 7, none⟩ = some (.int .i64 0) := by rw [cell_of_row w2 _ _ _ _ _ d2]; rfl
  have r8 : w2.cell? ⟨w.heap.size, 8, none⟩ = some (.int .i64 0) := by rw [cell_of_row w2 _ _ _ _ _ d2]; rfl
  have g0 : w2.frozen? ⟨w.heap.size, 0, none⟩ = false := frozen_of_row w2 _ _ _ _ d2
  have g1 : w2.frozen? ⟨w.heap.size, 1, none⟩ = false := frozen_of_row w2 _ _ _ _ d2
  have g2 : w2.frozen? ⟨w.heap.size, 2, none⟩ = false := frozen_of_row w2 _ _ _ _ d2
  have g3 : w2.frozen? ⟨w.heap.size, 3, none⟩ = false := frozen_of_row w2 _ _ _ _ d2
  have g4 : w2.frozen? ⟨w.heap.size, 4, none⟩ = false := frozen_of_row w2 _ _ _ _ d2
  have g5 : w2.frozen? ⟨w.heap.size, 5, none⟩ = false := frozen_of_row w2 _ _ _ _ d2
  have g6 : w2.frozen? ⟨w.heap.size, 6, none⟩ = false := frozen_of_row w2 _ _ _ _ d2
  have g7 : w2.frozen? ⟨w.heap.size, 7, none⟩ = false := frozen_of_row w2 _ _ _ _ d2
  have g8 : w2.frozen? ⟨w.heap.size, 8, none⟩ = false := frozen_of_row w2 _ _ _ _ d2
  replace d2 := Lib.hid d2
  replace k2 := Lib.hid k2
  replace is2 := Lib.hid is2
  replace ow2 := Lib.hid ow2
  clear cC x0 x1 x2 x3 x4 x5 x6 x7 x8 c0 q1
  go_wp2
  refine bodyPost_ret (v := .tuple #[.agg #[.int .i64 x.k, .int .i64 x.p, .bool x.f, .int .i64 x.g, .slice A' x.m c', .int .i64 x.a, .int .i64 x.h, .int .i64 x.d, .int .i64 x.t], .bool true]) (by simp [results, Try.results23, go_sem, *]) rfl ⟨x.at A' c', rfl, mem0.out, min0.out, (fin.out _ rfl).1, (fin.out _ rfl).2, okx.out⟩

set_option maxRecDepth 100000 in
set_option maxHeartbeats 8000000 in
theorem qremove_fn {w : World} {b0 b1 bq : Nat} {D : Nat → Prop} {L : List PodV} (h : QInv w b0 b1 bq D L) (id : Int) (hi : id ∈ L.map (·.k)) : Calls Try.prog 24 #[.pointer (some ⟨bq, 0, none⟩), .int .i64 id] w fun e w' => ∃ x, e = .returned (.tuple #[x.val, .bool true]) ∧ nm x ∈ L ∧ x.k = id ∧ Out w w' b0 b1 bq D L x := by
  have mixed : Try.prog.follows .mixedOrders = true := by kernel_rfl
  have cL := qhas_fn (h.keep (Keep.one w (.cells #[.int .i64 0, .int .i64 0, .bool false, .int .i64 0, .slice none 0 0, .int .i64 0, .int .i64 0, .int .i64 0, .int .i64 0] 32))) id true (by simp only [true_iff]; exact hi)
  obtain ⟨B, A, c, n, Q, h1, h2, h3, rfl, h5⟩ := h
  obtain ⟨f, hf, hP, hfi⟩ := find_places h1 h3 id
  obtain ⟨v, hv⟩ := Option.isSome_iff_exists.1 (hfi.1 hi)
  obtain ⟨i, hin, hik, rfl⟩ := (hP id v).1 hv
  obtain ⟨n, rfl⟩ : ∃ m, n = m + 1 := ⟨n - 1, by omega⟩
  have hlim : n + 1 ≤ 1000 := h1.lim
  have ft := Lib.hid (fun k hk => (h1.foot_lt k hk).2)
  have ok0 := Lib.hid (h1.row.ok i hin)
  have K1 : Hid (Keep w (w.alloc (.cells #[.int .i64 0, .int .i64 0, .bool false, .int .i64 0, .slice none 0 0, .int .i64 0, .int .i64 0, .int .i64 0, .int .i64 0] 32))) := Keep.one _ _
  have kd1 : (w.alloc (.cells #[.int .i64 0, .int .i64 0, .bool false, .int .i64 0, .slice none 0 0, .int .i64 0, .int .i64 0, .int .i64 0, .int .i64 0] 32)).heap[w.heap.size]? = some (.cells #[.int .i64 0, .int .i64 0, .bool false, .int .i64 0, .slice none 0 0, .int .i64 0, .int .i64 0, .int .i64 0, .int .i64 0] 32 (0, 0)) := heap_alloc_new _ _
  have H1 := h1.keep K1.out
  have c1 := H1.e1
  have ml := mapI_look1 (hf.of (Below.block K1.out B h1.lt.2)) id
  have mld := mapI_look1 ((hf.of (Below.block K1.out B h1.lt.2)).of (w' := (w.alloc (.cells #[.int .i64 0, .int .i64 0, .bool false, .int .i64 0, .slice none 0 0, .int .i64 0, .int .i64 0, .int .i64 0, .int .i64 0] 32)).drew) rfl) id
  rw [hv] at ml mld
  simp only [Option.getD_some] at ml mld
  have cP : Hid (∀ W, Keep (w.alloc (.cells #[.int .i64 0, .int .i64 0, .bool false, .int .i64 0, .slice none 0 0, .int .i64 0, .int .i64 0, .int .i64 0, .int .i64 0] 32)) W → Calls Try.prog 34 #[.iface 59 (.pointer (some ⟨bq, 0, none⟩)), .int .i64 i] W fun e w' => e = .returned (.iface 32 (Q i).val) ∧ ∃ R, QMem w' b0 b1 bq B A c n R ∧ HeapQ R n ∧ (lst Q (n + 1)).Perm (Q i :: lst R n) ∧ Fr (Foot bq B A) W w' ∧ Req w' b1 (Q i)) := fun W k => heapremove_fn (H1.keep k) h2 i (by omega)
  have mem0 : Hid (nm (Q i) ∈ L) := h3.mem_iff.1 (List.mem_map_of_mem (lst_mem.2 ⟨i, hin, rfl⟩))
  have ta := Try.asPod
  replace cL := Lib.hid cL
  replace h3 := Lib.hid h3
  replace h5 := Lib.hid h5
  replace kd1 := Lib.hid kd1
  replace hik := Lib.hid hik
  clear h1 h2 hi hf hP hfi hv H1
  obtain ⟨x, hx⟩ : ∃ x, x = Q i := ⟨_, rfl⟩
  rw [← hx] at cP
  replace hx := Lib.hid hx
  unfold PodV.val at cP
  go_enter Try.func24, Try.ntmps24
  go_wp2_with fail
  refine cL.out.mono ?_
  rintro e w1 ⟨rfl, rfl⟩
  clear cL
  have sz1 : w.heap.size < (w.alloc (.cells #[.int .i64 0, .int .i64 0, .bool false, .int .i64 0, .slice none 0 0, .int .i64 0, .int .i64 0, .int .i64 0, .int .i64 0] 32)).heap.size := by rw [World.size_alloc]; omega
  generalize hW1 : w.alloc (.cells #[.int .i64 0, .int .i64 0, .bool false, .int .i64 0, .slice none 0 0, .int .i64 0, .int .i64 0, .int .i64 0, .int .i64 0] 32) = W1 at *
  replace hW1 := Lib.hid hW1
  replace sz1 := Lib.hid sz1
  go_wp2_with fail
  go_region_with (first
    | (go_at_call 34
       refine (cP.out _ (by repeat (first | exact Keep.refl _ | apply Keep.drew))).mono ?_
       rintro e w2 ⟨rfl, R, H2, HR, P2, F2, R2⟩
       have hn : ¬ Foot bq B A w.heap.size := fun h => by have := ft.out _ h; omega
       have F2' : Fr (Foot bq B A) W1 w2 := Fr.after (by repeat (first | exact Keep.refl _ | apply Keep.drew)) F2
       have d2 : w2.heap[w.heap.size]? = some (.cells #[.int .i64 0, .int .i64 0, .bool false, .int .i64 0, .slice none 0 0, .int .i64 0, .int .i64 0, .int .i64 0, .int .i64 0] 32 (0, 0)) := (F2'.block _ sz1.out hn).trans kd1.out
       have fin : Hid (∀ W, W = w2.setCells w.heap.size 0 x.cells → Out w W b0 b1 bq (Foot bq B A) L (Q i)) := fun W hW => by
         rw [hx.out] at P2 R2
         exact out_past h3.out h5.out K1.out ft.out ⟨_, _, kd1.out⟩ H2 HR P2 F2' R2 ok0.out _ hW
       have r0 : w2.cell? ⟨w.heap.size, 0, none⟩ = some (.int .i64 0) := by rw [cell_of_row w2 _ _ _ _ _ d2]; rfl
       have r1 : w2.cell? ⟨w.heap.size, 1, none⟩ = some (.int .i64 0) := by rw [cell_of_row w2 _ _ _ _ _ d2]; rfl
       have r2 : w2.cell? ⟨w.heap.size, 2, none⟩ = some (.bool false) := by rw [cell_of_row w2 _ _ _ _ _ d2]; rfl
       have r3 : w2.cell? ⟨w.heap.size, 3, none⟩ = some (.int .i64 0) := by rw [cell_of_row w2 _ _ _ _ _ d2]; rfl
       have r4 : w2.cell? ⟨w.heap.size, 4, none⟩ = some (.slice none 0 0) := by rw [cell_of_row w2 _ _ _ _ _ d2]; rfl
       have r5 : w2.cell? ⟨w.heap.size, 5, none⟩ = some (.int .i64 0) := by rw [cell_of_row w2 _ _ _ _ _ d2]; rfl
       have r6 : w2.cell? ⟨w.heap.size, 6, none⟩ = some (.int .i64 0) := by rw [cell_of_row w2 _ _ _ _ _ d2]; rfl
       have r7 : w2.cell? ⟨w.heap.size, 7, none⟩ = some (.int .i64 0) := by rw [cell_of_row w2 _ _ _ _ _ d2]; rfl
       have r8 : w2.cell? ⟨w.heap.size, 8, none⟩ = some (.int .i64 0) := by rw [cell_of_row w2 _ _ _ _ _ d2]; rfl
       have g0 : w2.frozen? ⟨w.heap.size, 0, none⟩ = false := frozen_of_row w2 _ _ _ _ d2
       have g1 : w2.frozen? ⟨w.heap.size, 1, none⟩ = false := frozen_of_row w2 _ _ _ _ d2
       have g2 : w2.frozen? ⟨w.heap.size, 2, none⟩ = false := frozen_of_row w2 _ _ _ _ d2
       have g3 : w2.frozen? ⟨w.heap.size, 3, none⟩ = false := frozen_of_row w2 _ _ _ _ d2
       have g4 : w2.frozen? ⟨w.heap.size, 4, none⟩ = false := frozen_of_row w2 _ _ _ _ d2
       have g5 : w2.frozen? ⟨w.heap.size, 5, none⟩ = false := frozen_of_row w2 _ _ _ _ d2
       have g6 : w2.frozen? ⟨w.heap.size, 6, none⟩ = false := frozen_of_row w2 _ _ _ _ d2
       have g7 : w2.frozen? ⟨w.heap.size, 7, none⟩ = false := frozen_of_row w2 _ _ _ _ d2
       have g8 : w2.frozen? ⟨w.heap.size, 8, none⟩ = false := frozen_of_row w2 _ _ _ _ d2
       replace d2 := Lib.hid d2
       replace hn := Lib.hid hn
       replace H2 := Lib.hid H2
       replace HR := Lib.hid HR
       replace P2 := Lib.hid P2
       replace F2 := Lib.hid F2
       replace F2' := Lib.hid F2'
       replace R2 := Lib.hid R2))
  all_goals
    clear cP
    go_wp2
    refine bodyPost_ret (v := .tuple #[.agg #[.int .i64 x.k, .int .i64 x.p, .bool x.f, .int .i64 x.g, .slice x.A x.m x.c, .int .i64 x.a, .int .i64 x.h, .int .i64 x.d, .int .i64 x.t], .bool true]) (by simp [results, Try.results24, go_sem, *]) rfl ⟨Q i, by rw [← hx.out]; rfl, mem0.out, hik.out, fin.out _ rfl⟩
end Go.Proofs.Ytmmpmpdjcmilkaa
