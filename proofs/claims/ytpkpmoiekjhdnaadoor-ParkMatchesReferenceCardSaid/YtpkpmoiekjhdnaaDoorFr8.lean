/-
  Frames, lists of pods, rows laid out: what stage 7 laid that names no queue. No condition.
-/
import Derived.Test.YtpkpmoiekjhdnaaDoorMapV8
import Derived.Test.YtpkpmoiekjhdnaaDoorKSort7
import Derived.Test.YtpkpmoiekjhdnaaDoorRSort7
import Derived.Test.YtpkpmoiekjhdnaaDoorRSortW6
import Derived.Test.YtpkpmoiekjhdnaaDoorRefC6
import Derived.Deep.RegionLaw
import Derived.Deep.RegionWith
namespace Go.Proofs.YtpkpmoiekjhdnaaDoor
open Go.RowKit Go.Sort Go.Lib Go.Shelf
open Go.ChangeMaps (setBlock)

theorem heap_setBlock {w : World} {B : Nat} {o : Obj} (h : B < w.heap.size) : (setBlock w B o).heap[B]? = some o := by
  simp [setBlock, h]
theorem heap_setBlock_ne {w : World} {B k : Nat} {o : Obj} (h : k ≠ B) : (setBlock w B o).heap[k]? = w.heap[k]? := by
  simp [setBlock, Ne.symm h]
/-- All blocks but those of D are as they were. -/
structure Fr (D : Nat → Prop) (w w' : World) : Prop where
  os : w'.os = w.os
  tape : w'.tape = w.tape
  output : w'.output = w.output
  size : w.heap.size ≤ w'.heap.size
  block : ∀ k, k < w.heap.size → ¬ D k → w'.heap[k]? = w.heap[k]?
theorem Fr.refl (D : Nat → Prop) (w : World) : Fr D w w := ⟨rfl, rfl, rfl, Nat.le_refl _, fun _ _ _ => rfl⟩
theorem Fr.of {D : Nat → Prop} {w w' : World} (h : Keep w w') : Fr D w w' := ⟨h.os, h.tape, h.output, h.size, fun k hk _ => Below.block h k hk⟩
theorem Fr.trans {D D' : Nat → Prop} {a b c : World} (h : Fr D a b) (k : Fr D' b c) (hD : ∀ i, D' i → D i ∨ a.heap.size ≤ i) : Fr D a c :=
  ⟨k.os.trans h.os, k.tape.trans h.tape, k.output.trans h.output, Nat.le_trans h.size k.size, fun i hi hn => (k.block i (Nat.lt_of_lt_of_le hi h.size) (fun hd => (hD i hd).elim hn (fun h1 => absurd h1 (by omega)))).trans (h.block i hi hn)⟩
theorem Fr.same {D : Nat → Prop} {a b c : World} (h : Fr D a b) (k : Fr D b c) : Fr D a c := h.trans k fun _ h => Or.inl h
theorem Fr.keep {D : Nat → Prop} {a b c : World} (h : Fr D a b) (k : Keep b c) : Fr D a c := h.same (Fr.of k)
theorem Fr.after {D : Nat → Prop} {a b c : World} (h : Keep a b) (k : Fr D b c) : Fr D a c := (Fr.of h).same k
theorem Fr.low {D : Nat → Prop} {w0 w w' : World} (h : Keep w0 w) (k : Fr D w w') (hD : ∀ i, D i → w0.heap.size ≤ i) : Keep w0 w' :=
  ⟨k.os.trans h.os, k.tape.trans h.tape, k.output.trans h.output, Nat.le_trans h.size k.size, fun i hi => (k.block i (Nat.lt_of_lt_of_le hi h.size) (fun hd => by have := hD i hd; omega)).trans (Below.block h i hi)⟩
theorem Fr.cell {D : Nat → Prop} {w w' : World} (h : Fr D w w') {a : Addr} {v : Value} (hc : w.cell? a = some v) (hn : ¬ D a.block) : w'.cell? a = some v := by
  rw [World.cell?_of_block (w := w) (h.block _ (cell_lt hc) hn)]; exact hc
theorem Fr.grown {D : Nat → Prop} {w w' : World} {row : Option Nat} (hg : w.grownBy w' row) (hr : ∀ g, row = some g → D g ∨ w.heap.size ≤ g) : Fr D w w' :=
  ⟨hg.os, hg.tape, hg.output, hg.size, fun k hk hn => hg.block k hk (fun e => (hr k e.symm).elim hn (fun h => absurd h (by omega)))⟩
theorem Fr.set {D : Nat → Prop} {a b : World} (h : Fr D a b) {p : Addr} (hp : D p.block ∨ a.heap.size ≤ p.block) (u : Value) : Fr D a (b.setCell p u) :=
  ⟨h.os, h.tape, h.output, by rw [show (b.setCell p u).heap.size = b.heap.size by simp]; exact h.size, fun k hk hn => by
    rw [Below.heap_setCell b p u k (fun e => hp.elim (fun h => hn (by rw [e]; exact h)) (fun h => absurd h (by omega)))]; exact h.block k hk hn⟩
theorem Fr.drewN {D : Nat → Prop} {a b : World} (h : Fr D a b) (q : Nat) : Fr D a (b.drewN q) := ⟨h.os, h.tape, h.output, h.size, h.block⟩
theorem Fr.drew {D : Nat → Prop} {a b : World} (h : Fr D a b) : Fr D a b.drew := ⟨h.os, h.tape, h.output, h.size, h.block⟩
theorem Fr.put {D : Nat → Prop} {a b : World} (h : Fr D a b) {B : Nat} (hp : D B ∨ a.heap.size ≤ B) (o : Obj) : Fr D a (setBlock b B o) :=
  ⟨h.os, h.tape, h.output, by simp [setBlock]; exact h.size, fun k hk hn => by
    rw [heap_setBlock_ne (fun e => hp.elim (fun h => hn (by rw [e]; exact h)) (fun h => absurd h (by omega)))]; exact h.block k hk hn⟩
theorem Fr.alloc {D : Nat → Prop} {a b : World} (h : Fr D a b) (o : Obj) : Fr D a (b.alloc o) := h.keep (Keep.one _ _)
/-- A block's kind. -/
def Kind (w : World) (k : Nat) (T : TypeId) : Prop := ∃ cs fr, w.heap[k]? = some (.cells cs T fr)
theorem Kind.keep {w w' : World} {k : Nat} {T : TypeId} (h : Kind w k T) (e : Keep w w') : Kind w' k T := by
  obtain ⟨cs, fr, h⟩ := h
  exact ⟨cs, fr, e.block h⟩
theorem RowP.blocks {w w' : World} {base : Nat} {v : Value} {n : Nat} {Q : Nat → PodV} (h : RowP w base v n Q) (hs : ∀ k T, Kind w k T → (T = 35 ∨ T = 2) → w'.heap[k]? = w.heap[k]?) : RowP w' base v n Q := by
  have own : ∀ {e : TypeId} {z n : Nat} {v : Value} {xs : List Value}, w.ownsRow base e z v n xs → (e = 35 ∨ e = 2) → w'.ownsRow base e z v n xs := fun {e z n v xs} h he => by
    rcases h with ⟨h1, h2 | ⟨g, cap, cur, h3, h4, h5, h6⟩⟩
    · exact ⟨h1, .inl h2⟩
    · exact ⟨h1, .inr ⟨g, cap, cur, h3, h4, (hs g e ⟨cur, (0, 0), h5⟩ he).trans h5, h6⟩⟩
  exact ⟨own h.row (Or.inl rfl), fun j hj => own (h.own j hj) (Or.inr rfl), h.ok⟩
theorem cells_grown (g : Nat) : ∀ (vs : List Value) (o : Nat) (w : World), w.grownBy (w.setCells g o vs) (some g) ∧ (w.setCells g o vs).heap.size = w.heap.size
  | [], _, w => ⟨⟨rfl, rfl, rfl, Nat.le_refl _, fun _ _ _ => rfl⟩, rfl⟩
  | v :: r, o, w => by
    have h2 := cells_grown g r (o + 1) (w.setCell ⟨g, o, none⟩ v)
    have hz : (w.setCell ⟨g, o, none⟩ v).heap.size = w.heap.size := by simp
    refine ⟨⟨h2.1.os, h2.1.tape, h2.1.output, by have := h2.1.size; rw [hz] at this; exact this, fun k hk hn => (h2.1.block k (by rw [hz]; exact hk) hn).trans (Below.heap_setCell w _ v k (fun e => hn (by rw [e])))⟩, h2.2.trans hz⟩
/-- The zero pod. -/
def zpod : PodV := ⟨0, 0, false, 0, none, 0, 0, fun _ => 0, 0, 0, 0, 0⟩
theorem zpod_ok : PodOk zpod := ⟨by show (0 : Nat) ≤ _; omega, fun _ h => absurd h (Nat.not_lt_zero _), fun _ => ⟨rfl, rfl⟩, by unfold I64 zpod; simp⟩
theorem zpod_req (w : World) (b : Nat) : Req w b zpod := World.ownsRow_nil _ _ _ _
theorem zpod_is (w : World) : PodIs w zpod := (zpod_req w 0).is zpod_ok
theorem own_zero {w : World} {base n z c g : Nat} {e : TypeId} {A : Option Addr} {xs : List Value} (h : w.ownsRow base e z (.slice A n c) n xs) (hg : (Value.slice A n c).ownBlock = some g) : A = some ⟨g, 0, none⟩ := by
  rcases h.2 with ⟨e, _⟩ | ⟨g', cap, cur, e, _⟩
  · rw [e] at hg; cases hg
  · rw [e] at hg
    simp only [Value.slice.injEq] at e
    rw [e.1]
    have : g' = g := by simpa [Value.ownBlock] using hg
    rw [this]
theorem own_addr {w : World} {base n z c g : Nat} {e : TypeId} {A : Option Addr} {xs : List Value} (h : w.ownsRow base e z (.slice A n c) n xs) (hg : (Value.slice A n c).ownBlock = some g) : ∃ off, A = some ⟨g, off, none⟩ := ⟨0, own_zero h hg⟩
theorem own_blocks1 {w w' : World} {base n z : Nat} {e : TypeId} {v : Value} {xs : List Value} (h : w.ownsRow base e z v n xs) (hs : ∀ g, v.ownBlock = some g → w'.heap[g]? = w.heap[g]?) : w'.ownsRow base e z v n xs := by
  rcases h with ⟨h1, h2 | ⟨g, cap, cur, h3, h4, h5, h6⟩⟩
  · exact ⟨h1, .inl h2⟩
  · exact ⟨h1, .inr ⟨g, cap, cur, h3, h4, (hs g (by rw [h3]; rfl)).trans h5, h6⟩⟩
theorem bef_iff (x y : PodV) : befP x y = true ↔ (y.p < x.p ∨ (y.p = x.p ∧ (x.a < y.a ∨ (x.a = y.a ∧ x.k < y.k)))) := by
  unfold befP
  rw [decide_eq_true_eq, cmpP_neg]
theorem bef_no (x y : PodV) : befP x y = false ↔ ¬ (y.p < x.p ∨ (y.p = x.p ∧ (x.a < y.a ∨ (x.a = y.a ∧ x.k < y.k)))) := by
  rw [← bef_iff]
  cases befP x y <;> simp
theorem bef_asymm {x y : PodV} (h : befP x y = true) : befP y x = false := by rw [bef_iff] at h; rw [bef_no]; omega
theorem bef_irrefl (x : PodV) : befP x x = false := by rw [bef_no]; omega
theorem bef_ntrans {x y z : PodV} (h : befP x y = false) (k : befP y z = false) : befP x z = false := by rw [bef_no] at *; omega
theorem bef_under {x y z : PodV} (h : befP x y = false) (k : befP z y = true) : befP x z = false := by rw [bef_no] at *; rw [bef_iff] at k; omega
theorem bef_eq {x y : PodV} (h : befP x y = false) (k : befP y x = false) : x.k = y.k := by rw [bef_no] at *; omega
/-- The pods as a list. -/
def lst (Q : Nat → PodV) (n : Nat) : List PodV := (List.range n).map Q
theorem lst_len (Q : Nat → PodV) (n : Nat) : (lst Q n).length = n := by simp [lst]
theorem lst_get {Q : Nat → PodV} {n j : Nat} (h : j < n) : (lst Q n)[j]? = some (Q j) := by simp [lst, h]
theorem lst_mem {Q : Nat → PodV} {n : Nat} {x : PodV} : x ∈ lst Q n ↔ ∃ j, j < n ∧ Q j = x := by simp [lst]
theorem lst_succ (Q : Nat → PodV) (n : Nat) : lst Q (n + 1) = lst Q n ++ [Q n] := by simp [lst, List.range_succ]
theorem lst_congr {Q R : Nat → PodV} {n : Nat} (h : ∀ j, j < n → Q j = R j) : lst Q n = lst R n := List.map_congr_left fun j hj => h j (List.mem_range.1 hj)
theorem lst_put (Q : Nat → PodV) (n : Nat) (x : PodV) : lst (put Q n x) (n + 1) = lst Q n ++ [x] := by
  rw [lst_succ, put_at, lst_congr (R := Q) fun j hj => put_ne _ _ _ (by omega)]
/-- A pod without its request's place. -/
def nm (x : PodV) : PodV := x.at none 0
theorem nm_same {x y : PodV} (h : SameV x y) : nm x = nm y := by
  obtain ⟨A, c, rfl⟩ := h
  rfl
theorem same_nm {x y : PodV} (h : nm x = nm y) : SameV x y := ⟨x.A, x.c, by
  unfold nm PodV.at at *
  obtain ⟨x1, x2, x3, x4, x5, x6, x7, x8, x9, x10, x11, x12⟩ := x
  simp only [PodV.mk.injEq] at h
  simp only [PodV.mk.injEq]
  simp [h]⟩
theorem nm_nm (x : PodV) : nm (nm x) = nm x := rfl
theorem nm_bef (x y : PodV) : befP (nm x) (nm y) = befP x y := rfl
/-- A list to be read that lies apart from D. -/
structure Src (w : World) (D : Nat → Prop) (A : Option Addr) (n : Nat) (P : Nat → PodV) : Prop where
  rd : RdPods w A n P
  row : ∀ b off, A = some ⟨b, off, none⟩ → 0 < n → ¬ D b
  req : ∀ j, j < n → ∀ a, (P j).A = some a → 0 < (P j).m → ¬ D a.block
theorem Rd.fr {w w' : World} {D : Nat → Prop} {A : Option Addr} {n : Nat} {Z : Nat → Int} (h : Rd w A n Z) (f : Fr D w w') (hn : ∀ a, A = some a → 0 < n → ¬ D a.block) : Rd w' A n Z :=
  ⟨h.small, h.range, fun h0 => by
    obtain ⟨b, off, e, hc⟩ := h.adr h0
    exact ⟨b, off, e, fun j hj => f.cell (hc j hj) (show ¬ D b from hn ⟨b, off, none⟩ e h0)⟩⟩
theorem Cel9.fr {w w' : World} {D : Nat → Prop} {b o : Nat} {x : PodV} (h : Cel9 w b o x) (f : Fr D w w') (hn : ¬ D b) : Cel9 w' b o x :=
  ⟨f.cell h.e0 hn, f.cell h.e1 hn, f.cell h.e2 hn, f.cell h.e3 hn, f.cell h.e4 hn, f.cell h.e5 hn, f.cell h.e6 hn, f.cell h.e7 hn, f.cell h.e8 hn⟩
theorem Src.fr {w w' : World} {D D' : Nat → Prop} {A : Option Addr} {n : Nat} {P : Nat → PodV} (h : Src w D A n P) (f : Fr D w w') (hD : ∀ k, D' k → D k ∨ w.heap.size ≤ k) : Src w' D' A n P := by
  refine ⟨⟨h.rd.small, fun h0 => ?_, fun j hj => ?_⟩, fun b off e h0 hd => ?_, fun j hj a ha hm hd => ?_⟩
  · obtain ⟨b, off, e, hc⟩ := h.rd.adr h0
    exact ⟨b, off, e, fun j hj => (hc j hj).fr f (h.row b off e h0)⟩
  · have := h.rd.is j hj
    exact ⟨this.rd.fr f (fun a ha hm => h.req j hj a ha hm), this.nil, this.rng⟩
  · obtain ⟨b', off', e', hc⟩ := h.rd.adr h0
    rw [e] at e'
    simp only [Option.some.injEq, Addr.mk.injEq, and_true] at e'
    obtain ⟨rfl, rfl⟩ := e'
    rcases hD b hd with h1 | h1
    · exact h.row b off e h0 h1
    · have : b < w.heap.size := cell_lt (hc 0 h0).e0
      omega
  · rcases hD _ hd with h1 | h1
    · exact h.req j hj a ha hm h1
    · obtain ⟨b, off, e, hc⟩ := (h.rd.is j hj).rd.adr hm
      rw [ha] at e
      obtain rfl := Option.some.inj e
      have : b < w.heap.size := cell_lt (hc 0 hm)
      simp only at h1
      omega
theorem Src.keep {w w' : World} {D : Nat → Prop} {A : Option Addr} {n : Nat} {P : Nat → PodV} (h : Src w D A n P) (k : Keep w w') : Src w' D A n P := ⟨h.rd.keep k, h.row, h.req⟩
/-- What was there before the queue's blocks lies apart from them. -/
theorem src_old {w0 w : World} {D : Nat → Prop} {A : Option Addr} {n : Nat} {P : Nat → PodV} (h : RdPods w0 A n P) (k : Keep w0 w) (hD : ∀ i, D i → w0.heap.size ≤ i) : Src w D A n P := by
  refine ⟨h.keep k, fun b off e h0 hd => ?_, fun j hj a ha hm hd => ?_⟩
  · obtain ⟨b', off', e', hc⟩ := h.adr h0
    rw [e] at e'
    simp only [Option.some.injEq, Addr.mk.injEq, and_true] at e'
    obtain ⟨rfl, rfl⟩ := e'
    have : b < w0.heap.size := cell_lt (hc 0 h0).e0
    have := hD b hd
    omega
  · obtain ⟨b, off, e, hc⟩ := (h.is j hj).rd.adr hm
    rw [ha] at e
    obtain rfl := Option.some.inj e
    have : b < w0.heap.size := cell_lt (hc 0 hm)
    have := hD _ hd
    simp only at this
    omega
def addP (L : List PodV) (x : PodV) : List PodV := if x.k ∈ L.map (·.k) then L else L ++ [nm x]
def addN (L : List PodV) (P : Nat → PodV) : Nat → List PodV
  | 0 => L
  | j + 1 => addP (addN L P j) (P j)
theorem addP_len (L : List PodV) (x : PodV) : L.length ≤ (addP L x).length ∧ (addP L x).length ≤ L.length + 1 := by
  unfold addP
  split
  · omega
  · rw [List.length_append]; simp
theorem addN_len (L : List PodV) (P : Nat → PodV) : ∀ j, L.length ≤ (addN L P j).length ∧ (addN L P j).length ≤ L.length + j
  | 0 => by simp [addN]
  | j + 1 => by
    have := addN_len L P j
    have := addP_len (addN L P j) (P j)
    rw [addN]
    omega
theorem addP_mem {L : List PodV} {x y : PodV} (h : y ∈ addP L x) : y ∈ L ∨ y = nm x := by
  unfold addP at h
  split at h
  · exact Or.inl h
  · rcases List.mem_append.1 h with h | h
    · exact Or.inl h
    · exact Or.inr (List.mem_singleton.1 h)
theorem addN_mem {L : List PodV} {P : Nat → PodV} {y : PodV} : ∀ {j}, y ∈ addN L P j → y ∈ L ∨ ∃ t, t < j ∧ y = nm (P t)
  | 0, h => Or.inl h
  | j + 1, h => by
    rcases addP_mem h with h | h
    · rcases addN_mem h with h | ⟨t, ht, h⟩
      · exact Or.inl h
      · exact Or.inr ⟨t, by omega, h⟩
    · exact Or.inr ⟨j, by omega, h⟩
theorem addP_perm {L M : List PodV} (h : L.Perm M) (x : PodV) : (addP L x).Perm (addP M x) := by
  unfold addP
  have : x.k ∈ L.map (·.k) ↔ x.k ∈ M.map (·.k) := (h.map _).mem_iff
  by_cases e : x.k ∈ L.map (·.k)
  · rw [if_pos e, if_pos (this.1 e)]; exact h
  · rw [if_neg e, if_neg (fun k => e (this.2 k))]; exact h.append_right _
theorem addN_perm {L M : List PodV} (h : L.Perm M) (P : Nat → PodV) : ∀ j, (addN L P j).Perm (addN M P j)
  | 0 => h
  | j + 1 => addP_perm (addN_perm h P j) _
theorem addN_same {L : List PodV} {P R : Nat → PodV} : ∀ {j}, (∀ t, t < j → nm (P t) = nm (R t)) → addN L P j = addN L R j
  | 0, _ => rfl
  | j + 1, h => by
    rw [addN, addN, addN_same (fun t ht => h t (by omega))]
    have e := h j (by omega)
    have ek : (P j).k = (R j).k := by
      have := congrArg PodV.k e
      exact this
    unfold addP
    rw [ek, e]
def leP (x y : PodV) : Prop := befP y x = false
theorem sorted_unique : ∀ {S T : List PodV}, S.Perm T → S.Pairwise leP → T.Pairwise leP → (S.map (·.k)).Nodup → S = T
  | [], T, h, _, _, _ => h.nil_eq
  | s :: S, [], h, _, _, _ => absurd h.length_eq (by simp)
  | s :: S, t :: T, h, hs, ht, hk => by
    have e : s = t := by
      have m1 : s ∈ t :: T := h.mem_iff.1 List.mem_cons_self
      have m2 : t ∈ s :: S := h.mem_iff.2 List.mem_cons_self
      rcases List.mem_cons.1 m1 with h1 | h1
      · exact h1
      · rcases List.mem_cons.1 m2 with h2 | h2
        · exact h2.symm
        · have a := (List.pairwise_cons.1 ht).1 s h1
          have b := (List.pairwise_cons.1 hs).1 t h2
          have ek := bef_eq b a
          rw [List.map_cons, List.nodup_cons] at hk
          exact absurd (List.mem_map_of_mem (f := (·.k)) h2) (by rw [ek]; exact hk.1)
    subst e
    rw [List.map_cons, List.nodup_cons] at hk
    rw [sorted_unique (List.perm_cons s |>.1 h) (List.pairwise_cons.1 hs).2 (List.pairwise_cons.1 ht).2 hk.2]
theorem min_head {S L : List PodV} {s x : PodV} (p : (s :: S).Perm L) (hs : (s :: S).Pairwise leP) (hk : (L.map (·.k)).Nodup) (hx : nm x ∈ L) (hm : ∀ y ∈ L, befP y x = false) : s = nm x := by
  have m1 : nm x ∈ s :: S := p.mem_iff.2 hx
  have m2 : s ∈ L := p.mem_iff.1 List.mem_cons_self
  rcases List.mem_cons.1 m1 with h1 | h1
  · exact h1.symm
  · have a : leP s (nm x) := (List.pairwise_cons.1 hs).1 _ h1
    have b : befP s (nm x) = false := hm s m2
    have ek := bef_eq a b
    have hk2 : ((s :: S).map (·.k)).Nodup := (p.map _).nodup_iff.2 hk
    rw [List.map_cons, List.nodup_cons] at hk2
    exact absurd (List.mem_map_of_mem (f := (·.k)) h1) (by rw [ek]; exact hk2.1)
/-- What a sorted copy of the queue is. -/
structure AllIs (w w' : World) (L : List PodV) (n : Nat) (v : Value) (S : Nat → PodV) : Prop where
  keep : Keep w w'
  at_ : ∃ g, v = .slice (some ⟨g, 0, none⟩) n n ∧ w.heap.size ≤ g ∧ g < w'.heap.size ∧ (∀ t, t < n * 9 → w'.frozen? ⟨g, t, none⟩ = false) ∧ RdPods w' (some ⟨g, 0, none⟩) n S ∧ ∀ j, j < n → Req w' w.heap.size (S j) ∧ PodOk (S j) ∧ (Value.slice (S j).A (S j).m (S j).c).ownBlock ≠ some g
  perm : ((lst S n).map nm).Perm L
  sort : ((lst S n).map nm).Pairwise leP
theorem perm_dk {n : Nat} {dk : Array Nat} (h : PermIn 0 n (Array.range n) dk) : ((List.range n).map fun j => dk[j]!).Perm (List.range n) := by
  obtain ⟨hs, _, hp⟩ := h
  rw [Array.size_range] at hs
  have e1 : (dk.extract 0 n).toList = (List.range n).map fun j => dk[j]! := by
    rw [Array.extract_eq_self_of_le (by omega)]
    refine List.ext_getElem? fun t => ?_
    by_cases ht : t < n
    · rw [Array.getElem?_toList, Array.getElem?_eq_getElem (by omega), List.getElem?_map, List.getElem?_range ht]
      simp only [Option.map_some, Option.some.injEq]
      rw [getElem!_pos dk t (by omega)]
    · rw [List.getElem?_eq_none (by simp; omega), List.getElem?_eq_none (by simp; omega)]
  have e2 : ((Array.range n).extract 0 n).toList = List.range n := by
    rw [Array.extract_eq_self_of_le (by simp), Array.toList_range]
  rw [e1, e2] at hp
  exact hp
theorem all_is {w w' : World} {P : Nat → PodV} {n : Nat} {v : Value} {L : List PodV} (h : Sorted7 w w' P n v) (hp : ((lst P n).map nm).Perm L) : ∃ S, AllIs w w' L n v S := by
  obtain ⟨k, g, rfl, hg, hl, hz, S, dk, hR, hq, p, s, c⟩ := h
  have hin : ∀ t, t < n → dk[t]! < n := fun t ht => by
    have := (perm_dk p).mem_iff.1 (List.mem_map.2 ⟨t, List.mem_range.2 ht, rfl⟩)
    exact List.mem_range.1 this
  have e : (lst S n).map nm = ((List.range n).map fun j => dk[j]!).map fun t => nm (P t) := by
    unfold lst
    rw [List.map_map, List.map_map]
    exact List.map_congr_left fun j hj => nm_same (c j (List.mem_range.1 hj))
  refine ⟨S, k, ⟨g, rfl, hg, hl, hz, hR, fun j hj => ?_⟩, ?_, ?_⟩
  · exact ⟨own_base (hq j hj).1 hg, (hq j hj).2⟩
  · rw [e]
    refine (((perm_dk p).map fun t => nm (P t)).trans ?_).trans hp
    unfold lst
    rw [List.map_map]
    exact List.Perm.refl _
  · unfold lst
    rw [List.map_map, List.pairwise_map]
    refine (List.pairwise_lt_range (n := n)).imp_of_mem fun {a b} ha hb hab => ?_
    have ha := List.mem_range.1 ha
    have hb := List.mem_range.1 hb
    have := s a b (Nat.zero_le _) hab hb
    show befP (S b) (S a) = false
    have e1 : befP (S b) (S a) = ltOf (cfP P) dk[b]! dk[a]! := by
      unfold befP ltOf cfP
      rw [cmp_same (c b hb) (c a ha)]
    rw [e1]
    unfold lo at this
    simp only [Bool.or_eq_false_iff] at this
    exact this.1
def zv : Value := .agg #[.int .i64 0, .int .i64 0, .bool false, .int .i64 0, .slice none 0 0, .int .i64 0, .int .i64 0, .int .i64 0, .int .i64 0]
def zo : Obj := .cells #[.int .i64 0, .int .i64 0, .bool false, .int .i64 0, .slice none 0 0, .int .i64 0, .int .i64 0, .int .i64 0, .int .i64 0] 35
theorem req_other {w w' : World} {base : Nat} {x : PodV} (h : Req w base x) {s0 : Nat} (hk : Kind w s0 35) (hs : ∀ k, k ≠ s0 → w'.heap[k]? = w.heap[k]?) : Req w' base x := own_blocks1 h fun g hg => hs g fun e => by
  obtain ⟨cur, h1⟩ := row_kind h hg
  obtain ⟨cs, fr, h2⟩ := hk
  rw [e, h2] at h1
  injection h1 with h1
  injection h1 with _ h1
  exact absurd h1 (by decide)
theorem rd_lay1 {W : World} {w : World} {cs : Array Value} {L : List PodV} (hk : Keep w (W.alloc (.cells cs 35))) (hl : L.length ≤ 100) (hx : ∀ x ∈ L, PodIs w x) (hc : cs = (L.flatMap PodV.cells).toArray) (d : PodV) : RdPods (W.alloc (.cells cs 35)) (some ⟨W.heap.size, 0, none⟩) L.length (fun t => L.getD t d) := by
  subst hc
  have get : ∀ (M : List PodV) (j i : Nat), j < M.length → i < 9 → (M.flatMap PodV.cells)[j * 9 + i]? = (M.getD j d).cells[i]? := by
    intro M
    induction M with
    | nil => intro j i h _; exact absurd h (Nat.not_lt_zero _)
    | cons x M ih =>
      intro j i h hi
      show (PodV.cells x ++ M.flatMap PodV.cells)[j * 9 + i]? = _
      cases j with
      | zero => rw [List.getElem?_append_left (by rw [cells9]; omega)]; simp
      | succ j =>
        rw [List.getElem?_append_right (by rw [cells9]; omega), cells9, show (j + 1) * 9 + i - 9 = j * 9 + i by omega, ih j i (by simpa using h) hi]
        rfl
  refine ⟨by omega, fun _ => ⟨_, 0, rfl, fun j hj => cel_of fun i u hu => ?_⟩, fun j hj => ?_⟩
  · have hi : i < 9 := (List.getElem?_eq_some_iff.1 hu).1
    rw [Nat.zero_add, World.cell?_alloc_new, List.getElem?_toArray, get L j i hj hi]
    exact hu
  · refine (hx _ ?_).keep hk
    rw [List.getD_eq_getElem?_getD, List.getElem?_eq_getElem hj]
    exact List.getElem_mem hj
theorem src_rd {w : World} {A : Option Addr} {n c : Nat} {P : Nat → PodV} (h : RdPods w A n P) (h0 : A = none → n = 0 ∧ c = 0) : SrcP w (.slice A n c) n (podCs P n) := by
  cases A with
  | none =>
    obtain ⟨rfl, rfl⟩ := h0 rfl
    exact .inl ⟨rfl, rfl, rfl⟩
  | some a =>
    refine .inr ⟨a, c, rfl, podCs_len _ _, fun j u hu => ?_⟩
    have hj : j < n * 9 := by have := (List.getElem?_eq_some_iff.1 hu).1; rwa [podCs_len] at this
    obtain ⟨b, off, e, hc⟩ := h.adr (by omega)
    obtain rfl := Option.some.inj e
    rw [WideShapes.add_plain]
    have hg := podCs_get P n (j / 9) (j % 9) (by omega) (Nat.mod_lt _ (by omega))
    rw [show j / 9 * 9 + j % 9 = j by omega, hu] at hg
    have hC := hc (j / 9) (by omega)
    have hm : j % 9 < 9 := Nat.mod_lt _ (by omega)
    have ej : off + j = off + j / 9 * 9 + j % 9 := by omega
    rw [ej]
    generalize j % 9 = i at hg hm ⊢
    obtain rfl | rfl | rfl | rfl | rfl | rfl | rfl | rfl | rfl : i = 0 ∨ i = 1 ∨ i = 2 ∨ i = 3 ∨ i = 4 ∨ i = 5 ∨ i = 6 ∨ i = 7 ∨ i = 8 := by omega
    · rw [Nat.add_zero, hC.e0, hg]; rfl
    · rw [hC.e1, hg]; rfl
    · rw [hC.e2, hg]; rfl
    · rw [hC.e3, hg]; rfl
    · rw [hC.e4, hg]; rfl
    · rw [hC.e5, hg]; rfl
    · rw [hC.e6, hg]; rfl
    · rw [hC.e7, hg]; rfl
    · rw [hC.e8, hg]; rfl
/-- An append to a row of the call's own, one after another. -/
theorem wpl_own {ops : Array Oper} {rest : List Oper} {o : Oper} {a : Act} {w : World} {Q : Exit → Act → World → Prop} (hgd : o.guard = none) (s x : Operand) (ho : o.op = .call { callee := .builtin .append, args := #[s, x], argTypes := #[27, 27] })
    (base : Nat) (v : Value) (n : Nat) (xs : List Value) (hs : a.eval s = v) (hown : w.ownsRow base 35 9 v n xs) (X : Value) (m : Nat) (news : List Value) (hx : a.eval x = X) (hsrc : SrcP w X m news) (h1 : ∀ u ∈ news, u.oneCell' = true)
    (hlim : n + m ≤ 1048577) (hbase : base ≤ w.heap.size) (N : Nat) (hN : n + m = N)
    (h : ∀ v' w', w'.ownsRow base 35 9 v' N (xs ++ news) → w.grownBy w' v.ownBlock → wpList Tryd.prog ops Q rest (a.put o.dst v') w') : wpList Tryd.prog ops Q (o :: rest) a w := by
  subst hN
  obtain ⟨i0, hi0, hz0, hz1, hz2⟩ := info_parts Tryd.infoPod
  rcases hsrc with ⟨rfl, rfl, rfl⟩ | ⟨ad, c, rfl, hl, hc⟩
  · exact wpList_append_own_none hgd s x 27 ho base 35 i0 9 Tryd.underlying27 hi0 v n xs hs hown hx (h v w (by rw [List.append_nil]; exact hown) ⟨rfl, rfl, rfl, Nat.le_refl _, fun _ _ _ => rfl⟩)
  · exact wpList_append_own (P := Tryd.prog) w hgd s x 27 ho base 35 i0 _ 9 88 Tryd.underlying27 hi0 hz0 hz1 hz2 rfl (by decide) v n xs hs hown ad m c news hx hl hc h1 (by unfold maxLen; omega) (by omega) hbase fun v' w' h2 h3 _ => h v' w' h2 h3
theorem fz_keep {w w' : World} {g t : Nat} (k : Keep w w') (hg : g < w.heap.size) (h : w.frozen? ⟨g, t, none⟩ = false) : w'.frozen? ⟨g, t, none⟩ = false := by
  have e : w'.heap[g]? = w.heap[g]? := (show Below w.heap.size w w' from k).block g hg
  simp only [World.frozen?, e] at h ⊢
  exact h
theorem rows_rd {w : World} {base n : Nat} {B : Option Addr} {d : Nat} {Q : Nat → PodV} (h : w.ownsRow base 35 9 (.slice B n d) n (podCs Q n)) (hn : n ≤ 1048576) (hi : ∀ j, j < n → PodIs w (Q j)) : RdPods w B n Q :=
  ⟨by omega, fun hp => by
    obtain ⟨g, cap, e, _, _⟩ := h.form hp
    have e' := e
    simp only [Value.slice.injEq] at e'
    obtain ⟨rfl, _, rfl⟩ := e'
    exact ⟨g, 0, rfl, fun t ht => row_cel h ht⟩, hi⟩
theorem src_new {w : World} {D : Nat → Prop} {cs : Array Value} {L : List PodV} (hD : ∀ k, D k → k < w.heap.size) (hl : L.length ≤ 100) (hx : ∀ x ∈ L, PodIs w x) (hn : ∀ x ∈ L, ∀ a, x.A = some a → 0 < x.m → ¬ D a.block) (hc : cs = (L.flatMap PodV.cells).toArray) (d : PodV) :
    Src (w.alloc (.cells cs 35)) D (some ⟨w.heap.size, 0, none⟩) L.length (fun t => L.getD t d) := by
  refine ⟨rd_lay1 (Keep.one _ _) hl hx hc d, fun b off e _ hd => ?_, fun j hj a ha hm => ?_⟩
  · simp only [Option.some.injEq, Addr.mk.injEq, and_true] at e
    have := hD b hd
    omega
  · refine hn _ ?_ a ha hm
    rw [List.getD_eq_getElem?_getD, List.getElem?_eq_getElem hj]
    exact List.getElem_mem hj
theorem drop_sorted {S : Nat → PodV} {m i : Nat} (h : i < m) : ((lst S m).map nm).drop i = nm (S i) :: ((lst S m).map nm).drop (i + 1) := by
  have hi : i < ((lst S m).map nm).length := by rw [List.length_map, lst_len]; exact h
  rw [List.drop_eq_getElem_cons hi]
  simp [lst]
end Go.Proofs.YtpkpmoiekjhdnaaDoor
