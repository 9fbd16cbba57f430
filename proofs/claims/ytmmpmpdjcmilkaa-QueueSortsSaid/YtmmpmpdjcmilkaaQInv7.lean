/-
  A queue as a list of pods: what its methods read and leave. No condition, no walk.
-/
import Derived.Test.YtmmpmpdjcmilkaaHeaps7
import Derived.Test.YtmmpmpdjcmilkaaKSort7
import Derived.Test.YtmmpmpdjcmilkaaQClone7
namespace Go.Proofs.Ytmmpmpdjcmilkaa
open Go.RowKit Go.Sort Go.Lib Go.Shelf

/-- A pod without its request's place. -/
def nm (x : PodV) : PodV := x.at none 0
theorem nm_same {x y : PodV} (h : SameV x y) : nm x = nm y := by
  obtain ⟨A, c, rfl⟩ := h
  rfl
theorem same_nm {x y : PodV} (h : nm x = nm y) : SameV x y := ⟨x.A, x.c, by
  unfold nm PodV.at at *
  obtain ⟨x1, x2, x3, x4, x5, x6, x7, x8, x9, x10, x11, x12⟩ := x
  simp only [PodV.mk.injEq] at h
  simp only [PodV.mk.injEq]
  simp [h]⟩
theorem nm_nm (x : PodV) : nm (nm x) = nm x := rfl
theorem nm_bef (x y : PodV) : befP (nm x) (nm y) = befP x y := rfl

def QInv (w : World) (b0 b1 bq : Nat) (D : Nat → Prop) (L : List PodV) : Prop :=
  ∃ B A c n Q, QMem w b0 b1 bq B A c n Q ∧ HeapQ Q n ∧ ((lst Q n).map nm).Perm L ∧ D = Foot bq B A ∧ ∀ x ∈ L, x.m ≤ 1000
section
variable {w w' : World} {b0 b1 bq : Nat} {D : Nat → Prop} {L L' : List PodV}
theorem QInv.perm (h : QInv w b0 b1 bq D L) (p : L.Perm L') : QInv w b0 b1 bq D L' := by
  obtain ⟨B, A, c, n, Q, h1, h2, h3, h4, h5⟩ := h
  exact ⟨B, A, c, n, Q, h1, h2, h3.trans p, h4, fun x hx => h5 x (p.mem_iff.2 hx)⟩
theorem QInv.keep (h : QInv w b0 b1 bq D L) (k : Keep w w') : QInv w' b0 b1 bq D L := by
  obtain ⟨B, A, c, n, Q, h1, h2⟩ := h
  exact ⟨B, A, c, n, Q, h1.keep k, h2⟩
theorem QInv.lo (h : QInv w b0 b1 bq D L) : ∀ k, D k → b0 ≤ k ∧ k < w.heap.size := by
  obtain ⟨B, A, c, n, Q, h1, h2, h3, rfl, h5⟩ := h
  exact h1.foot_lt
theorem QInv.kind (h : QInv w b0 b1 bq D L) : ∀ k, D k → ¬ Kind w k 2 := by
  obtain ⟨B, A, c, n, Q, h1, h2, h3, rfl, h5⟩ := h
  exact h1.foot_kind
theorem QInv.len (h : QInv w b0 b1 bq D L) : L.length ≤ 1000 := by
  obtain ⟨B, A, c, n, Q, h1, h2, h3, rfl, h5⟩ := h
  have := h3.length_eq
  rw [List.length_map, lst_len] at this
  have := h1.lim
  omega
theorem QInv.keys (h : QInv w b0 b1 bq D L) : (L.map (·.k)).Nodup := by
  obtain ⟨B, A, c, n, Q, h1, h2, h3, rfl, h5⟩ := h
  obtain ⟨f, _, hP⟩ := h1.map
  have h6 : (L.map (·.k)).Perm ((lst Q n).map (·.k)) := by
    have := (h3.map (·.k)).symm
    rwa [List.map_map, show ((fun x : PodV => x.k) ∘ nm) = (fun x => x.k) from rfl] at this
  rw [h6.nodup_iff]
  unfold lst
  rw [List.map_map]
  rw [List.Nodup, List.pairwise_map]
  exact (List.nodup_range (n := n)).imp_of_mem fun hs ht ne e => ne (places_inj hP (List.mem_range.1 hs) (List.mem_range.1 ht) e)
end
theorem head_min {Q : Nat → PodV} {n : Nat} (h : HeapQ Q n) : ∀ y ∈ (lst Q n).map nm, befP y (Q 0) = false := by
  intro y hy
  obtain ⟨x, hx, rfl⟩ := List.mem_map.1 hy
  obtain ⟨j, hj, rfl⟩ := lst_mem.1 hx
  exact h.min j hj

/-- A list to be read that lies apart from D. -/
structure Src (w : World) (D : Nat → Prop) (A : Option Addr) (n : Nat) (P : Nat → PodV) : Prop where
  rd : RdPods w A n P
  row : ∀ b off, A = some ⟨b, off, none⟩ → 0 < n → ¬ D b
  req : ∀ j, j < n → ∀ a, (P j).A = some a → 0 < (P j).m → ¬ D a.block
theorem Rd.fr {w w' : World} {D : Nat → Prop} {A : Option Addr} {n : Nat} {Z : Nat → Int} (h : Rd w A n Z) (f : Fr D w w') (hn : ∀ a, A = some a → 0 < n → ¬ D a.block) : Rd w' A n Z :=
  ⟨h.small, h.range, fun h0 => by
    obtain ⟨b, off, e, hc⟩ := h.adr h0
    exact ⟨b, off, e, fun j hj => f.cell (hc j hj) (show ¬ D b from hn ⟨b, off, none⟩ e h0)⟩⟩
theorem Cel9.fr {w w' : World} {D : Nat → Prop} {b o : Nat} {x : PodV} (h : Cel9 w b o x) (f : Fr D w w') (hn : ¬ D b) : Cel9 w' b o x :=
  ⟨f.cell h.e0 hn, f.cell h.e1 hn, f.cell h.e2 hn, f.cell h.e3 hn, f.cell h.e4 hn, f.cell h.e5 hn, f.cell h.e6 hn, f.cell h.e7 hn, f.cell h.e8 hn⟩
theorem Src.fr {w w' : World} {D D' : Nat → Prop} {A : Option Addr} {n : Nat} {P : Nat → PodV} (h : Src w D A n P) (f : Fr D w w') (hD : ∀ k, D' k → D k ∨ w.heap.size ≤ k) : Src w' D' A n P := by
  refine ⟨⟨h.rd.small, fun h0 => ?_, fun j hj => ?_⟩, fun b off e h0 hd => ?_, fun j hj a ha hm hd => ?_⟩
  · obtain ⟨b, off, e, hc⟩ := h.rd.adr h0
    exact ⟨b, off, e, fun j hj => (hc j hj).fr f (h.row b off e h0)⟩
  · have := h.rd.is j hj
    exact ⟨this.rd.fr f (fun a ha hm => h.req j hj a ha hm), this.nil, this.rng⟩
  · obtain ⟨b', off', e', hc⟩ := h.rd.adr h0
    rw [e] at e'
    simp only [Option.some.injEq, Addr.mk.injEq, and_true] at e'
    obtain ⟨rfl, rfl⟩ := e'
    rcases hD b hd with h1 | h1
    · exact h.row b off e h0 h1
    · have : b < w.heap.size := cell_lt (hc 0 h0).e0
      omega
  · rcases hD _ hd with h1 | h1
    · exact h.req j hj a ha hm h1
    · obtain ⟨b, off, e, hc⟩ := (h.rd.is j hj).rd.adr hm
      rw [ha] at e
      obtain rfl := Option.some.inj e
      have : b < w.heap.size := cell_lt (hc 0 hm)
      simp only at h1
      omega
theorem Src.keep {w w' : World} {D : Nat → Prop} {A : Option Addr} {n : Nat} {P : Nat → PodV} (h : Src w D A n P) (k : Keep w w') : Src w' D A n P := ⟨h.rd.keep k, h.row, h.req⟩
/-- What was there before the queue's blocks lies apart from them. -/
theorem src_old {w0 w : World} {D : Nat → Prop} {A : Option Addr} {n : Nat} {P : Nat → PodV} (h : RdPods w0 A n P) (k : Keep w0 w) (hD : ∀ i, D i → w0.heap.size ≤ i) : Src w D A n P := by
  refine ⟨h.keep k, fun b off e h0 hd => ?_, fun j hj a ha hm hd => ?_⟩
  · obtain ⟨b', off', e', hc⟩ := h.adr h0
    rw [e] at e'
    simp only [Option.some.injEq, Addr.mk.injEq, and_true] at e'
    obtain ⟨rfl, rfl⟩ := e'
    have : b < w0.heap.size := cell_lt (hc 0 h0).e0
    have := hD b hd
    omega
  · obtain ⟨b, off, e, hc⟩ := (h.is j hj).rd.adr hm
    rw [ha] at e
    obtain rfl := Option.some.inj e
    have : b < w0.heap.size := cell_lt (hc 0 hm)
    have := hD _ hd
    simp only at this
    omega

/-! ### Pods added by their IDs -/
def addP (L : List PodV) (x : PodV) : List PodV := if x.k ∈ L.map (·.k) then L else L ++ [nm x]
def addN (L : List PodV) (P : Nat → PodV) : Nat → List PodV
  | 0 => L
  | j + 1 => addP (addN L P j) (P j)
theorem addP_len (L : List PodV) (x : PodV) : L.length ≤ (addP L x).length ∧ (addP L x).length ≤ L.length + 1 := by
  unfold addP
  split
  · omega
  · rw [List.length_append]; simp
theorem addN_len (L : List PodV) (P : Nat → PodV) : ∀ j, L.length ≤ (addN L P j).length ∧ (addN L P j).length ≤ L.length + j
  | 0 => by simp [addN]
  | j + 1 => by
    have := addN_len L P j
    have := addP_len (addN L P j) (P j)
    rw [addN]
    omega
theorem addP_mem {L : List PodV} {x y : PodV} (h : y ∈ addP L x) : y ∈ L ∨ y = nm x := by
  unfold addP at h
  split at h
  · exact Or.inl h
  · rcases List.mem_append.1 h with h | h
    · exact Or.inl h
    · exact Or.inr (List.mem_singleton.1 h)
theorem addN_mem {L : List PodV} {P : Nat → PodV} {y : PodV} : ∀ {j}, y ∈ addN L P j → y ∈ L ∨ ∃ t, t < j ∧ y = nm (P t)
  | 0, h => Or.inl h
  | j + 1, h => by
    rcases addP_mem h with h | h
    · rcases addN_mem h with h | ⟨t, ht, h⟩
      · exact Or.inl h
      · exact Or.inr ⟨t, by omega, h⟩
    · exact Or.inr ⟨j, by omega, h⟩
theorem addP_perm {L M : List PodV} (h : L.Perm M) (x : PodV) : (addP L x).Perm (addP M x) := by
  unfold addP
  have : x.k ∈ L.map (·.k) ↔ x.k ∈ M.map (·.k) := (h.map _).mem_iff
  by_cases e : x.k ∈ L.map (·.k)
  · rw [if_pos e, if_pos (this.1 e)]; exact h
  · rw [if_neg e, if_neg (fun k => e (this.2 k))]; exact h.append_right _
theorem addN_perm {L M : List PodV} (h : L.Perm M) (P : Nat → PodV) : ∀ j, (addN L P j).Perm (addN M P j)
  | 0 => h
  | j + 1 => addP_perm (addN_perm h P j) _
theorem addN_same {L : List PodV} {P R : Nat → PodV} : ∀ {j}, (∀ t, t < j → nm (P t) = nm (R t)) → addN L P j = addN L R j
  | 0, _ => rfl
  | j + 1, h => by
    rw [addN, addN, addN_same (fun t ht => h t (by omega))]
    have e := h j (by omega)
    have ek : (P j).k = (R j).k := by
      have := congrArg PodV.k e
      exact this
    unfold addP
    rw [ek, e]

/-! ### Sorted lists -/
def leP (x y : PodV) : Prop := befP y x = false
theorem sorted_unique : ∀ {S T : List PodV}, S.Perm T → S.Pairwise leP → T.Pairwise leP → (S.map (·.k)).Nodup → S = T
  | [], T, h, _, _, _ => h.nil_eq
  | s :: S, [], h, _, _, _ => absurd h.length_eq (by simp)
  | s :: S, t :: T, h, hs, ht, hk => by
    have e : s = t := by
      have m1 : s ∈ t :: T := h.mem_iff.1 List.mem_cons_self
      have m2 : t ∈ s :: S := h.mem_iff.2 List.mem_cons_self
      rcases List.mem_cons.1 m1 with h1 | h1
      · exact h1
      · rcases List.mem_cons.1 m2 with h2 | h2
        · exact h2.symm
        · have a := (List.pairwise_cons.1 ht).1 s h1
          have b := (List.pairwise_cons.1 hs).1 t h2
          have ek := bef_eq b a
          rw [List.map_cons, List.nodup_cons] at hk
          exact absurd (List.mem_map_of_mem (f := (·.k)) h2) (by rw [ek]; exact hk.1)
    subst e
    rw [List.map_cons, List.nodup_cons] at hk
    rw [sorted_unique (List.perm_cons s |>.1 h) (List.pairwise_cons.1 hs).2 (List.pairwise_cons.1 ht).2 hk.2]
theorem min_head {S L : List PodV} {s x : PodV} (p : (s :: S).Perm L) (hs : (s :: S).Pairwise leP) (hk : (L.map (·.k)).Nodup) (hx : nm x ∈ L) (hm : ∀ y ∈ L, befP y x = false) : s = nm x := by
  have m1 : nm x ∈ s :: S := p.mem_iff.2 hx
  have m2 : s ∈ L := p.mem_iff.1 List.mem_cons_self
  rcases List.mem_cons.1 m1 with h1 | h1
  · exact h1.symm
  · have a : leP s (nm x) := (List.pairwise_cons.1 hs).1 _ h1
    have b : befP s (nm x) = false := hm s m2
    have ek := bef_eq a b
    have hk2 : ((s :: S).map (·.k)).Nodup := (p.map _).nodup_iff.2 hk
    rw [List.map_cons, List.nodup_cons] at hk2
    exact absurd (List.mem_map_of_mem (f := (·.k)) h1) (by rw [ek]; exact hk2.1)
end Go.Proofs.Ytmmpmpdjcmilkaa
