/-
  Nodes and lists of them: what the operations do. No condition, no walk.
-/
import Derived.Test.YtokopegffeablaaDoorRefN12
import Derived.Test.YtokopegffeablaaDoorVec12
import Derived.Test.YtokopegffeablaaDoorSortG
namespace Go.Proofs.YtokopegffeablaaDoor.T12
open Go.RowKit V12

/-- A node: its id, its capacity, its usage. -/
structure NodeV where
  k : Int
  C : Nat → Int
  U : Nat → Int
def zn : NodeV := ⟨0, fun _ => 0, fun _ => 0⟩
def node (x : RnV) : NodeV := ⟨x.k, x.C, x.U⟩
theorem node_k (x : RnV) : (node x).k = x.k := rfl
abbrev nkeys (L : List NodeV) : List Int := G.keys NodeV.k L
abbrev NSrt (L : List NodeV) : Prop := G.Srt NodeV.k L
/-- The code and the index of an addition's error; what is there behind it. -/
def addC (L : List NodeV) (d : Nat) (s k : Int) (n : Nat) (Z : Nat → Int) : Int := if 0 ≤ wrongOf n Z d then 3 else if k ∈ nkeys L then 6 else if s ≤ L.length then 7 else 0
def addI (d : Nat) (n : Nat) (Z : Nat → Int) : Int := if 0 ≤ wrongOf n Z d then wrongOf n Z d else 0
def addL (L : List NodeV) (d : Nat) (s k : Int) (n : Nat) (Z : Nat → Int) : List NodeV := if addC L d s k n Z = 0 then G.ins NodeV.k ⟨k, Z, fun _ => 0⟩ L else L
/-- A usage that is changed. -/
def chU (r : Bool) (U Z : Nat → Int) (j : Nat) : Int := if r = true then U j - Z j else U j + Z j
def chOk (d : Nat) (x : NodeV) (r : Bool) (Z : Nat → Int) : Bool := (List.range d).all fun j => decide (0 ≤ chU r x.U Z j) && decide (chU r x.U Z j ≤ x.C j)
theorem chOk_iff {d : Nat} {x : NodeV} {r : Bool} {Z : Nat → Int} : chOk d x r Z = true ↔ ∀ j, j < d → 0 ≤ chU r x.U Z j ∧ chU r x.U Z j ≤ x.C j := by
  unfold chOk
  rw [List.all_eq_true]
  simp only [List.mem_range, Bool.and_eq_true, decide_eq_true_eq]
def chC (L : List NodeV) (d : Nat) (id : Int) (n : Nat) (Z : Nat → Int) (r : Bool) : Int := if id ∉ nkeys L then 5 else if 0 ≤ wrongOf n Z d then 3 else if chOk d (G.get NodeV.k zn L id) r Z = true then 0 else 10
def chI (L : List NodeV) (d : Nat) (id : Int) (n : Nat) (Z : Nat → Int) : Int := if id ∉ nkeys L then 0 else if 0 ≤ wrongOf n Z d then wrongOf n Z d else 0
def chL (L : List NodeV) (d : Nat) (id : Int) (n : Nat) (Z : Nat → Int) (r : Bool) : List NodeV := if chC L d id n Z r = 0 then G.rep NodeV.k L ⟨id, (G.get NodeV.k zn L id).C, chU r (G.get NodeV.k zn L id).U Z⟩ else L
def dropL (L : List NodeV) (id : Int) : List NodeV := G.wo NodeV.k L id
/-- A node is in order: its usage is from 0 to its capacity, which is in the limits. -/
structure NodeOk (d : Nat) (x : NodeV) : Prop where
  k : I64 x.k
  lo : ∀ j, j < d → 0 ≤ x.U j
  hi : ∀ j, j < d → x.U j ≤ x.C j
  max : ∀ j, j < d → x.C j ≤ 1099511627776
theorem wrong_no {n : Nat} {Z : Nat → Int} {d : Nat} (h : ¬ 0 ≤ wrongOf n Z d) : n = d ∧ ∀ j, j < n → 0 ≤ Z j ∧ Z j ≤ 1099511627776 := by
  rcases bad_or n Z with ⟨k, hk, hb, hj⟩ | hg
  · rw [wrongOf_bad hk hb hj] at h
    omega
  · rw [wrongOf_ok hg] at h
    refine ⟨?_, fun j hj => bad_not (hg j hj)⟩
    by_cases e : (n : Int) = (d : Int)
    · omega
    · rw [if_neg e] at h
      omega
theorem addC_zero {L : List NodeV} {d : Nat} {s k : Int} {n : Nat} {Z : Nat → Int} (h : addC L d s k n Z = 0) : ¬ 0 ≤ wrongOf n Z d ∧ k ∉ nkeys L ∧ ¬ s ≤ L.length := by
  unfold addC at h
  by_cases h1 : 0 ≤ wrongOf n Z d
  · rw [if_pos h1] at h; exact absurd h (by decide)
  · rw [if_neg h1] at h
    by_cases h2 : k ∈ nkeys L
    · rw [if_pos h2] at h; exact absurd h (by decide)
    · rw [if_neg h2] at h
      by_cases h3 : s ≤ L.length
      · rw [if_pos h3] at h; exact absurd h (by decide)
      · exact ⟨h1, h2, h3⟩
theorem chC_zero {L : List NodeV} {d : Nat} {id : Int} {n : Nat} {Z : Nat → Int} {r : Bool} (h : chC L d id n Z r = 0) : id ∈ nkeys L ∧ ¬ 0 ≤ wrongOf n Z d ∧ chOk d (G.get NodeV.k zn L id) r Z = true := by
  unfold chC at h
  by_cases h1 : id ∈ nkeys L
  · rw [if_neg (fun e => e h1)] at h
    by_cases h2 : 0 ≤ wrongOf n Z d
    · rw [if_pos h2] at h; exact absurd h (by decide)
    · rw [if_neg h2] at h
      cases h3 : chOk d (G.get NodeV.k zn L id) r Z with
      | true => exact ⟨h1, h2, rfl⟩
      | false => rw [h3] at h; exact absurd h (by decide)
  · rw [if_pos h1] at h; exact absurd h (by decide)
theorem addL_ok {L : List NodeV} {d : Nat} {s k : Int} {n : Nat} {Z : Nat → Int} (h : ∀ x ∈ L, NodeOk d x) (hk : I64 k) : ∀ x ∈ addL L d s k n Z, NodeOk d x := by
  unfold addL
  split
  · rename_i h0
    intro x hx
    have hw := (addC_zero h0).1
    obtain ⟨e, hz⟩ := wrong_no hw
    subst e
    rcases G.ins_mem.1 hx with rfl | hx
    · exact ⟨hk, fun j hj => Int.le_refl _, fun j hj => (hz j hj).1, fun j hj => (hz j hj).2⟩
    · exact h x hx
  · exact h
theorem chL_ok {L : List NodeV} {d : Nat} {id : Int} {n : Nat} {Z : Nat → Int} {r : Bool} (h : ∀ x ∈ L, NodeOk d x) : ∀ x ∈ chL L d id n Z r, NodeOk d x := by
  unfold chL
  split
  · rename_i h0
    intro x hx
    rcases G.rep_mem hx with hx | rfl
    · exact h x hx
    · obtain ⟨hid, _, hc⟩ := chC_zero h0
      obtain ⟨hm, hk⟩ := G.get_some (z := zn) hid
      have ho := h _ hm
      rw [chOk_iff] at hc
      exact ⟨by rw [← hk]; exact ho.k, fun j hj => (hc j hj).1, fun j hj => (hc j hj).2, ho.max⟩
  · exact h
theorem dropL_ok {L : List NodeV} {d : Nat} {id : Int} (h : ∀ x ∈ L, NodeOk d x) : ∀ x ∈ dropL L id, NodeOk d x := fun x hx => h x (G.wo_mem.1 hx).1
theorem addL_srt {L : List NodeV} {d : Nat} {s k : Int} {n : Nat} {Z : Nat → Int} (h : NSrt L) : NSrt (addL L d s k n Z) := by
  unfold addL
  split
  · rename_i h0
    exact G.ins_sorted h (addC_zero h0).2.1
  · exact h
theorem chL_srt {L : List NodeV} {d : Nat} {id : Int} {n : Nat} {Z : Nat → Int} {r : Bool} (h : NSrt L) : NSrt (chL L d id n Z r) := by
  unfold chL
  split
  · exact G.rep_sorted h
  · exact h
theorem dropL_srt {L : List NodeV} {id : Int} (h : NSrt L) : NSrt (dropL L id) := G.wo_sorted h
theorem addL_len (L : List NodeV) (d : Nat) (s k : Int) (n : Nat) (Z : Nat → Int) : (addL L d s k n Z).length ≤ L.length + 1 := by
  unfold addL
  have := G.ins_len (key := NodeV.k) ⟨k, Z, fun _ => 0⟩ L
  split <;> omega
theorem chL_len (L : List NodeV) (d : Nat) (id : Int) (n : Nat) (Z : Nat → Int) (r : Bool) : (chL L d id n Z r).length = L.length := by
  unfold chL
  split
  · exact G.rep_len _ _
  · rfl
theorem dropL_len (L : List NodeV) (id : Int) : (dropL L id).length ≤ L.length := G.wo_len _ _
/-- Of a node of the reference: what it reads as. -/
structure NIs (w : World) (d : Nat) (x : RnV) : Prop where
  n : x.n = d
  m : x.m = d
  rc : Rd w x.A d x.C
  ru : Rd w x.B d x.U
  na : x.A = none → x.n = 0 ∧ x.c = 0
  nb : x.B = none → x.m = 0 ∧ x.d = 0
theorem NIs.keep {w w' : World} {d : Nat} {x : RnV} (h : NIs w d x) (k : Keep w w') : NIs w' d x := ⟨h.n, h.m, h.rc.keep k, h.ru.keep k, h.na, h.nb⟩
/-- The block's cells are of a type. -/
def Typ (w : World) (b : Nat) (T : TypeId) : Prop := ∃ cs loc, w.heap[b]? = some (.cells cs T loc)
theorem Typ.lt {w : World} {b : Nat} {T : TypeId} (h : Typ w b T) : b < w.heap.size := by
  obtain ⟨cs, loc, e⟩ := h
  exact (Array.getElem?_eq_some_iff.1 e).1
theorem Typ.same {w w' : World} {b : Nat} {T : TypeId} (h : Typ w b T) (e : w'.heap[b]? = w.heap[b]?) : Typ w' b T := by
  obtain ⟨cs, loc, h⟩ := h
  exact ⟨cs, loc, e.trans h⟩
theorem Typ.keep {w w' : World} {b : Nat} {T : TypeId} (h : Typ w b T) (k : Keep w w') : Typ w' b T := by
  obtain ⟨cs, loc, h⟩ := h
  exact ⟨cs, loc, k.block h⟩
theorem Typ.set {w : World} {b : Nat} {T : TypeId} (h : Typ w b T) (p : Addr) (u : Value) : Typ (w.setCell p u) b T := by
  by_cases e : b = p.block
  · subst e
    have hlt := h.lt
    obtain ⟨cs, loc, h⟩ := h
    have h' : w.heap[p.block] = .cells cs T loc := by simpa [Array.getElem?_eq_getElem hlt] using h
    refine ⟨if p.spot.isSome then cs else cs.setIfInBounds p.off u, loc, ?_⟩
    show (w.heap.modify p.block _)[p.block]? = _
    rw [Array.getElem?_eq_getElem (by simpa using hlt), Array.getElem_modify_self, h']
  · exact h.same (Below.heap_setCell _ _ _ _ e)
theorem typ_own {w : World} {base n z c : Nat} {T : TypeId} {A : Option Addr} {xs : List Value} (h : w.ownsRow base T z (.slice A n c) n xs) : ∀ b off, A = some ⟨b, off, none⟩ → Typ w b T := by
  intro b off e
  subst e
  rcases h.2 with ⟨hv, _⟩ | ⟨g, cap, cur, hv, _, k1, _⟩
  · cases hv
  · simp only [Value.slice.injEq, Option.some.injEq, Addr.mk.injEq] at hv
    rw [hv.1.1]
    exact ⟨cur, (0, 0), k1⟩
theorem map_ins (x : RnV) : ∀ L : List RnV, (insL x L).map node = G.ins NodeV.k (node x) (L.map node)
  | [] => rfl
  | y :: L => by
    unfold insL
    simp only [List.map_cons, G.ins, bef_iff]
    by_cases h : x.k < y.k
    · rw [if_pos h, if_pos (by exact h)]; rfl
    · rw [if_neg h, if_neg (by exact h), List.map_cons, map_ins x L]
theorem map_keys (L : List RnV) : nkeys (L.map node) = keys L := by
  unfold nkeys G.keys keys
  rw [List.map_map]
  rfl
theorem map_wo (L : List RnV) (id : Int) : (woL L id).map node = dropL (L.map node) id := by
  unfold woL dropL G.wo
  rw [List.filter_map]
  rfl
theorem map_srt {L : List RnV} : NSrt (L.map node) ↔ Srt L := by
  unfold NSrt
  rw [G.srt_keys]
  show (nkeys (L.map node)).Pairwise _ ↔ _
  rw [map_keys, srt_keys]
end Go.Proofs.YtokopegffeablaaDoor.T12
