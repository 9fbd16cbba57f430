/-
  The store's functions are what the laws ask for. Condition: errors.errorType holds its own (where Con says so).
-/
import Derived.Test.YtokopegffeablaaDoorDrop12
import Derived.Test.YtokopegffeablaaDoorAwake12
import Derived.Test.YtokopegffeablaaDoorShelfE
namespace Go.Proofs.YtokopegffeablaaDoor.T12
open Go.RowKit Go.Sort Go.Lib V12

/-- The store as the laws see it: at most 64 dimensions, room for at most 1000 nodes. -/
def SN (w : World) (d : Nat) (s : Int) (q : Nat) (D : Nat → Prop) (L : List NodeV) : Prop := d ≤ 64 ∧ s ≤ 1000 ∧ SI w d s q D L
theorem After.eff {w w' : World} {d : Nat} {s : Int} {q t m : Nat} {E : List EnV} {M : List NodeV} (hd : d ≤ 64) (hs : s ≤ 1000) (h : After w w' d s q t m E M) : Eff SN d s q (DE m E) w M w' := by
  obtain ⟨E', h1, h2, h3, h4, _⟩ := h
  exact ⟨_, ⟨hd, hs, t, m, E', h1, h2.symm, rfl⟩, h3, h4⟩
theorem row_new {w w' : World} {A : Option Addr} {n c : Nat} {Z : Nat → Int} (h : Row w w' A n c Z) : Rd w' A n Z ∧ New w w' A n := ⟨h.rd, h.new⟩
theorem con12 : Con SN where
  keep := by
    rintro w w' d s q D L ⟨hd, hs, t, m, E, h, e1, e2⟩ k
    exact ⟨hd, hs, t, m, E, h.keep k, e1, e2⟩
  offV := by
    rintro w d s q D L a v ⟨hd, hs, t, m, E, h, e1, rfl⟩ hc hb
    exact h.offV hc hb
  srt := by
    rintro w d s q D L ⟨hd, hs, t, m, E, h, rfl, e2⟩
    exact (G.map_srt (ka := EnV.k) (kb := NodeV.k) nv_k).2 h.srt
  ok := by
    rintro w d s q D L ⟨hd, hs, t, m, E, h, rfl, e2⟩ x hx
    obtain ⟨y, hy, rfl⟩ := List.mem_map.1 hx
    exact (h.is y hy).ok
  len := by
    rintro w d s q D L ⟨hd, hs, t, m, E, h, rfl, e2⟩
    rw [List.length_map]
    exact h.len
  new := by
    intro d s w hd h0 hs
    refine (nnew_fn d s w hd h0 (by unfold I64; omega)).mono ?_
    rintro e w' ⟨q, rfl, t, m, h, k, h1, h2, h3⟩
    refine ⟨q, rfl, _, ⟨hd, hs, t, m, [], h, rfl, rfl⟩, k, ?_⟩
    rintro i (rfl | ⟨x, hx, _⟩)
    · exact h3
    · cases hx
  dims := by
    rintro w d s q D L ⟨hd, hs, t, m, E, h, e1, e2⟩
    exact ndims_fn h
  add := by
    rintro w d s q D L k A n c Z ⟨hd, hs, t, m, E, h, rfl, rfl⟩ hg hA nil hk _ _
    exact (nadd_fn h hg k A n c Z hA nil hk hd).mono fun _ _ ⟨he, ha⟩ => ⟨he, ha.eff hd hs⟩
  hold := by
    rintro w d s q D L id A n c Z ⟨hd, hs, t, m, E, h, rfl, rfl⟩ _ hA _ _ _
    exact (nhold_fn h id A n c Z hA hd).mono fun _ _ ⟨he, ha⟩ => ⟨he, ha.eff hd hs⟩
  release := by
    rintro w d s q D L id A n c Z ⟨hd, hs, t, m, E, h, rfl, rfl⟩ _ hA _ _ _
    exact (nrelease_fn h id A n c Z hA hd).mono fun _ _ ⟨he, ha⟩ => ⟨he, ha.eff hd hs⟩
  get := by
    rintro w d s q D L id ⟨hd, hs, t, m, E, h, rfl, e2⟩ hid
    rw [nv_keys]
    by_cases hk : id ∈ ekeys E
    · rw [decide_eq_true hk]
      refine (nget_in h hk hd).mono fun _ _ ⟨A, c, he, r, k⟩ => ⟨id, A, d, c, he, fun _ => ⟨rfl, rfl, ?_, r.new⟩, fun no => absurd hk no, k⟩
      rw [← nv_get]
      exact r.rd
    · rw [decide_eq_false hk]
      exact (nget_out h hk).mono fun _ _ ⟨he, k⟩ => ⟨0, none, 0, 0, he, fun y => absurd y hk, fun _ => ⟨rfl, rfl⟩, k⟩
  used := by
    rintro w d s q D L id ⟨hd, hs, t, m, E, h, rfl, e2⟩ hid
    rw [nv_keys]
    by_cases hk : id ∈ ekeys E
    · refine (nused_in h hk hd).mono fun _ _ ⟨A, c, he, r, k⟩ => ⟨A, d, c, he, fun _ => ⟨rfl, ?_, r.new⟩, fun no => absurd hk no, k⟩
      rw [← nv_get]
      exact r.rd
    · exact (nused_out h hk).mono fun _ _ ⟨he, k⟩ => ⟨none, 0, 0, he, fun y => absurd y hk, fun _ => rfl, k⟩
  free := by
    rintro w d s q D L id ⟨hd, hs, t, m, E, h, rfl, e2⟩ hid
    rw [nv_keys]
    by_cases hk : id ∈ ekeys E
    · refine (nfree_in h hk hd).mono fun _ _ ⟨A, c, he, r, k⟩ => ⟨A, d, c, he, fun _ => ⟨rfl, ?_, r.new⟩, fun no => absurd hk no, k⟩
      rw [← nv_get]
      exact r.rd
    · exact (nfree_out h hk).mono fun _ _ ⟨he, k⟩ => ⟨none, 0, 0, he, fun y => absurd y hk, fun _ => rfl, k⟩
  ids := by
    rintro w d s q D L ⟨hd, hs, t, m, E, h, rfl, e2⟩
    have := h.len
    rw [List.length_map]
    exact (nids_fn h (by omega)).mono fun _ _ ⟨A, c, he, r, k⟩ => ⟨A, c, he, r, k⟩
  holdNil := fun w id _ => nhold_nil w id
  usedNil := fun w id => (nused_nil w id).mono fun _ _ ⟨he, k⟩ => ⟨none, 0, he, k⟩
theorem getD_lst {Z : Nat → Int} {n j : Nat} (h : j < n) : ((List.range n).map Z).getD j 0 = Z j := by
  rw [List.getD_eq_getElem?_getD, List.getElem?_map, List.getElem?_range h]
  rfl
/-- Of two rows of the same numbers: they are the same. -/
theorem eqc12 : EqC := by
  intro w A1 A2 n c1 c2 Z h1 h2
  by_cases hn : 0 < n
  · obtain ⟨b1, o1, rfl, k1⟩ := h1.adr hn
    obtain ⟨b2, o2, rfl, k2⟩ := h2.adr hn
    have := Tryd.slices_Equal_int b1 o1 n c1 b2 o2 n c2 ((List.range n).map Z) ((List.range n).map Z) w (by simp) (by simp) h1.small h2.small
      (fun j hj => by rw [List.length_map, List.length_range] at hj; rw [getD_lst hj]; exact k1 j hj) (fun j hj => by rw [List.length_map, List.length_range] at hj; rw [getD_lst hj]; exact k2 j hj)
    refine this.mono fun e w' ⟨he', q, hq⟩ => ⟨?_, ?_⟩
    · rw [he']
      simp
    · rw [hq]
      exact (Keep.refl w).drewN q
  · obtain rfl : n = 0 := by omega
    refine (Tryd.slices_Equal_int_empty A1 A2 c1 0 c2 w (by omega)).mono fun e w' ⟨he', hq⟩ => ⟨he', ?_⟩
    rw [hq]
    exact Keep.refl w
end Go.Proofs.YtokopegffeablaaDoor.T12
