/-
  A store of the call's own, apart from blocks that others write. Condition: errors.errorType holds its own (for Add).
-/
import Derived.Test.YtokopegffeablaaDoorInst12
namespace Go.Proofs.YtokopegffeablaaDoor.T12
open Go.RowKit Go.Sort Go.Lib V12

theorem DE.fe {d q t m : Nat} {E : List EnV} {i : Nat} (h : DE m E i) : FE d q t m E i := by
  rcases h with rfl | ⟨x, hx, rfl⟩
  · exact Or.inr (Or.inr (Or.inl rfl))
  · exact Or.inr (Or.inr (Or.inr ⟨x, hx, Or.inl rfl⟩))
/-- At w1 the store at q, made behind w, holds the nodes L; X are blocks of others. -/
def OC (w : World) (d : Nat) (s : Int) (q : Nat) (L : List NodeV) (X : Nat → Prop) (w1 : World) : Prop :=
  ∃ t m E, SC w1 d s q t m E ∧ E.map EnV.nv = L ∧ d ≤ 64 ∧ s ≤ 1000 ∧ Keep w w1 ∧ (∀ i, FE d q t m E i → w.heap.size ≤ i ∧ ¬ X i) ∧ ∀ i, X i → i < w1.heap.size
section
variable {w w1 w2 : World} {d : Nat} {s : Int} {q : Nat} {L M : List NodeV} {X Z : Nat → Prop}
theorem OC.kp (o : OC w d s q L X w1) : Keep w w1 := by
  obtain ⟨t, m, E, h, hL, hd, hs, k, hF, hX⟩ := o
  exact k
theorem OC.keep (o : OC w d s q L X w1) (k2 : Keep w1 w2) : OC w d s q L X w2 := by
  obtain ⟨t, m, E, h, hL, hd, hs, k, hF, hX⟩ := o
  exact ⟨t, m, E, h.keep k2, hL, hd, hs, k.trans k2, hF, fun i hi => Nat.lt_of_lt_of_le (hX i hi) k2.size⟩
theorem OC.own (o : OC w d s q L X w1) : Own SN w d s q L w1 := by
  obtain ⟨t, m, E, h, rfl, hd, hs, k, hF, hX⟩ := o
  exact ⟨DE m E, ⟨hd, hs, t, m, E, h, rfl, rfl⟩, k, fun i hi => (hF i hi.fe).1⟩
/-- Further blocks of others, made behind. -/
theorem OC.more (o : OC w d s q L X w1) (k2 : Keep w1 w2) (hZ : ∀ i, Z i → w1.heap.size ≤ i ∧ i < w2.heap.size) : OC w d s q L (fun i => X i ∨ Z i) w2 := by
  obtain ⟨t, m, E, h, hL, hd, hs, k, hF, hX⟩ := o
  refine ⟨t, m, E, h.keep k2, hL, hd, hs, k.trans k2, fun i hi => ⟨(hF i hi).1, ?_⟩, ?_⟩
  · rintro (h1 | h1)
    · exact (hF i hi).2 h1
    · have := (hZ i h1).1
      have := h.lt i hi
      omega
  · rintro i (h1 | h1)
    · exact Nat.lt_of_lt_of_le (hX i h1) k2.size
    · exact (hZ i h1).2
/-- Others write into their blocks. -/
theorem OC.write (o : OC w d s q L X w1) (kw : Keep w w2) (hs2 : w1.heap.size ≤ w2.heap.size) (f : ∀ k, k < w1.heap.size → ¬ X k → w2.heap[k]? = w1.heap[k]?) : OC w d s q L X w2 := by
  obtain ⟨t, m, E, h, hL, hd, hs, k, hF, hX⟩ := o
  exact ⟨t, m, E, h.frame fun i hi => f i (h.lt i hi) (hF i hi).2, hL, hd, hs, kw, hF, fun i hi => Nat.lt_of_lt_of_le (hX i hi) hs2⟩
/-- .. or into a block whose cells are of no type of the store's. -/
theorem OC.typed (o : OC w d s q L X w1) {g : Nat} {T : TypeId} (hg : Typ w1 g T) (hT : T ≠ 45 ∧ T ≠ 67 ∧ T ≠ 56 ∧ T ≠ 2) (kw : Keep w w2) (hs2 : w1.heap.size ≤ w2.heap.size) (f : ∀ k, k < w1.heap.size → ¬ k = g → w2.heap[k]? = w1.heap[k]?) : OC w d s q L X w2 := by
  obtain ⟨t, m, E, h, hL, hd, hs, k, hF, hX⟩ := o
  refine ⟨t, m, E, h.frame fun i hi => f i (h.lt i hi) (fun e => ?_), hL, hd, hs, kw, hF, fun i hi => Nat.lt_of_lt_of_le (hX i hi) hs2⟩
  subst e
  rcases h.feT hi hg with e | e | e | e
  · exact hT.1 e
  · exact hT.2.1 e
  · exact hT.2.2.1 e
  · exact hT.2.2.2 e
theorem oc_new (d : Nat) (s : Int) (w0 : World) (k : Keep w w0) (hd : d ≤ 64) (h0 : 0 ≤ s) (hs : s ≤ 1000) :
    Calls Tryd.prog 5 #[.int .i64 d, .int .i64 s] w0 fun e w' => ∃ q, e = .returned (.pointer (some ⟨q, 0, none⟩)) ∧ OC w d s q [] (fun _ => False) w' := by
  refine (nnew_fn d s w0 hd h0 (by unfold I64; omega)).mono ?_
  rintro e w' ⟨q, rfl, t, m, h, k1, h1, h2, h3⟩
  have := k.size
  refine ⟨q, rfl, t, m, [], h, rfl, hd, hs, k.trans k1, fun i hi => ⟨?_, id⟩, fun i hi => hi.elim⟩
  rcases hi with rfl | rfl | rfl | ⟨x, hx, _⟩
  · omega
  · omega
  · omega
  · cases hx
theorem OC.after {t m : Nat} {E : List EnV} (hd : d ≤ 64) (hs : s ≤ 1000) (k : Keep w w1) (hF : ∀ i, FE d q t m E i → w.heap.size ≤ i ∧ ¬ X i) (hX : ∀ i, X i → i < w1.heap.size) (a : After w1 w2 d s q t m E M) : OC w d s q M X w2 ∧ (∀ i, X i → w2.heap[i]? = w1.heap[i]?) ∧ ∀ i T, Typ w1 i T → T ≠ 56 → SC w1 d s q t m E → w2.heap[i]? = w1.heap[i]? := by
  obtain ⟨E', h1, h2, h3, h4, h5⟩ := a
  have low : ∀ i, DE m E i → w.heap.size ≤ i := fun i hi => (hF i hi.fe).1
  refine ⟨⟨t, m, E', h1, h2, hd, hs, h3.fr.low k low, fun i hi => ?_, fun i hi => Nat.lt_of_lt_of_le (hX i hi) h3.fr.size⟩, fun i hi => h3.fr.block i (hX i hi) fun hde => (hF i hde.fe).2 hi, fun i T hT ne h => h3.fr.block i hT.lt fun hde => ne (h.offT hde hT)⟩
  rcases h5 i hi with h6 | h6
  · exact hF i h6
  · exact ⟨Nat.le_trans k.size h6, fun hx => by have := hX i hx; omega⟩
theorem oc_add (o : OC w d s q L X w1) (hg : ErrT w) (id : Int) (A : Option Addr) (n c : Nat) (Y : Nat → Int) (hv : Rd w1 A n Y) (nilA : A = none → n = 0 ∧ c = 0) (hid : I64 id) {cc ci : Int} (e1 : addC L d s id n Y = cc) (e2 : addI d n Y = ci) (e3 : addL L d s id n Y = M) :
    Calls Tryd.prog 7 #[.pointer (some ⟨q, 0, none⟩), .agg #[.int .i64 id, .slice A n c]] w1 fun e w' => e = .returned (fltC cc ci) ∧ OC w d s q M X w' ∧ (∀ i, X i → w'.heap[i]? = w1.heap[i]?) ∧ ∀ i T, Typ w1 i T → T ≠ 56 → w'.heap[i]? = w1.heap[i]? := by
  obtain ⟨t, m, E, h, rfl, hd, hs, k, hF, hX⟩ := o
  subst e1 e2 e3
  refine (nadd_fn h (hg.keep k) id A n c Y hv nilA hid hd).mono fun _ _ ⟨he, ha⟩ => ?_
  obtain ⟨a1, a2, a3⟩ := OC.after hd hs k hF hX ha
  exact ⟨he, a1, a2, fun i T hT ne => a3 i T hT ne h⟩
theorem oc_hold (o : OC w d s q L X w1) (id : Int) (A : Option Addr) (n c : Nat) (Y : Nat → Int) (hv : Rd w1 A n Y) {cc : Int} (e1 : chC L d id n Y false = cc) (e3 : chL L d id n Y false = M) :
    Calls Tryd.prog 8 #[.pointer (some ⟨q, 0, none⟩), .int .i64 id, .slice A n c] w1 fun e w' => e = .returned (fltC cc 0) ∧ OC w d s q M X w' ∧ (∀ i, X i → w'.heap[i]? = w1.heap[i]?) ∧ ∀ i T, Typ w1 i T → T ≠ 56 → w'.heap[i]? = w1.heap[i]? := by
  obtain ⟨t, m, E, h, rfl, hd, hs, k, hF, hX⟩ := o
  subst e1 e3
  refine (nhold_fn h id A n c Y hv hd).mono fun _ _ ⟨he, ha⟩ => ?_
  obtain ⟨a1, a2, a3⟩ := OC.after hd hs k hF hX ha
  exact ⟨he, a1, a2, fun i T hT ne => a3 i T hT ne h⟩
theorem oc_release (o : OC w d s q L X w1) (id : Int) (A : Option Addr) (n c : Nat) (Y : Nat → Int) (hv : Rd w1 A n Y) {cc : Int} (e1 : chC L d id n Y true = cc) (e3 : chL L d id n Y true = M) :
    Calls Tryd.prog 9 #[.pointer (some ⟨q, 0, none⟩), .int .i64 id, .slice A n c] w1 fun e w' => e = .returned (fltC cc 0) ∧ OC w d s q M X w' ∧ (∀ i, X i → w'.heap[i]? = w1.heap[i]?) ∧ ∀ i T, Typ w1 i T → T ≠ 56 → w'.heap[i]? = w1.heap[i]? := by
  obtain ⟨t, m, E, h, rfl, hd, hs, k, hF, hX⟩ := o
  subst e1 e3
  refine (nrelease_fn h id A n c Y hv hd).mono fun _ _ ⟨he, ha⟩ => ?_
  obtain ⟨a1, a2, a3⟩ := OC.after hd hs k hF hX ha
  exact ⟨he, a1, a2, fun i T hT ne => a3 i T hT ne h⟩
/-- What the store hands back is new: apart from the store, and may be written. -/
theorem oc_used (o : OC w d s q L X w1) (id : Int) (hk : id ∈ nkeys L) {Y : Nat → Int} (hz : ∀ j, j < d → (nget L id).U j = Y j) :
    Calls Tryd.prog 11 #[.pointer (some ⟨q, 0, none⟩), .int .i64 id] w1 fun e w' => ∃ A c, e = .returned (.slice A d c) ∧ Rd w' A d Y ∧ New w1 w' A d ∧ Keep w1 w' := by
  obtain ⟨t, m, E, h, rfl, hd, hs, k, hF, hX⟩ := o
  rw [nv_keys] at hk
  refine (nused_in h hk hd).mono fun _ _ ⟨A, c, he, r, k⟩ => ⟨A, c, he, ?_, r.new, k⟩
  rw [← nv_get] at hz
  exact rd_same r.rd hz
theorem oc_free (o : OC w d s q L X w1) (id : Int) (hk : id ∈ nkeys L) {Y : Nat → Int} (hz : ∀ j, j < d → (nget L id).C j - (nget L id).U j = Y j) :
    Calls Tryd.prog 12 #[.pointer (some ⟨q, 0, none⟩), .int .i64 id] w1 fun e w' => ∃ A c, e = .returned (.slice A d c) ∧ Rd w' A d Y ∧ New w1 w' A d ∧ Keep w1 w' := by
  obtain ⟨t, m, E, h, rfl, hd, hs, k, hF, hX⟩ := o
  rw [nv_keys] at hk
  refine (nfree_in h hk hd).mono fun _ _ ⟨A, c, he, r, k⟩ => ⟨A, c, he, ?_, r.new, k⟩
  rw [← nv_get] at hz
  exact rd_same r.rd hz
theorem oc_get (o : OC w d s q L X w1) (id : Int) (hk : id ∈ nkeys L) {Y : Nat → Int} (hz : ∀ j, j < d → (nget L id).C j = Y j) :
    Calls Tryd.prog 13 #[.pointer (some ⟨q, 0, none⟩), .int .i64 id] w1 fun e w' => ∃ A c, e = .returned (.tuple #[.agg #[.int .i64 id, .slice A d c], .bool true]) ∧ Rd w' A d Y ∧ New w1 w' A d ∧ Keep w1 w' := by
  obtain ⟨t, m, E, h, rfl, hd, hs, k, hF, hX⟩ := o
  rw [nv_keys] at hk
  refine (nget_in h hk hd).mono fun _ _ ⟨A, c, he, r, k⟩ => ⟨A, c, he, ?_, r.new, k⟩
  rw [← nv_get] at hz
  exact rd_same r.rd hz
end
/-! ### A store with one node -/
def one (Y U : Nat → Int) : List NodeV := [⟨1, Y, U⟩]
theorem one_keys (Y U : Nat → Int) : nkeys (one Y U) = [1] := rfl
theorem one_get (Y U : Nat → Int) : nget (one Y U) 1 = ⟨1, Y, U⟩ := by
  unfold nget one G.get
  rw [List.find?_cons_of_pos (by simp)]
  rfl
theorem one_rep (Y U : Nat → Int) (x : NodeV) (h : x.k = 1) : G.rep NodeV.k (one Y U) x = [x] := by
  unfold one G.rep
  simp [h]
theorem one_add {n : Nat} {Y : Nat → Int} {s : Int} (hs : 0 < s) (hw : ¬ 0 ≤ wrongOf n Y 2) : addC [] 2 s 1 n Y = 0 ∧ addL [] 2 s 1 n Y = one Y (fun _ => 0) := by
  have h : addC [] 2 s 1 n Y = 0 := by
    unfold addC
    rw [if_neg (by exact_mod_cast hw), if_neg (by simp [nkeys, G.keys]), if_neg (by simp; omega)]
  refine ⟨h, ?_⟩
  unfold addL
  rw [if_pos h]
  rfl
theorem one_wrong {n : Nat} {Y : Nat → Int} {s : Int} (hw : 0 ≤ wrongOf n Y 2) : addC [] 2 s 1 n Y = 3 := by
  unfold addC
  rw [if_pos (by exact_mod_cast hw)]
theorem one_ch {Y U Z : Nat → Int} {n : Nat} {r : Bool} (h : chC (one Y U) 2 1 n Z r = 0) : chL (one Y U) 2 1 n Z r = one Y (chU r U Z) ∧ ¬ 0 ≤ wrongOf n Z 2 ∧ ∀ j, j < 2 → 0 ≤ chU r U Z j ∧ chU r U Z j ≤ Y j := by
  have hg := one_get Y U
  unfold nget at hg
  have h' := h
  unfold chC at h'
  rw [if_neg (by rw [one_keys]; simp), hg] at h'
  by_cases hw : 0 ≤ wrongOf n Z ((2 : Nat) : Int)
  · rw [if_pos hw] at h'; exact absurd h' (by decide)
  · rw [if_neg hw] at h'
    by_cases hc : chOk 2 ⟨1, Y, U⟩ r Z = true
    · refine ⟨?_, by exact_mod_cast hw, chOk_iff.1 hc⟩
      unfold chL
      rw [if_pos h, hg]
      exact one_rep _ _ _ rfl
    · rw [if_neg hc] at h'; exact absurd h' (by decide)
theorem one_not {Y U Z : Nat → Int} {n : Nat} {r : Bool} (h : chC (one Y U) 2 1 n Z r ≠ 0) : chL (one Y U) 2 1 n Z r = one Y U := by
  unfold chL
  rw [if_neg h]
theorem one_ok {Y U Z : Nat → Int} {n : Nat} {r : Bool} (hw : ¬ 0 ≤ wrongOf n Z 2) (hc : ∀ j, j < 2 → 0 ≤ chU r U Z j ∧ chU r U Z j ≤ Y j) : chC (one Y U) 2 1 n Z r = 0 := by
  have hg := one_get Y U
  unfold nget at hg
  unfold chC
  rw [if_neg (by rw [one_keys]; simp), hg, if_neg (by exact_mod_cast hw), if_pos (chOk_iff.2 hc)]
theorem flt_val (c n : Int) : flt c n = .iface 73 (.agg #[.int .i64 c, .int .i64 n]) := rfl
end Go.Proofs.YtokopegffeablaaDoor.T12
