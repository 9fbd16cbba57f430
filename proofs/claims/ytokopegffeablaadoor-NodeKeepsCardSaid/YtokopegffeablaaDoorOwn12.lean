/-
  A store of the call's own: what the laws' walks carry. Condition: errors.errorType holds its own.
-/
import Derived.Test.YtokopegffeablaaDoorOps12
namespace Go.Proofs.YtokopegffeablaaDoor.T12
open Go.RowKit Go.Sort Go.Lib V12

/-- At w1 the store at q, made behind w, holds the nodes L. -/
def Own (SI : World → Nat → Int → Nat → (Nat → Prop) → List NodeV → Prop) (w : World) (d : Nat) (s : Int) (q : Nat) (L : List NodeV) (w1 : World) : Prop :=
  ∃ D, SI w1 d s q D L ∧ Keep w w1 ∧ ∀ i, D i → w.heap.size ≤ i
section
variable {SI : World → Nat → Int → Nat → (Nat → Prop) → List NodeV → Prop} {w w1 w2 : World} {d : Nat} {s : Int} {q : Nat} {L M : List NodeV}
theorem Own.kp (o : Own SI w d s q L w1) : Keep w w1 := by obtain ⟨D, _, k, _⟩ := o; exact k
theorem Own.keep (C : Con SI) (o : Own SI w d s q L w1) (k : Keep w1 w2) : Own SI w d s q L w2 := by
  obtain ⟨D, h, k1, hd⟩ := o
  exact ⟨D, C.keep h k, k1.trans k, hd⟩
theorem Own.eff {D : Nat → Prop} (k : Keep w w1) (hd : ∀ i, D i → w.heap.size ≤ i) (e : Eff SI d s q D w1 M w2) : Own SI w d s q M w2 := by
  obtain ⟨D', h, f, hn⟩ := e
  exact ⟨D', h, f.fr.low k hd, fun i hi => (hn i hi).elim (hd i) fun h => Nat.le_trans k.size h⟩
theorem own_new (C : Con SI) (d : Nat) (s : Int) (w0 : World) (k : Keep w w0) (hd : d ≤ 64) (h0 : 0 ≤ s) (hs : s ≤ 1000) :
    Calls Tryd.prog 5 #[.int .i64 d, .int .i64 s] w0 fun e w' => ∃ q, e = .returned (.pointer (some ⟨q, 0, none⟩)) ∧ Own SI w d s q [] w' := by
  refine (C.new d s w0 hd h0 hs).mono ?_
  rintro e w' ⟨q, rfl, D, h, k1, hq⟩
  exact ⟨q, rfl, D, h, k.trans k1, fun i hi => Nat.le_trans k.size (hq i hi)⟩
theorem own_add (C : Con SI) (o : Own SI w d s q L w1) (hg : ErrT w) (id : Int) (A : Option Addr) (n c : Nat) (Z : Nat → Int) (hv : Rd w1 A n Z) (nilA : A = none → n = 0 ∧ c = 0) (hid : I64 id) (hn : n ≤ 1000) (hd : d ≤ 64) {cc ci : Int} (e1 : addC L d s id n Z = cc) (e2 : addI d n Z = ci) (e3 : addL L d s id n Z = M) :
    Calls Tryd.prog 7 #[.pointer (some ⟨q, 0, none⟩), .agg #[.int .i64 id, .slice A n c]] w1 fun e w' => e = .returned (fltC cc ci) ∧ Own SI w d s q M w' := by
  subst e1 e2 e3
  obtain ⟨D, h, k, hD⟩ := o
  exact (C.add id A n c Z h (hg.keep k) hv nilA hid hn hd).mono fun e w' ⟨a, b⟩ => ⟨a, Own.eff k hD b⟩
theorem own_hold (C : Con SI) (o : Own SI w d s q L w1) (hg : ErrT w) (id : Int) (A : Option Addr) (n c : Nat) (Z : Nat → Int) (hv : Rd w1 A n Z) (hid : I64 id) (hn : n ≤ 1000) (hd : d ≤ 64) {cc ci : Int} (e1 : chC L d id n Z false = cc) (_ : chI L d id n Z = ci) (e3 : chL L d id n Z false = M) :
    Calls Tryd.prog 8 #[.pointer (some ⟨q, 0, none⟩), .int .i64 id, .slice A n c] w1 fun e w' => e = .returned (fltC cc 0) ∧ Own SI w d s q M w' := by
  subst e1 e3
  obtain ⟨D, h, k, hD⟩ := o
  exact (C.hold id A n c Z h (hg.keep k) hv hid hn hd).mono fun e w' ⟨a, b⟩ => ⟨a, Own.eff k hD b⟩
theorem own_rel (C : Con SI) (o : Own SI w d s q L w1) (hg : ErrT w) (id : Int) (A : Option Addr) (n c : Nat) (Z : Nat → Int) (hv : Rd w1 A n Z) (hid : I64 id) (hn : n ≤ 1000) (hd : d ≤ 64) {cc ci : Int} (e1 : chC L d id n Z true = cc) (_ : chI L d id n Z = ci) (e3 : chL L d id n Z true = M) :
    Calls Tryd.prog 9 #[.pointer (some ⟨q, 0, none⟩), .int .i64 id, .slice A n c] w1 fun e w' => e = .returned (fltC cc 0) ∧ Own SI w d s q M w' := by
  subst e1 e3
  obtain ⟨D, h, k, hD⟩ := o
  exact (C.release id A n c Z h (hg.keep k) hv hid hn hd).mono fun e w' ⟨a, b⟩ => ⟨a, Own.eff k hD b⟩
theorem own_dims (C : Con SI) (o : Own SI w d s q L w1) : Calls Tryd.prog 18 #[.pointer (some ⟨q, 0, none⟩)] w1 fun e w' => e = .returned (.int .i64 d) ∧ Keep w1 w' := by
  obtain ⟨D, h, _, _⟩ := o
  exact C.dims h
theorem own_ids (C : Con SI) (o : Own SI w d s q L w1) {n : Nat} (hn : L.length = n) {Z : Nat → Int} (hz : ∀ j, j < n → (nrow L j).k = Z j) : Calls Tryd.prog 14 #[.pointer (some ⟨q, 0, none⟩)] w1 fun e w' => ∃ A c, e = .returned (.slice A n c) ∧ Rd w' A n Z ∧ Keep w1 w' := by
  subst hn
  obtain ⟨D, h, _, _⟩ := o
  refine (C.ids h).mono ?_
  rintro e w' ⟨A, c, rfl, r, k⟩
  exact ⟨A, c, rfl, ⟨r.small, fun j hj => by rw [← hz j hj]; exact r.range j hj, fun hp => by
    obtain ⟨b, off, e, hc⟩ := r.adr hp
    exact ⟨b, off, e, fun j hj => by rw [hc j hj, hz j hj]⟩⟩, k⟩
theorem rd_same {A : Option Addr} {n : Nat} {Z Y : Nat → Int} (r : Rd w A n Z) (h : ∀ j, j < n → Z j = Y j) : Rd w A n Y :=
  ⟨r.small, fun j hj => by rw [← h j hj]; exact r.range j hj, fun hp => by
    obtain ⟨b, off, e, hc⟩ := r.adr hp
    exact ⟨b, off, e, fun j hj => by rw [hc j hj, h j hj]⟩⟩
theorem own_used (C : Con SI) (o : Own SI w d s q L w1) (id : Int) (hid : I64 id) (hk : id ∈ nkeys L) {Z : Nat → Int} (hz : ∀ j, j < d → (nget L id).U j = Z j) :
    Calls Tryd.prog 11 #[.pointer (some ⟨q, 0, none⟩), .int .i64 id] w1 fun e w' => ∃ A c, e = .returned (.slice A d c) ∧ Rd w' A d Z ∧ Keep w1 w' := by
  obtain ⟨D, h, _, _⟩ := o
  refine (C.used id h hid).mono ?_
  rintro e w' ⟨A, n, c, rfl, a, _, k⟩
  obtain ⟨rfl, r, _⟩ := a hk
  exact ⟨A, c, rfl, rd_same r hz, k⟩
theorem own_free (C : Con SI) (o : Own SI w d s q L w1) (id : Int) (hid : I64 id) (hk : id ∈ nkeys L) {Z : Nat → Int} (hz : ∀ j, j < d → (nget L id).C j - (nget L id).U j = Z j) :
    Calls Tryd.prog 12 #[.pointer (some ⟨q, 0, none⟩), .int .i64 id] w1 fun e w' => ∃ A c, e = .returned (.slice A d c) ∧ Rd w' A d Z ∧ Keep w1 w' := by
  obtain ⟨D, h, _, _⟩ := o
  refine (C.free id h hid).mono ?_
  rintro e w' ⟨A, n, c, rfl, a, _, k⟩
  obtain ⟨rfl, r, _⟩ := a hk
  exact ⟨A, c, rfl, rd_same r hz, k⟩
theorem own_get (C : Con SI) (o : Own SI w d s q L w1) (id : Int) (hid : I64 id) (hk : id ∈ nkeys L) :
    Calls Tryd.prog 13 #[.pointer (some ⟨q, 0, none⟩), .int .i64 id] w1 fun e w' => ∃ A c, e = .returned (.tuple #[.agg #[.int .i64 id, .slice A d c], .bool true]) ∧ Rd w' A d (nget L id).C ∧ Keep w1 w' := by
  obtain ⟨D, h, _, _⟩ := o
  refine (C.get id h hid).mono ?_
  rintro e w' ⟨k, A, n, c, rfl, a, _, k1⟩
  obtain ⟨rfl, rfl, r, _⟩ := a hk
  rw [decide_eq_true hk]
  exact ⟨A, c, rfl, r, k1⟩
end
def two (x y : Int) : Nat → Int := fun j => if j = 0 then x else y
theorem rd_two {w : World} {b : Nat} {T : TypeId} {x y : Int} (h : w.heap[b]? = some (.cells #[.int .i64 x, .int .i64 y] T (0, 0))) (hx : I64 x) (hy : I64 y) : Rd w (some ⟨b, 0, none⟩) 2 (two x y) := by
  refine ⟨by omega, fun j _ => ?_, fun _ => ⟨b, 0, rfl, fun j hj => ?_⟩⟩
  · unfold two
    split
    · exact hx
    · exact hy
  · rw [cell_of_row w b _ _ _ _ h]
    rcases j with _ | _ | j
    · rfl
    · rfl
    · omega
theorem rd_one {w : World} {b : Nat} {T : TypeId} {x : Int} (h : w.heap[b]? = some (.cells #[.int .i64 x] T (0, 0))) (hx : I64 x) : Rd w (some ⟨b, 0, none⟩) 1 (fun _ => x) := by
  refine ⟨by omega, fun j _ => hx, fun _ => ⟨b, 0, rfl, fun j hj => ?_⟩⟩
  rw [cell_of_row w b _ _ _ _ h]
  rcases j with _ | j
  · rfl
  · omega
def La : List NodeV := addL [] 2 1 7 2 (two 5 2)
def Lb : List NodeV := chL La 2 7 2 (two 3 1) false
def Lc : List NodeV := chL Lb 2 7 2 (two 3 1) true
theorem la0 : addC [] 2 1 7 2 (two 5 2) = 0 := by decide
theorem la1 : addC La 2 1 8 2 (two 5 2) = 7 := by decide
theorem la2 : addL La 2 1 8 2 (two 5 2) = La := by rfl
theorem la3 : addC La 2 1 8 1 (fun _ => 5) = 3 := by decide
theorem la4 : addI 2 1 (fun _ => 5) = 1 := by decide
theorem la5 : addL La 2 1 8 1 (fun _ => 5) = La := by rfl
theorem lb0 : chC La 2 7 2 (two 3 1) false = 0 := by decide
theorem lb1 : chC Lb 2 7 2 (two 3 1) false = 10 := by decide
theorem lb2 : chL Lb 2 7 2 (two 3 1) false = Lb := by rfl
theorem lc0 : chC Lb 2 7 2 (two 3 1) true = 0 := by decide
theorem lc1 : chC Lc 2 7 2 (two 3 1) true = 10 := by decide
theorem lc2 : chL Lc 2 7 2 (two 3 1) true = Lc := by rfl
end Go.Proofs.YtokopegffeablaaDoor.T12
