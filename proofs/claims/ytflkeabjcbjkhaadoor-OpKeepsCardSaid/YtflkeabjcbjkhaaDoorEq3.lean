/-
  The comparisons of operations: the reference's Equal. No condition.
-/
import Derived.Test.YtflkeabjcbjkhaaDoorMk
import Derived.Deep.RegionHeld3
namespace Go.Proofs.YtflkeabjcbjkhaaDoor
open Go.RowKit

/-- All fields are the same; s says whether the amounts are. -/
def eqO (k i c n : Int) (f : Bool) (k' i' c' n' : Int) (f' : Bool) (s : Bool) : Bool := decide (k = k' ∧ i = i' ∧ c = c' ∧ n = n' ∧ f = f') && s
theorem eqO_self (k i c n : Int) (f s : Bool) : eqO k i c n f k i c n f s = s := by simp [eqO]
theorem rsame_k {A B : Option Addr} {n m c d : Nat} {Z Y : Nat → Int} {w : World} (hA : Rd w A n Z) (hB : Rd w B m Y) (b : Bool) (h : sameB n Z m Y = b) :
    Calls Tryd.prog 24 #[.slice A n c, .slice B m d] w fun e w' => e = .returned (.bool b) ∧ Keep w w' := (rsame_is A B n m c d Z Y w hA hB b h).mono fun _ _ h => ⟨h.1, h.2.keep⟩
theorem vsame_k {A B : Option Addr} {n m c d : Nat} {Z Y : Nat → Int} {w : World} (hA : Rd w A n Z) (hB : Rd w B m Y) (b : Bool) (h : sameB n Z m Y = b) :
    Calls Tryd.prog 40 #[.slice A n c, .slice B m d] w fun e w' => e = .returned (.bool b) ∧ Keep w w' := (same_is A B n m c d Z Y w hA hB b h).mono fun _ _ h => ⟨h.1, h.2.keep⟩
theorem beqF {f g : Bool} (h : ¬ f = g) : (f == g) = false := by cases f <;> cases g <;> simp_all
theorem beqI {x y : Int} (h : ¬ x = y) : (x == y) = false := beq_eq_false_iff_ne.2 h

set_option maxHeartbeats 4000000 in
theorem requal_fn (k i c n : Int) (f : Bool) (A : Option Addr) (m cp : Nat) (Z : Nat → Int) (k' i' c' n' : Int) (f' : Bool) (B : Option Addr) (m' cp' : Nat) (Y : Nat → Int) (w : World) (hA : Rd w A m Z) (hB : Rd w B m' Y) (s : Bool) (hs : sameB m Z m' Y = s) :
    Calls Tryd.prog 17 #[.agg #[.int .i64 k, .int .i64 i, .int .i64 c, .int .i64 n, .bool f, .slice A m cp], .agg #[.int .i64 k', .int .i64 i', .int .i64 c', .int .i64 n', .bool f', .slice B m' cp']] w fun e w' => e = .returned (.bool (eqO k i c n f k' i' c' n' f' s)) ∧ Keep w w' := by
  replace hA := Lib.hid hA
  replace hB := Lib.hid hB
  replace hs := Lib.hid hs
  by_cases hk : k = k'
  rotate_left
  · have bk := beqI hk
    rw [show eqO k i c n f k' i' c' n' f' s = false from by simp [eqO, hk]]
    replace hk := Lib.hid hk
    go_enter Tryd.func17, Tryd.ntmps17
    go_wp2
    go_ret
    exact ⟨rfl, by repeat (first | exact Keep.refl _ | apply Keep.alloc)⟩
  subst hk
  by_cases hi : i = i'
  rotate_left
  · have bi := beqI hi
    rw [show eqO k i c n f k i' c' n' f' s = false from by simp [eqO, hi]]
    replace hi := Lib.hid hi
    go_enter Tryd.func17, Tryd.ntmps17
    go_wp2
    go_ret
    exact ⟨rfl, by repeat (first | exact Keep.refl _ | apply Keep.alloc)⟩
  subst hi
  by_cases hc : c = c'
  rotate_left
  · have bc := beqI hc
    rw [show eqO k i c n f k i c' n' f' s = false from by simp [eqO, hc]]
    replace hc := Lib.hid hc
    go_enter Tryd.func17, Tryd.ntmps17
    go_wp2
    go_ret
    exact ⟨rfl, by repeat (first | exact Keep.refl _ | apply Keep.alloc)⟩
  subst hc
  by_cases hn : n = n'
  rotate_left
  · have bn := beqI hn
    rw [show eqO k i c n f k i c n' f' s = false from by simp [eqO, hn]]
    replace hn := Lib.hid hn
    go_enter Tryd.func17, Tryd.ntmps17
    go_wp2
    go_ret
    exact ⟨rfl, by repeat (first | exact Keep.refl _ | apply Keep.alloc)⟩
  subst hn
  by_cases hf : f = f'
  rotate_left
  · have bf := beqF hf
    rw [show eqO k i c n f k i c n f' s = false from by simp [eqO, hf]]
    replace hf := Lib.hid hf
    go_enter Tryd.func17, Tryd.ntmps17
    go_wp2
    go_ret
    exact ⟨rfl, by repeat (first | exact Keep.refl _ | apply Keep.alloc)⟩
  subst hf
  rw [eqO_self]
  go_enter Tryd.func17, Tryd.ntmps17
  go_wp2_with fail
  have k0 : Keep w ((w.alloc (.cells #[.int .i64 k, .int .i64 i, .int .i64 c, .int .i64 n, .bool f, .slice A m cp] 24)).alloc (.cells #[.int .i64 k, .int .i64 i, .int .i64 c, .int .i64 n, .bool f, .slice B m' cp'] 24)) := ((Keep.refl w).alloc _).alloc _
  refine (rsame_k (hA.out.keep k0) (hB.out.keep k0) s hs.out).mono ?_
  rintro e w1 ⟨rfl, h⟩
  replace k0 := Lib.hid (k0.trans h)
  replace h := Lib.hid h
  go_wp2
  go_ret
  exact ⟨rfl, k0.out⟩

/-- What the two keep is the same. -/
def sameO (k i c n : Int) (f : Bool) (k' i' c' n' : Int) (f' : Bool) (s : Bool) : Bool := eqO k (kI k i) (kC k c) (kN k n) (kF k f) k' (kI k' i') (kC k' c') (kN k' n') (kF k' f') s
set_option maxRecDepth 100000 in
set_option maxHeartbeats 4000000 in
theorem rsameO_fn (k i c n : Int) (f : Bool) (A : Option Addr) (m cp : Nat) (Z : Nat → Int) (k' i' c' n' : Int) (f' : Bool) (B : Option Addr) (m' cp' : Nat) (Y : Nat → Int) (w : World) (hA : Rd w A m Z) (hB : Rd w B m' Y) (s : Bool) (hs : sameB (kM k m) Z (kM k' m') Y = s) :
    Calls Tryd.prog 20 #[.agg #[.int .i64 k, .int .i64 i, .int .i64 c, .int .i64 n, .bool f, .slice A m cp], .agg #[.int .i64 k', .int .i64 i', .int .i64 c', .int .i64 n', .bool f', .slice B m' cp']] w fun e w' => e = .returned (.bool (sameO k i c n f k' i' c' n' f' s)) ∧ Keep w w' := by
  replace hA := Lib.hid (hA.kept k)
  replace hB := Lib.hid (hB.kept k')
  replace hs := Lib.hid hs
  go_enter Tryd.func20, Tryd.ntmps20
  go_wp2_with fail
  have k0 : Keep w ((w.alloc (.cells #[.int .i64 k, .int .i64 i, .int .i64 c, .int .i64 n, .bool f, .slice A m cp] 24)).alloc (.cells #[.int .i64 k', .int .i64 i', .int .i64 c', .int .i64 n', .bool f', .slice B m' cp'] 24)) := ((Keep.refl w).alloc _).alloc _
  have X1 := (Box.new w (.int .i64 k) (.int .i64 i) (.int .i64 c) (.int .i64 n) (.bool f) (.slice A m cp)).keep ((Keep.refl (w.alloc (.cells #[.int .i64 k, .int .i64 i, .int .i64 c, .int .i64 n, .bool f, .slice A m cp] 24))).alloc (.cells #[.int .i64 k', .int .i64 i', .int .i64 c', .int .i64 n', .bool f', .slice B m' cp'] 24))
  have X2 := Box.new2 w (.cells #[.int .i64 k, .int .i64 i, .int .i64 c, .int .i64 n, .bool f, .slice A m cp] 24) (.int .i64 k') (.int .i64 i') (.int .i64 c') (.int .i64 n') (.bool f') (.slice B m' cp')
  obtain ⟨w0, hw0⟩ : ∃ w0, w0 = (w.alloc (.cells #[.int .i64 k, .int .i64 i, .int .i64 c, .int .i64 n, .bool f, .slice A m cp] 24)).alloc (.cells #[.int .i64 k', .int .i64 i', .int .i64 c', .int .i64 n', .bool f', .slice B m' cp'] 24) := ⟨_, rfl⟩
  rw [← hw0] at k0 X1 X2 ⊢
  have p0 := X1.ce0
  have p1 := X1.ce1
  have p2 := X1.ce2
  have p3 := X1.ce3
  have p4 := X1.ce4
  have p5 := X1.ce5
  have r0 := X2.ce0
  have r1 := X2.ce1
  have r2 := X2.ce2
  have r3 := X2.ce3
  have r4 := X2.ce4
  have r5 := X2.ce5
  replace k0 := Lib.hid k0
  clear X1 X2 hw0
  go_region_held3 (fun w' => w'.cell? ⟨w.heap.size, 0, none⟩ = some (.int .i64 k) ∧ w'.cell? ⟨w.heap.size, 1, none⟩ = some (.int .i64 i) ∧ w'.cell? ⟨w.heap.size, 2, none⟩ = some (.int .i64 c) ∧ w'.cell? ⟨w.heap.size, 3, none⟩ = some (.int .i64 n) ∧ w'.cell? ⟨w.heap.size, 4, none⟩ = some (.bool f) ∧ w'.cell? ⟨w.heap.size, 5, none⟩ = some (.slice A m cp) ∧ w'.cell? ⟨w.heap.size + 1, 0, none⟩ = some (.int .i64 k') ∧ w'.cell? ⟨w.heap.size + 1, 1, none⟩ = some (.int .i64 i') ∧ w'.cell? ⟨w.heap.size + 1, 2, none⟩ = some (.int .i64 c') ∧ w'.cell? ⟨w.heap.size + 1, 3, none⟩ = some (.int .i64 n') ∧ w'.cell? ⟨w.heap.size + 1, 4, none⟩ = some (.bool f') ∧ w'.cell? ⟨w.heap.size + 1, 5, none⟩ = some (.slice B m' cp'))
    (first | exact ⟨p0, p1, p2, p3, p4, p5, r0, r1, r2, r3, r4, r5⟩ | (go_split_ands; exact ⟨Keep.cell (by assumption) (by assumption), Keep.cell (by assumption) (by assumption), Keep.cell (by assumption) (by assumption), Keep.cell (by assumption) (by assumption), Keep.cell (by assumption) (by assumption), Keep.cell (by assumption) (by assumption), Keep.cell (by assumption) (by assumption), Keep.cell (by assumption) (by assumption), Keep.cell (by assumption) (by assumption), Keep.cell (by assumption) (by assumption), Keep.cell (by assumption) (by assumption), Keep.cell (by assumption) (by assumption)⟩) | go_keep)
    (first
      | (go_at_call_of 18 (Value.slice A m cp); refine (rplain_fn k i c n f A m cp _).mono ?_; rintro e w1 ⟨rfl, hb1⟩)
      | (go_at_call_of 18 (Value.slice B m' cp'); refine (rplain_fn k' i' c' n' f' B m' cp' _).mono ?_; rintro e w2 ⟨rfl, hb2⟩)
      | (go_at_call 17; refine (requal_fn _ _ _ _ _ (kA k A) (kM k m) (kM k cp) Z _ _ _ _ _ (kA k' B) (kM k' m') (kM k' cp') Y _ (hA.out.keep (k0.out.trans ((Keep.ofDrew hb1).trans hb2))) (hB.out.keep (k0.out.trans ((Keep.ofDrew hb1).trans hb2))) s hs.out).mono ?_; rintro e w3 ⟨rfl, hb3⟩))
  go_wp2
  go_ret
  exact ⟨rfl, (k0.out.trans ((Keep.ofDrew hb1).trans hb2)).trans hb3⟩

end Go.Proofs.YtflkeabjcbjkhaaDoor
