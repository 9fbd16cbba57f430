/-
  op.Clone, op.Plain, the functions that make operations. Condition: at most 1048576 amounts.
-/
import Derived.Test.YtflkeabjcbjkhaaDoorCopy
namespace Go.Proofs.YtflkeabjcbjkhaaDoor
open Go.RowKit

/-- The six cells of an operation in a variable of its own. -/
structure Box (w : World) (b : Nat) (c0 c1 c2 c3 c4 c5 : Value) : Prop where
  at_ : w.heap[b]? = some (.cells #[c0, c1, c2, c3, c4, c5] 24 (0, 0))
theorem Box.new (w : World) (c0 c1 c2 c3 c4 c5 : Value) : Box (w.alloc (.cells #[c0, c1, c2, c3, c4, c5] 24)) w.heap.size c0 c1 c2 c3 c4 c5 := ⟨heap_alloc_new w _⟩
/-- The second of two that were laid one behind the other. -/
theorem Box.new2 (w : World) (o : Obj) (c0 c1 c2 c3 c4 c5 : Value) : Box ((w.alloc o).alloc (.cells #[c0, c1, c2, c3, c4, c5] 24)) (w.heap.size + 1) c0 c1 c2 c3 c4 c5 := by
  have h := Box.new (w.alloc o) c0 c1 c2 c3 c4 c5
  rwa [World.size_alloc] at h
section
variable {w w' : World} {b : Nat} {c0 c1 c2 c3 c4 c5 : Value}
theorem Box.keep (h : Box w b c0 c1 c2 c3 c4 c5) (k : Keep w w') : Box w' b c0 c1 c2 c3 c4 c5 := ⟨k.block h.at_⟩

theorem Box.ce0 (h : Box w b c0 c1 c2 c3 c4 c5) : w.cell? ⟨b, 0, none⟩ = some c0 := by rw [cell_of_row w b _ _ _ _ h.at_]; rfl
theorem Box.fr0 (h : Box w b c0 c1 c2 c3 c4 c5) : w.frozen? ⟨b, 0, none⟩ = false := frozen_of_row w b _ _ _ h.at_
theorem Box.ce1 (h : Box w b c0 c1 c2 c3 c4 c5) : w.cell? ⟨b, 1, none⟩ = some c1 := by rw [cell_of_row w b _ _ _ _ h.at_]; rfl
theorem Box.fr1 (h : Box w b c0 c1 c2 c3 c4 c5) : w.frozen? ⟨b, 1, none⟩ = false := frozen_of_row w b _ _ _ h.at_
theorem Box.ce2 (h : Box w b c0 c1 c2 c3 c4 c5) : w.cell? ⟨b, 2, none⟩ = some c2 := by rw [cell_of_row w b _ _ _ _ h.at_]; rfl
theorem Box.fr2 (h : Box w b c0 c1 c2 c3 c4 c5) : w.frozen? ⟨b, 2, none⟩ = false := frozen_of_row w b _ _ _ h.at_
theorem Box.ce3 (h : Box w b c0 c1 c2 c3 c4 c5) : w.cell? ⟨b, 3, none⟩ = some c3 := by rw [cell_of_row w b _ _ _ _ h.at_]; rfl
theorem Box.fr3 (h : Box w b c0 c1 c2 c3 c4 c5) : w.frozen? ⟨b, 3, none⟩ = false := frozen_of_row w b _ _ _ h.at_
theorem Box.ce4 (h : Box w b c0 c1 c2 c3 c4 c5) : w.cell? ⟨b, 4, none⟩ = some c4 := by rw [cell_of_row w b _ _ _ _ h.at_]; rfl
theorem Box.fr4 (h : Box w b c0 c1 c2 c3 c4 c5) : w.frozen? ⟨b, 4, none⟩ = false := frozen_of_row w b _ _ _ h.at_
theorem Box.ce5 (h : Box w b c0 c1 c2 c3 c4 c5) : w.cell? ⟨b, 5, none⟩ = some c5 := by rw [cell_of_row w b _ _ _ _ h.at_]; rfl
theorem Box.fr5 (h : Box w b c0 c1 c2 c3 c4 c5) : w.frozen? ⟨b, 5, none⟩ = false := frozen_of_row w b _ _ _ h.at_
theorem Box.lt (h : Box w b c0 c1 c2 c3 c4 c5) : b < w.heap.size := by
  rcases Nat.lt_or_ge b w.heap.size with h' | h'
  · exact h'
  · have := h.at_; rw [Array.getElem?_eq_none h'] at this; cases this
end
theorem own_base {w : World} {base base' : Nat} {e : TypeId} {size : Nat} {v : Value} {n : Nat} {xs : List Value} (h : w.ownsRow base e size v n xs) (hb : base' ≤ base) : w.ownsRow base' e size v n xs := by
  rcases h with ⟨h1, h2 | ⟨g, cap, cur, h3, h4, h5⟩⟩
  · exact ⟨h1, .inl h2⟩
  · exact ⟨h1, .inr ⟨g, cap, cur, h3, by omega, h5⟩⟩
theorem own_set {w : World} {base : Nat} {e : TypeId} {size : Nat} {v : Value} {n : Nat} {xs : List Value} (h : w.ownsRow base e size v n xs) {a : Addr} (ha : a.block < base) (u : Value) : (w.setCell a u).ownsRow base e size v n xs := ownsRow_setCell_below h ha u

/-- What a copy is: its amounts lie in a row of its own. -/
def Copied (w : World) (k i c n : Int) (f : Bool) (m : Nat) (Z : Nat → Int) (e : Ending) (w' : World) : Prop :=
  ∃ A' cap, e = .returned (.agg #[.int .i64 k, .int .i64 i, .int .i64 c, .int .i64 n, .bool f, .slice A' m cap]) ∧ Keep w w' ∧ w'.ownsRow w.heap.size 2 1 (.slice A' m cap) m (rowL m Z)

set_option maxHeartbeats 1000000 in
theorem clone_fn (k i c n : Int) (f : Bool) (A : Option Addr) (m cp : Nat) (Z : Nat → Int) (w : World) (hA : Rd w A m Z) (h0 : A = none → m = 0 ∧ cp = 0) (hm : m ≤ 1048576) :
    Calls Tryd.prog 21 #[.agg #[.int .i64 k, .int .i64 i, .int .i64 c, .int .i64 n, .bool f, .slice A m cp]] w (Copied w k i c n f m Z) := by
  have hA := Lib.hid hA
  have h0 := Lib.hid h0
  have hm := Lib.hid hm
  go_enter Tryd.func21, Tryd.ntmps21
  go_wp2_with fail
  refine (sclone_own A m cp Z _ (hA.out.keep ?_) h0.out hm.out).mono ?_
  · repeat (first | exact Keep.refl _ | apply Keep.alloc)
  rintro e w1 ⟨A', cap, rfl, k1, hown⟩
  have B1 := (Box.new w (.int .i64 k) (.int .i64 i) (.int .i64 c) (.int .i64 n) (.bool f) (.slice A m cp)).keep ((Keep.one _ _).trans k1)
  have B2 := (Box.new2 w (.cells #[.int .i64 k, .int .i64 i, .int .i64 c, .int .i64 n, .bool f, .slice A m cp] 24) (.int .i64 0) (.int .i64 0) (.int .i64 0) (.int .i64 0) (.bool false) (.slice none 0 0)).keep k1
  have K1 := Lib.hid ((((Keep.refl w).alloc (.cells #[.int .i64 k, .int .i64 i, .int .i64 c, .int .i64 n, .bool f, .slice A m cp] 24)).alloc (.cells #[.int .i64 0, .int .i64 0, .int .i64 0, .int .i64 0, .bool false, .slice none 0 0] 24)).trans k1)
  have p0 := B1.ce0
  have p1 := B1.ce1
  have p2 := B1.ce2
  have p3 := B1.ce3
  have p4 := B1.ce4
  have p5 := B1.ce5
  have q5 := B1.fr5
  have r0 := B2.ce0
  have r1 := B2.ce1
  have r2 := B2.ce2
  have r3 := B2.ce3
  have r4 := B2.ce4
  have r5 := B2.ce5
  have s0 := B2.fr0
  have s1 := B2.fr1
  have s2 := B2.fr2
  have s3 := B2.fr3
  have s4 := B2.fr4
  have s5 := B2.fr5
  rw [World.size_alloc, World.size_alloc] at hown
  replace hown := Lib.hid hown
  clear B1 B2 k1
  go_wp2
  refine bodyPost_ret (v := .agg #[.int .i64 k, .int .i64 i, .int .i64 c, .int .i64 n, .bool f, .slice A' m cap]) (by simp [results, Tryd.results21, go_sem, *]) rfl ⟨A', cap, rfl, ?_, ?_⟩
  · have K1 := K1.out
    repeat (refine Keep.set ?_ (by simp) _)
    exact K1
  · refine own_base (base := w.heap.size + 1 + 1) ?_ (by omega)
    repeat (refine own_set ?_ (by first | omega | (simp; omega) | simp) _)
    exact hown.out

theorem Rd.kept {w : World} {A : Option Addr} {m : Nat} {Z : Nat → Int} (h : Rd w A m Z) (k : Int) : Rd w (kA k A) (kM k m) Z := by
  unfold kA kM
  by_cases hk : k = 2 ∨ k = 4
  · rw [if_pos hk, if_pos hk]; exact h
  · rw [if_neg hk, if_neg hk]; exact Rd.nil _ _ _
theorem kept_nil {A : Option Addr} {m cp : Nat} (h : A = none → m = 0 ∧ cp = 0) (k : Int) : kA k A = none → kM k m = 0 ∧ kM k cp = 0 := by
  unfold kA kM
  by_cases hk : k = 2 ∨ k = 4
  · rw [if_pos hk, if_pos hk, if_pos hk]; exact h
  · rw [if_neg hk, if_neg hk, if_neg hk]; exact fun _ => ⟨rfl, rfl⟩
theorem kM_le (k : Int) (m : Nat) : kM k m ≤ m := by
  unfold kM
  by_cases hk : k = 2 ∨ k = 4
  · rw [if_pos hk]; exact Nat.le_refl _
  · rw [if_neg hk]; exact Nat.zero_le _

set_option maxHeartbeats 1000000 in
theorem plain_fn (k i c n : Int) (f : Bool) (A : Option Addr) (m cp : Nat) (Z : Nat → Int) (w : World) (hA : Rd w A m Z) (h0 : A = none → m = 0 ∧ cp = 0) (hm : m ≤ 1048576) :
    Calls Tryd.prog 16 #[.agg #[.int .i64 k, .int .i64 i, .int .i64 c, .int .i64 n, .bool f, .slice A m cp]] w (Copied w k (kI k i) (kC k c) (kN k n) (kF k f) (kM k m) Z) := by
  have hA := Lib.hid (hA.kept k)
  have h0 := Lib.hid (kept_nil h0 k)
  have hm := Lib.hid (Nat.le_trans (kM_le k m) hm)
  go_enter Tryd.func16, Tryd.ntmps16
  go_wp2_with fail
  refine (kept_fn k i c n f A m cp _).mono ?_
  rintro e w1 ⟨rfl, k1⟩
  have B2 := Lib.hid ((Box.new2 w (.cells #[.int .i64 k, .int .i64 i, .int .i64 c, .int .i64 n, .bool f, .slice A m cp] 24) (.int .i64 0) (.int .i64 0) (.int .i64 0) (.int .i64 0) (.bool false) (.slice none 0 0)).keep k1)
  have K1 := Lib.hid ((((Keep.refl w).alloc (.cells #[.int .i64 k, .int .i64 i, .int .i64 c, .int .i64 n, .bool f, .slice A m cp] 24)).alloc (.cells #[.int .i64 0, .int .i64 0, .int .i64 0, .int .i64 0, .bool false, .slice none 0 0] 24)).trans k1)
  replace k1 := Lib.hid k1
  go_wp2_with fail
  refine (clone_fn _ _ _ _ _ (kA k A) (kM k m) (kM k cp) Z _ (hA.out.keep K1.out) h0.out hm.out).mono ?_
  rintro e w2 ⟨A', cap, rfl, k2, hown⟩
  replace B2 := B2.out.keep k2
  have hsz := K1.out.size
  replace K1 := Lib.hid (K1.out.trans k2)
  have hlt := k1.out.size
  rw [World.size_alloc, World.size_alloc] at hlt
  have r0 := B2.ce0
  have r1 := B2.ce1
  have r2 := B2.ce2
  have r3 := B2.ce3
  have r4 := B2.ce4
  have r5 := B2.ce5
  have s0 := B2.fr0
  have s1 := B2.fr1
  have s2 := B2.fr2
  have s3 := B2.fr3
  have s4 := B2.fr4
  have s5 := B2.fr5
  replace hown := Lib.hid hown
  replace k2 := Lib.hid k2
  replace hlt := Lib.hid hlt
  clear B2 hsz
  go_wp2
  refine bodyPost_ret (v := .agg #[.int .i64 k, .int .i64 (kI k i), .int .i64 (kC k c), .int .i64 (kN k n), .bool (kF k f), .slice A' (kM k m) cap]) (by simp [results, Tryd.results16, go_sem, *]) rfl ⟨A', cap, rfl, ?_, ?_⟩
  · have K1 := K1.out
    repeat (refine Keep.set ?_ (by simp) _)
    exact K1
  · have hlt := hlt.out
    refine own_base (base := w1.heap.size) ?_ (by omega)
    repeat (refine own_set ?_ (by first | omega | (simp; omega) | simp) _)
    exact hown.out

set_option maxHeartbeats 1000000 in
theorem node_fn (i : Int) (A : Option Addr) (m cp : Nat) (Z : Nat → Int) (w : World) (hA : Rd w A m Z) (h0 : A = none → m = 0 ∧ cp = 0) (hm : m ≤ 1048576) :
    Calls Tryd.prog 22 #[.int .i64 i, .slice A m cp] w (Copied w 2 i 0 0 false m Z) := by
  have hA := Lib.hid hA
  have h0 := Lib.hid h0
  have hm := Lib.hid hm
  go_enter Tryd.func22, Tryd.ntmps22
  go_wp2_with fail
  refine (clone_fn _ _ _ _ _ A m cp Z _ (hA.out.keep (Keep.one _ _)) h0.out hm.out).mono ?_
  rintro e w2 ⟨A', cap, rfl, k2, hown⟩
  have B2 := (Box.new w (.int .i64 0) (.int .i64 0) (.int .i64 0) (.int .i64 0) (.bool false) (.slice none 0 0)).keep k2
  have K1 := Lib.hid (((Keep.refl w).alloc (.cells #[.int .i64 0, .int .i64 0, .int .i64 0, .int .i64 0, .bool false, .slice none 0 0] 24)).trans k2)
  have r0 := B2.ce0
  have r1 := B2.ce1
  have r2 := B2.ce2
  have r3 := B2.ce3
  have r4 := B2.ce4
  have r5 := B2.ce5
  have s0 := B2.fr0
  have s1 := B2.fr1
  have s2 := B2.fr2
  have s3 := B2.fr3
  have s4 := B2.fr4
  have s5 := B2.fr5
  rw [World.size_alloc] at hown
  replace hown := Lib.hid hown
  replace k2 := Lib.hid k2
  clear B2
  go_wp2
  refine bodyPost_ret (v := .agg #[.int .i64 2, .int .i64 i, .int .i64 0, .int .i64 0, .bool false, .slice A' m cap]) (by simp [results, Tryd.results22, go_sem, *]) rfl ⟨A', cap, rfl, ?_, ?_⟩
  · have K1 := K1.out
    repeat (refine Keep.set ?_ (by simp) _)
    exact K1
  · refine own_base (base := w.heap.size + 1) ?_ (by omega)
    repeat (refine own_set ?_ (by first | omega | (simp; omega) | simp) _)
    exact hown.out

set_option maxHeartbeats 1000000 in
theorem pod_fn (i c n : Int) (A : Option Addr) (m cp : Nat) (Z : Nat → Int) (w : World) (hA : Rd w A m Z) (h0 : A = none → m = 0 ∧ cp = 0) (hm : m ≤ 1048576) :
    Calls Tryd.prog 23 #[.int .i64 i, .int .i64 c, .int .i64 n, .slice A m cp] w (Copied w 4 i c n false m Z) := by
  have hA := Lib.hid hA
  have h0 := Lib.hid h0
  have hm := Lib.hid hm
  go_enter Tryd.func23, Tryd.ntmps23
  go_wp2_with fail
  refine (clone_fn _ _ _ _ _ A m cp Z _ (hA.out.keep (Keep.one _ _)) h0.out hm.out).mono ?_
  rintro e w2 ⟨A', cap, rfl, k2, hown⟩
  have B2 := (Box.new w (.int .i64 0) (.int .i64 0) (.int .i64 0) (.int .i64 0) (.bool false) (.slice none 0 0)).keep k2
  have K1 := Lib.hid (((Keep.refl w).alloc (.cells #[.int .i64 0, .int .i64 0, .int .i64 0, .int .i64 0, .bool false, .slice none 0 0] 24)).trans k2)
  have r0 := B2.ce0
  have r1 := B2.ce1
  have r2 := B2.ce2
  have r3 := B2.ce3
  have r4 := B2.ce4
  have r5 := B2.ce5
  have s0 := B2.fr0
  have s1 := B2.fr1
  have s2 := B2.fr2
  have s3 := B2.fr3
  have s4 := B2.fr4
  have s5 := B2.fr5
  rw [World.size_alloc] at hown
  replace hown := Lib.hid hown
  replace k2 := Lib.hid k2
  clear B2
  go_wp2
  refine bodyPost_ret (v := .agg #[.int .i64 4, .int .i64 i, .int .i64 c, .int .i64 n, .bool false, .slice A' m cap]) (by simp [results, Tryd.results23, go_sem, *]) rfl ⟨A', cap, rfl, ?_, ?_⟩
  · have K1 := K1.out
    repeat (refine Keep.set ?_ (by simp) _)
    exact K1
  · refine own_base (base := w.heap.size + 1) ?_ (by omega)
    repeat (refine own_set ?_ (by first | omega | (simp; omega) | simp) _)
    exact hown.out

set_option maxHeartbeats 1000000 in
theorem class_fn (i n : Int) (f : Bool) (w : World) : Calls Tryd.prog 25 #[.int .i64 i, .int .i64 n, .bool f] w fun e w' => e = .returned (.agg #[.int .i64 1, .int .i64 i, .int .i64 0, .int .i64 n, .bool f, .slice none 0 0]) ∧ Keep w w' := by
  go_enter Tryd.func25, Tryd.ntmps25
  go_wp2
  refine bodyPost_ret (v := .agg #[.int .i64 1, .int .i64 i, .int .i64 0, .int .i64 n, .bool f, .slice none 0 0]) (by simp [results, Tryd.results25, go_sem]) rfl ⟨rfl, ?_⟩
  repeat (first | exact Keep.refl _ | apply Keep.alloc | apply Keep.drew | (refine Keep.set ?_ (by simp) _))

set_option maxHeartbeats 1000000 in
theorem drop_fn (i : Int) (w : World) : Calls Tryd.prog 26 #[.int .i64 i] w fun e w' => e = .returned (.agg #[.int .i64 3, .int .i64 i, .int .i64 0, .int .i64 0, .bool false, .slice none 0 0]) ∧ Keep w w' := by
  go_enter Tryd.func26, Tryd.ntmps26
  go_wp2
  refine bodyPost_ret (v := .agg #[.int .i64 3, .int .i64 i, .int .i64 0, .int .i64 0, .bool false, .slice none 0 0]) (by simp [results, Tryd.results26, go_sem]) rfl ⟨rfl, ?_⟩
  repeat (first | exact Keep.refl _ | apply Keep.alloc | apply Keep.drew | (refine Keep.set ?_ (by simp) _))

set_option maxHeartbeats 1000000 in
theorem delete_fn (i : Int) (w : World) : Calls Tryd.prog 27 #[.int .i64 i] w fun e w' => e = .returned (.agg #[.int .i64 5, .int .i64 i, .int .i64 0, .int .i64 0, .bool false, .slice none 0 0]) ∧ Keep w w' := by
  go_enter Tryd.func27, Tryd.ntmps27
  go_wp2
  refine bodyPost_ret (v := .agg #[.int .i64 5, .int .i64 i, .int .i64 0, .int .i64 0, .bool false, .slice none 0 0]) (by simp [results, Tryd.results27, go_sem]) rfl ⟨rfl, ?_⟩
  repeat (first | exact Keep.refl _ | apply Keep.alloc | apply Keep.drew | (refine Keep.set ?_ (by simp) _))

set_option maxHeartbeats 1000000 in
theorem tick_fn (n : Int) (w : World) : Calls Tryd.prog 28 #[.int .i64 n] w fun e w' => e = .returned (.agg #[.int .i64 6, .int .i64 0, .int .i64 0, .int .i64 n, .bool false, .slice none 0 0]) ∧ Keep w w' := by
  go_enter Tryd.func28, Tryd.ntmps28
  go_wp2
  refine bodyPost_ret (v := .agg #[.int .i64 6, .int .i64 0, .int .i64 0, .int .i64 n, .bool false, .slice none 0 0]) (by simp [results, Tryd.results28, go_sem]) rfl ⟨rfl, ?_⟩
  repeat (first | exact Keep.refl _ | apply Keep.alloc | apply Keep.drew | (refine Keep.set ?_ (by simp) _))

set_option maxHeartbeats 1000000 in
theorem cycle_fn  (w : World) : Calls Tryd.prog 29 #[] w fun e w' => e = .returned (.agg #[.int .i64 7, .int .i64 0, .int .i64 0, .int .i64 0, .bool false, .slice none 0 0]) ∧ Keep w w' := by
  go_enter Tryd.func29, Tryd.ntmps29
  go_wp2
  refine bodyPost_ret (v := .agg #[.int .i64 7, .int .i64 0, .int .i64 0, .int .i64 0, .bool false, .slice none 0 0]) (by simp [results, Tryd.results29, go_sem]) rfl ⟨rfl, ?_⟩
  repeat (first | exact Keep.refl _ | apply Keep.alloc | apply Keep.drew | (refine Keep.set ?_ (by simp) _))

end Go.Proofs.YtflkeabjcbjkhaaDoor
