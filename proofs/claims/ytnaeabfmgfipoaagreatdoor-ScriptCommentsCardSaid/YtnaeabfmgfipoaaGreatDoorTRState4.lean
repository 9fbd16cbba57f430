/-
  How far the reference's Parse has come, in memory. No condition.
-/
import Derived.Test.YtnaeabfmgfipoaaGreatDoorBase5
namespace Go.Proofs.YtnaeabfmgfipoaaGreatDoor
open Go.RowKit

structure RB (w : World) (bo br : Nat) (d : OpD) (av : Value) (wr : World) : Prop where
  box : Box wr bo (.int .i64 d.kind) (.int .i64 d.id) (.int .i64 d.cls) (.int .i64 d.n) (.bool d.flag) av
  res : Box wr br (.int .i64 0) (.int .i64 0) (.int .i64 0) (.int .i64 0) (.bool false) (.slice none 0 0)
  own : wr.ownsRow w.heap.size 2 1 av d.amounts.length (ints d.amounts)
  keep : Keep w wr
  ge : w.heap.size ≤ bo ∧ w.heap.size ≤ br
  ne : bo ≠ br
section
variable {w : World} {bo br : Nat} {d : OpD} {av : Value} {wr w2 : World}
theorem RB.kept (h : RB w bo br d av wr) (k : Keep wr w2) : RB w bo br d av w2 :=
  ⟨h.box.keep k, h.res.keep k, own_keep h.own k, h.keep.trans k, h.ge, h.ne⟩
/-- A row of something else has grown. -/
theorem RB.grown (h : RB w bo br d av wr) {base n z : Nat} {e : TypeId} {v : Value} {xs : List Value} (ho : wr.ownsRow base e z v n xs) (hb : w.heap.size ≤ base) (he : e ≠ 34) (he2 : e ≠ 2) (hg : wr.grownBy w2 v.ownBlock) : RB w bo br d av w2 := by
  have O : Off (fun k => v.ownBlock = some k) wr w2 := ⟨hg.os, hg.tape, hg.output, hg.size, fun k hk hn => hg.block k hk (by intro e; exact hn (by first | exact e | exact e.symm))⟩
  refine ⟨h.box.off O (own_other ho h.box.at_ (fun e => he e.symm)), h.res.off O (own_other ho h.res.at_ (fun e => he e.symm)), h.own.kept hg (rows_apart h.own ho (fun e => he2 e.symm)), O.keep h.keep (fun k hk => ?_), h.ge, h.ne⟩
  exact Nat.le_trans hb (ho.lt k hk).1
theorem RB.notl (h : RB w bo br d av wr) : ∀ k, av.ownBlock = some k → ¬ (k = bo ∨ k = br) := by
  rintro k hk (rfl | rfl)
  · exact own_other h.own h.box.at_ (by decide) hk
  · exact own_other h.own h.res.at_ (by decide) hk
/-- A field is written. -/
theorem RB.field (h : RB w bo br d av wr) (i : Nat) (u : Value) {d' : OpD} (ham : d'.amounts = d.amounts)
    (hb : Box (wr.setCell ⟨bo, i, none⟩ u) bo (.int .i64 d'.kind) (.int .i64 d'.id) (.int .i64 d'.cls) (.int .i64 d'.n) (.bool d'.flag) av) : RB w bo br d' av (wr.setCell ⟨bo, i, none⟩ u) := by
  have O := off_setO wr bo i u
  exact ⟨hb, h.res.off O (fun e => h.ne e.symm), by rw [ham]; exact O.own h.own (fun k hk e => h.notl k hk (Or.inl e)), O.keep h.keep (by have := h.ge; rintro i rfl; exact this.1), h.ge, h.ne⟩
theorem Box.set0 {w : World} {b : Nat} {c0 c1 c2 c3 c4 c5 : Value} (h : Box w b c0 c1 c2 c3 c4 c5) (u : Value) : Box (w.setCell ⟨b, 0, none⟩ u) b u c1 c2 c3 c4 c5 := ⟨by rw [heap_setCell_same w b 0 _ _ u h.at_]; rfl⟩
theorem RB.kind (h : RB w bo br d av wr) (x : Int) : RB w bo br { d with kind := x } av (wr.setCell ⟨bo, 0, none⟩ (.int .i64 x)) := h.field 0 _ (d' := { d with kind := x }) rfl (h.box.set0 _)
theorem RB.id (h : RB w bo br d av wr) (x : Int) : RB w bo br { d with id := x } av (wr.setCell ⟨bo, 1, none⟩ (.int .i64 x)) := h.field 1 _ (d' := { d with id := x }) rfl (h.box.set1 _)
theorem RB.cls (h : RB w bo br d av wr) (x : Int) : RB w bo br { d with cls := x } av (wr.setCell ⟨bo, 2, none⟩ (.int .i64 x)) := h.field 2 _ (d' := { d with cls := x }) rfl (h.box.set2 _)
theorem RB.n (h : RB w bo br d av wr) (x : Int) : RB w bo br { d with n := x } av (wr.setCell ⟨bo, 3, none⟩ (.int .i64 x)) := h.field 3 _ (d' := { d with n := x }) rfl (h.box.set3 _)
theorem RB.flag (h : RB w bo br d av wr) (x : Bool) : RB w bo br { d with flag := x } av (wr.setCell ⟨bo, 4, none⟩ (.bool x)) := h.field 4 _ (d' := { d with flag := x }) rfl (h.box.set4 _)
/-- A row of other elements stays while a field is written. -/
theorem row_field {base n z : Nat} {e : TypeId} {v : Value} {xs : List Value} (ho : wr.ownsRow base e z v n xs) (h : RB w bo br d av wr) (he : 34 ≠ e) (i : Nat) (u : Value) : (wr.setCell ⟨bo, i, none⟩ u).ownsRow base e z v n xs :=
  (off_setO wr bo i u).own ho (fun k hk e => own_other ho h.box.at_ he (by rw [← e]; exact hk))
theorem row_box {base n z b : Nat} {e : TypeId} {v c0 c1 c2 c3 c4 c5 : Value} {xs : List Value} (ho : wr.ownsRow base e z v n xs) (h : Box wr b c0 c1 c2 c3 c4 c5) (he : 34 ≠ e) (i : Nat) (u : Value) : (wr.setCell ⟨b, i, none⟩ u).ownsRow base e z v n xs :=
  (off_setO wr b i u).own ho (fun k hk e => own_other ho h.at_ he (by rw [← e]; exact hk))
theorem RB.grown_box (h : RB w bo br d av wr) (hg : wr.grownBy w2 av.ownBlock) : Box w2 bo (.int .i64 d.kind) (.int .i64 d.id) (.int .i64 d.cls) (.int .i64 d.n) (.bool d.flag) av := by
  have O : Off (fun k => av.ownBlock = some k) wr w2 := ⟨hg.os, hg.tape, hg.output, hg.size, fun k hk hn => hg.block k hk (by intro e; exact hn (by first | exact e | exact e.symm))⟩
  exact h.box.off O (fun e => h.notl bo e (Or.inl rfl))
/-- An amount more. -/
theorem RB.more (h : RB w bo br d av wr) {x : Int} {v2 : Value} (hown : w2.ownsRow w.heap.size 2 1 v2 (d.amounts.length + 1) (ints d.amounts ++ [.int .i64 x])) (hg : wr.grownBy w2 av.ownBlock) :
    RB w bo br { d with amounts := d.amounts ++ [x] } v2 (w2.setCell ⟨bo, 5, none⟩ v2) := by
  have O : Off (fun k => av.ownBlock = some k) wr w2 := ⟨hg.os, hg.tape, hg.output, hg.size, fun k hk hn => hg.block k hk (by intro e; exact hn (by first | exact e | exact e.symm))⟩
  have b2 := h.grown_box hg
  have r2 := h.res.off O (fun e => h.notl br e (Or.inr rfl))
  have O2 := off_setO w2 bo 5 v2
  have hown' : w2.ownsRow w.heap.size 2 1 v2 (d.amounts ++ [x]).length (ints (d.amounts ++ [x])) := by
    unfold ints at hown ⊢
    rw [List.map_append, List.length_append]
    exact hown
  refine ⟨b2.set5 _, r2.off O2 (fun e => h.ne e.symm), O2.own hown' (fun k hk e => own_other hown' b2.at_ (by decide) (by rw [← e]; exact hk)), O2.keep (O.keep h.keep (fun k hk => (h.own.lt k hk).1)) (by have := h.ge; rintro i rfl; exact this.1), h.ge, h.ne⟩
end
theorem wds_size (s : ByteArray) : ∀ i, ∀ y ∈ wds s i, y.size ≤ s.size
  | 0, y, hy => by cases hy
  | i + 1, y, hy => by
    unfold wds at hy
    split at hy
    · rcases List.mem_append.1 hy with h | h
      · exact wds_size s i y h
      · obtain rfl : y = s.extract (frm s i) i := by simpa using h
        rw [ByteArray.size_extract]
        omega
    · exact wds_size s i y hy
theorem word_size (s y : ByteArray) (hy : y ∈ wordsOf s) : y.size ≤ s.size := wds_size s _ y hy
/-- A row's j-th cell. -/
theorem row_at {w : World} {base n : Nat} {e : TypeId} {A : Option Addr} {cap : Nat} {xs : List Value} (h : w.ownsRow base e 1 (.slice A n cap) n xs) {j : Nat} {u : Value} (hj : xs[j]? = some u) : ∃ g, A = some ⟨g, 0, none⟩ ∧ w.cell? ⟨g, j, none⟩ = some u := by
  have hlt : j < xs.length := (List.getElem?_eq_some_iff.1 hj).1
  have hl := h.1
  obtain ⟨g, cap', e', _⟩ := h.form (by omega)
  injection e' with e1 e2 e3
  subst e1
  have hc := h.cells (g := g) rfl j u hj
  have hadd : (⟨g, 0, none⟩ : Addr).add j = ⟨g, j, none⟩ := by unfold Addr.add; split <;> simp_all
  rw [hadd] at hc
  exact ⟨g, rfl, hc⟩
theorem str_at (A : Option Addr) (n cp j g : Nat) (hA : A = some ⟨g, 0, none⟩) (hj : j < n) (W : World) : (Instr.indexAt 49 (.slice A n cp) (.int .i64 j)).run Tryz.prog W = .ok (.pointer (some ⟨g, j, none⟩)) W := by
  rw [hA]
  go_simp
theorem int_at (A : Option Addr) (n cp j g : Nat) (hA : A = some ⟨g, 0, none⟩) (hj : j < n) (W : World) : (Instr.indexAt 71 (.slice A n cp) (.int .i64 j)).run Tryz.prog W = .ok (.pointer (some ⟨g, j, none⟩)) W := by
  rw [hA]
  go_simp
end Go.Proofs.YtnaeabfmgfipoaaGreatDoor
