/-
  How far Parse has come, in memory. No condition.
  Worlds of which nothing but rows of bytes and two variables has turned. No condition.
  A row of bytes of the call's own that a conversion of a string may have made (its row bears a mark behind its last cell); what an append makes of it. Condition: at most 2^47 bytes.
  strconv.AppendInt at base 10 onto a row of bytes that a conversion may have made. Conditions: the table of powers reads as laid; at most 2^47 bytes.
  The closure that writes a number behind a line. Conditions: the table of powers reads as laid; the line takes at most 2^47 bytes.
  A line written by the table of fields is the operation's line. No condition.
  How far Line has come, in memory. Conditions: the listed variables hold their own.
  The program's Line: an operation's line. Conditions: the listed variables hold their own; at most 100 amounts.
  The program's Parse says what the words say. Conditions: the listed variables hold their own; at most 1048576 bytes.
  What the lines of a script say: skipped lines, the index of the first wrong one, lines that all are right. No condition.
-/
import Derived.Test.YtnaeabfmgfipoaaGreatDoorBase3
import Derived.Test.YtnaeabfmgfipoaaGreatDoorBase2
import Derived.Lib.ItoaLen
import Derived.Deep.AppendSrc
import Derived.Lib.ConvBytes
import Derived.Lib.ItoaWalk
import Derived.Lib.ItoaMem
import Derived.Lib.AppendIntMem
import Derived.Lib.Walk
import Derived.Lib.Slices
import Derived.WalkKit
import Derived.BigCall
import Derived.BigGuard
import Derived.CellFam
import Derived.WalkMore
import Derived.Deep.LoopGhost
import Derived.Deep.RegionLaw
import Derived.Deep.AppendLies
namespace Go.Proofs.YtnaeabfmgfipoaaGreatDoor
open Go.RowKit

/-- The next word, or an empty one. -/
theorem take_any (w : World) (bl bm : Nat) (L : List ByteArray) (h : Tk w bl bm L) : Calls Tryz.prog 56 #[.pointer (some ⟨bm, 0, none⟩), .pointer (some ⟨bl, 0, none⟩)] w fun e w' => e = .returned (.tuple #[.string (tkW L), .bool (!L.isEmpty)]) ∧ Tk w' bl bm L.tail ∧ Off (fun k => k = bl ∨ k = bm) w w' := by
  cases L with
  | nil =>
    refine (take_nil w bl bm h).mono ?_
    rintro e w' ⟨rfl, rfl⟩
    exact ⟨rfl, h, Off.refl _ _⟩
  | cons x L => exact take_cons w bl bm x L h
theorem Tk.word_le {w : World} {bl bm : Nat} {L : List ByteArray} (h : Tk w bl bm L) : (tkW L).size ≤ 1048576 := by
  cases L with
  | nil => exact Nat.zero_le _
  | cons x L => exact head_le h
theorem tk_num (L : List ByteArray) (ok : Bool) : valO (numOf (tkW L)) = tkV L ∧ ((ok && !L.isEmpty) && (numOf (tkW L)).isSome) = (ok && tkO L) := by
  cases L with
  | nil => exact ⟨by decide +kernel, by cases ok <;> rfl⟩
  | cons x L => exact ⟨rfl, by cases ok <;> rfl⟩
/-- A row of the call's own lies in no block of other elements. -/
theorem own_other {w : World} {base n z b : Nat} {e t : TypeId} {v : Value} {xs : List Value} {cs : Array Value} (h : w.ownsRow base e z v n xs) (hb : w.heap[b]? = some (.cells cs t (0, 0))) (ht : t ≠ e) : v.ownBlock ≠ some b := by
  rcases h with ⟨h1, ⟨h2, _⟩ | ⟨g, cap, cur, rfl, h4, h5, h6⟩⟩
  · rw [h2]; simp [Value.ownBlock]
  · intro hg
    have hg : g = b := by simpa [Value.ownBlock] using hg
    subst hg
    rw [h5] at hb
    simp at hb
    exact ht hb.2.symm
theorem Off.own {G : Nat → Prop} {w w' : World} (h : Off G w w') {base n : Nat} {e : TypeId} {z : Nat} {v : Value} {xs : List Value} (ho : w.ownsRow base e z v n xs) (hn : ∀ k, v.ownBlock = some k → ¬ G k) : w'.ownsRow base e z v n xs := by
  rcases ho with ⟨h1, h2 | ⟨g, cap, cur, rfl, h4, h5, h6⟩⟩
  · exact ⟨h1, .inl h2⟩
  · refine ⟨h1, .inr ⟨g, cap, cur, rfl, h4, ?_, h6⟩⟩
    exact h.heap h5 (hn g rfl)
/-- All six cells of an operation's variable are written. -/
def set6 (w : World) (b : Nat) (c0 c1 c2 c3 c4 c5 : Value) : World := (((((w.setCell ⟨b, 0, none⟩ c0).setCell ⟨b, 1, none⟩ c1).setCell ⟨b, 2, none⟩ c2).setCell ⟨b, 3, none⟩ c3).setCell ⟨b, 4, none⟩ c4).setCell ⟨b, 5, none⟩ c5
theorem Box.set6 {w : World} {b : Nat} {d0 d1 d2 d3 d4 d5 : Value} (h : Box w b d0 d1 d2 d3 d4 d5) (c0 c1 c2 c3 c4 c5 : Value) : Box (set6 w b c0 c1 c2 c3 c4 c5) b c0 c1 c2 c3 c4 c5 := by
  have h0 : Box (w.setCell ⟨b, 0, none⟩ c0) b c0 d1 d2 d3 d4 d5 := ⟨by rw [heap_setCell_same w b 0 _ _ c0 h.at_]; rfl⟩
  exact ((((h0.set1 c1).set2 c2).set3 c3).set4 c4).set5 c5
theorem off_set6 (w : World) (b : Nat) (c0 c1 c2 c3 c4 c5 : Value) : Off (fun k => k = b) w (set6 w b c0 c1 c2 c3 c4 c5) := by
  unfold Go.Proofs.YtnaeabfmgfipoaaGreatDoor.set6
  exact Off.set (G := fun k => k = b) (Off.set (G := fun k => k = b) (Off.set (G := fun k => k = b) (Off.set (G := fun k => k = b) (Off.set (G := fun k => k = b) (Off.set (G := fun k => k = b) (Off.refl _ _) rfl _) rfl _) rfl _) rfl _) rfl _) rfl _
def ints (l : List Int) : List Value := l.map (.int .i64)
structure PS (w : World) (bl bm bo bk br : Nat) (κ : Nat) (s : St) (av : Value) (wr : World) : Prop where
  tk : Tk wr bl bm s.L
  box : Box wr bo (.int .i64 κ) (.int .i64 s.id) (.int .i64 s.cls) (.int .i64 s.n) (.bool s.flag) av
  okc : One wr bk (.bool s.ok) 4
  res : Box wr br (.int .i64 0) (.int .i64 0) (.int .i64 0) (.int .i64 0) (.bool false) (.slice none 0 0)
  own : wr.ownsRow w.heap.size 2 1 av s.am.length (ints s.am)
  keep : Keep w wr
  ge : w.heap.size ≤ bl ∧ w.heap.size ≤ bm ∧ w.heap.size ≤ bo ∧ w.heap.size ≤ bk ∧ w.heap.size ≤ br
  ne : bo ≠ bl ∧ bo ≠ bm ∧ bo ≠ bk ∧ bo ≠ br ∧ bk ≠ bl ∧ bk ≠ bm ∧ bk ≠ br ∧ br ≠ bl ∧ br ≠ bm
section
variable {w : World} {bl bm bo bk br κ : Nat} {s : St} {av : Value} {wr w1 w2 : World}
theorem PS.notl (h : PS w bl bm bo bk br κ s av wr) : ∀ k, av.ownBlock = some k → ¬ (k = bl ∨ k = bm ∨ k = bk ∨ k = bo ∨ k = br) := by
  obtain ⟨t, m, a, b, _, _⟩ := h.tk.ex
  rintro k hk (rfl | rfl | rfl | rfl | rfl)
  · exact own_other h.own a.at_ (by decide) hk
  · exact own_other h.own b.at_ (by decide) hk
  · exact own_other h.own h.okc.at_ (by decide) hk
  · exact own_other h.own h.box.at_ (by decide) hk
  · exact own_other h.own h.res.at_ (by decide) hk
/-- A word has been taken. -/
theorem PS.taken (h : PS w bl bm bo bk br κ s av wr) (O : Off (fun k => k = bl ∨ k = bm) wr w1) (T : Tk w1 bl bm s.L.tail) : PS w bl bm bo bk br κ { s with L := s.L.tail } av w1 where
  tk := T
  box := h.box.off O (by have := h.ne; omega)
  okc := h.okc.off O (by have := h.ne; omega)
  res := h.res.off O (by have := h.ne; omega)
  own := O.own h.own (fun k hk e => h.notl k hk (by rcases e with e | e; exact Or.inl e; exact Or.inr (Or.inl e)))
  keep := O.keep h.keep (by have := h.ge; rintro i (rfl | rfl) <;> omega)
  ge := h.ge
  ne := h.ne
/-- A number has been read. -/
theorem PS.read (h : PS w bl bm bo bk br κ s av wr) (O : Off (fun k => k = bk) wr w1) {o : Bool} (B : One w1 bk (.bool o) 4) : PS w bl bm bo bk br κ { s with ok := o } av w1 where
  tk := h.tk.off O (by have := h.ne; omega) (by have := h.ne; omega)
  box := h.box.off O (by have := h.ne; omega)
  okc := B
  res := h.res.off O (by have := h.ne; omega)
  own := O.own h.own (fun k hk e => h.notl k hk (Or.inr (Or.inr (Or.inl e))))
  keep := O.keep h.keep (by have := h.ge; rintro i rfl; omega)
  ge := h.ge
  ne := h.ne
theorem PS.drewn (h : PS w bl bm bo bk br κ s av wr) (q : Nat) : PS w bl bm bo bk br κ s av (wr.drewN q) :=
  have k : Keep wr (wr.drewN q) := below_drewN (Keep.refl wr) q
  { tk := h.tk.keep k, box := h.box.keep k, okc := h.okc.keep k, res := h.res.keep k, own := own_keep h.own k, keep := h.keep.trans k, ge := h.ge, ne := h.ne }
theorem PS.kept (h : PS w bl bm bo bk br κ s av wr) (k : Keep wr w1) : PS w bl bm bo bk br κ s av w1 :=
  { tk := h.tk.keep k, box := h.box.keep k, okc := h.okc.keep k, res := h.res.keep k, own := own_keep h.own k, keep := h.keep.trans k, ge := h.ge, ne := h.ne }
theorem off_setO (wr : World) (bo i : Nat) (u : Value) : Off (fun k => k = bo) wr (wr.setCell ⟨bo, i, none⟩ u) := Off.set (G := fun k => k = bo) (Off.refl _ _) rfl _
/-- A field of the operation is written. -/
theorem PS.field (h : PS w bl bm bo bk br κ s av wr) (i : Nat) (u : Value) {s' : St} (hL : s'.L = s.L) (ham : s'.am = s.am) (hok : s'.ok = s.ok)
    (hb : Box (wr.setCell ⟨bo, i, none⟩ u) bo (.int .i64 κ) (.int .i64 s'.id) (.int .i64 s'.cls) (.int .i64 s'.n) (.bool s'.flag) av) : PS w bl bm bo bk br κ s' av (wr.setCell ⟨bo, i, none⟩ u) where
  tk := by rw [hL]; exact h.tk.off (off_setO wr bo i u) (by have := h.ne; omega) (by have := h.ne; omega)
  box := hb
  okc := by rw [hok]; exact h.okc.off (off_setO wr bo i u) (by have := h.ne; omega)
  res := h.res.off (off_setO wr bo i u) (by have := h.ne; omega)
  own := by rw [ham]; exact (off_setO wr bo i u).own h.own (fun k hk e => h.notl k hk (Or.inr (Or.inr (Or.inr (Or.inl e)))))
  keep := (off_setO wr bo i u).keep h.keep (by have := h.ge; rintro i rfl; omega)
  ge := h.ge
  ne := h.ne
/-- An amount more: the row has grown, and the field names it. -/
theorem PS.more (h : PS w bl bm bo bk br κ s av wr) {x : Int} {v2 : Value} (hown : w2.ownsRow w.heap.size 2 1 v2 (s.am.length + 1) (ints s.am ++ [.int .i64 x])) (hg : wr.grownBy w2 av.ownBlock) :
    PS w bl bm bo bk br κ { s with am := s.am ++ [x] } v2 (w2.setCell ⟨bo, 5, none⟩ v2) := by
  have O : Off (fun k => av.ownBlock = some k) wr w2 := ⟨hg.os, hg.tape, hg.output, hg.size, fun k hk hn => hg.block k hk (by intro e; exact hn (by first | exact e | exact e.symm))⟩
  have hn : ∀ k, (k = bl ∨ k = bm ∨ k = bk ∨ k = bo ∨ k = br) → ¬ av.ownBlock = some k := fun k hk e => h.notl k e hk
  have b2 := h.box.off O (hn bo (by simp))
  have r2 := h.res.off O (hn br (by simp))
  have o2 := h.okc.off O (hn bk (by simp))
  have t2 := h.tk.off O (hn bl (by simp)) (hn bm (by simp))
  have O2 : Off (fun k => k = bo) w2 (w2.setCell ⟨bo, 5, none⟩ v2) := Off.set (G := fun k => k = bo) (Off.refl _ _) rfl _
  have hlt : ∀ k, av.ownBlock = some k → w.heap.size ≤ k := fun k hk => by
    rcases h.own with ⟨h1, ⟨h2, _⟩ | ⟨g, cap, cur, rfl, h4, h5, h6⟩⟩
    · rw [h2] at hk; simp [Value.ownBlock] at hk
    · have : g = k := by simpa [Value.ownBlock] using hk
      omega
  refine ⟨?_, b2.set5 _, ?_, ?_, ?_, ?_, h.ge, h.ne⟩
  · exact t2.off O2 (by have := h.ne; omega) (by have := h.ne; omega)
  · exact o2.off O2 (by have := h.ne; omega)
  · exact r2.off O2 (by have := h.ne; omega)
  · have hown' : w2.ownsRow w.heap.size 2 1 v2 (s.am ++ [x]).length (ints (s.am ++ [x])) := by
      unfold ints at hown ⊢
      rw [List.map_append, List.length_append]
      exact hown
    exact O2.own hown' (fun k hk e => own_other hown' b2.at_ (by decide) (by rw [← e]; exact hk))
  · exact O2.keep (O.keep h.keep hlt) (by have := h.ge; rintro i rfl; omega)
theorem PS.grown_box (h : PS w bl bm bo bk br κ s av wr) (hg : wr.grownBy w2 av.ownBlock) : Box w2 bo (.int .i64 κ) (.int .i64 s.id) (.int .i64 s.cls) (.int .i64 s.n) (.bool s.flag) av := by
  have O : Off (fun k => av.ownBlock = some k) wr w2 := ⟨hg.os, hg.tape, hg.output, hg.size, fun k hk hn => hg.block k hk (by intro e; exact hn (by first | exact e | exact e.symm))⟩
  exact h.box.off O (fun e => h.notl bo e (by simp))
/-- A number has been read into field 1. -/
theorem PS.num1 (h : PS w bl bm bo bk br κ s av wr) (O : Off (fun k => k = bl ∨ k = bm) wr w1) (T : Tk w1 bl bm s.L.tail) (O2 : Off (fun k => k = bk) w1 w2) (B : One w2 bk (.bool ((s.ok && !s.L.isEmpty) && (numOf (tkW s.L)).isSome)) 4) :
    PS w bl bm bo bk br κ (step 1 s) av (w2.setCell ⟨bo, 1, none⟩ (.int .i64 (tkV s.L))) := by
  have P := (h.taken O T).read O2 B
  exact P.field 1 _ (s' := step 1 s) rfl rfl (tk_num s.L s.ok).2.symm (P.box.set1 _)
/-- A number has been read into field 2. -/
theorem PS.num2 (h : PS w bl bm bo bk br κ s av wr) (O : Off (fun k => k = bl ∨ k = bm) wr w1) (T : Tk w1 bl bm s.L.tail) (O2 : Off (fun k => k = bk) w1 w2) (B : One w2 bk (.bool ((s.ok && !s.L.isEmpty) && (numOf (tkW s.L)).isSome)) 4) :
    PS w bl bm bo bk br κ (step 2 s) av (w2.setCell ⟨bo, 2, none⟩ (.int .i64 (tkV s.L))) := by
  have P := (h.taken O T).read O2 B
  exact P.field 2 _ (s' := step 2 s) rfl rfl (tk_num s.L s.ok).2.symm (P.box.set2 _)
/-- A number has been read into field 3. -/
theorem PS.num3 (h : PS w bl bm bo bk br κ s av wr) (O : Off (fun k => k = bl ∨ k = bm) wr w1) (T : Tk w1 bl bm s.L.tail) (O2 : Off (fun k => k = bk) w1 w2) (B : One w2 bk (.bool ((s.ok && !s.L.isEmpty) && (numOf (tkW s.L)).isSome)) 4) :
    PS w bl bm bo bk br κ (step 3 s) av (w2.setCell ⟨bo, 3, none⟩ (.int .i64 (tkV s.L))) := by
  have P := (h.taken O T).read O2 B
  exact P.field 3 _ (s' := step 3 s) rfl rfl (tk_num s.L s.ok).2.symm (P.box.set3 _)
/-- The flag has been read. -/
theorem PS.flag (h : PS w bl bm bo bk br κ s av wr) (b : Bool) : PS w bl bm bo bk br κ { s with flag := b } av (wr.setCell ⟨bo, 4, none⟩ (.bool b)) := h.field 4 _ (s' := { s with flag := b }) rfl rfl rfl (h.box.set4 _)
theorem PS.setk (h : PS w bl bm bo bk br κ s av wr) (o : Bool) : PS w bl bm bo bk br κ { s with ok := o } av (wr.setCell ⟨bk, 0, none⟩ (.bool o)) := h.read (Off.set (G := fun k => k = bk) (Off.refl _ _) rfl _) (h.okc.set _)
end
end Go.Proofs.YtnaeabfmgfipoaaGreatDoor
namespace Go.Proofs.YtnaeabfmgfipoaaGreatDoor
open Go.RowKit

/-- Nothing below B has turned, and of what lies from B on nothing but rows of bytes and two variables. -/
structure Oth (B bk bl : Nat) (w w' : World) : Prop where
  below : Below B w w'
  oth : ∀ k o, w.heap[k]? = some o → k ≠ bk → k ≠ bl → (∀ c fz, o ≠ .cells c 5 fz) → w'.heap[k]? = some o
section
variable {B bk bl : Nat} {w w' w2 : World}
theorem Oth.refl (B bk bl : Nat) (w : World) : Oth B bk bl w w := ⟨Below.refl _ _, fun _ _ h _ _ _ => h⟩
theorem Oth.trans (h : Oth B bk bl w w') (k : Oth B bk bl w' w2) : Oth B bk bl w w2 := ⟨Below.trans h.below k.below, fun i o ho h1 h2 h3 => k.oth i o (h.oth i o ho h1 h2 h3) h1 h2 h3⟩
theorem Oth.setK (h : Oth B bk bl w w') (hb : B ≤ bk) (i : Nat) (u : Value) : Oth B bk bl w (w'.setCell ⟨bk, i, none⟩ u) :=
  ⟨Below.setCell h.below hb u, fun k o ho h1 h2 h3 => by rw [heap_setCell_other w' ⟨bk, i, none⟩ k u h1]; exact h.oth k o ho h1 h2 h3⟩
theorem Oth.setL (h : Oth B bk bl w w') (hb : B ≤ bl) (i : Nat) (u : Value) : Oth B bk bl w (w'.setCell ⟨bl, i, none⟩ u) :=
  ⟨Below.setCell h.below hb u, fun k o ho h1 h2 h3 => by rw [heap_setCell_other w' ⟨bl, i, none⟩ k u h2]; exact h.oth k o ho h1 h2 h3⟩
theorem Oth.alloc (h : Oth B bk bl w w') (hB : B ≤ w.heap.size) (o : Obj) : Oth B bk bl w (w'.alloc o) :=
  ⟨Below.alloc h.below (Nat.le_trans hB h.below.size) o, fun k o' ho h1 h2 h3 => (Keep.one w' o).block (h.oth k o' ho h1 h2 h3)⟩
theorem Oth.grown (h : Oth B bk bl w w') (hB : B ≤ w.heap.size) {z n : Nat} {v : Value} {xs : List Value} (ho : w'.ownsRow B 5 z v n xs) (hg : w'.grownBy w2 v.ownBlock) : Oth B bk bl w w2 := by
  have hlt : ∀ k, v.ownBlock = some k → B ≤ k := fun k hk => by
    rcases ho with ⟨h1, ⟨h2, _⟩ | ⟨g, cap, cur, rfl, h4, h5, h6⟩⟩
    · rw [h2] at hk; simp [Value.ownBlock] at hk
    · have : g = k := by simpa [Value.ownBlock] using hk
      omega
  refine ⟨Below.grown h.below hg (Nat.le_trans hB h.below.size) (fun g hg' => hlt g hg'), fun k o hk h1 h2 h3 => ?_⟩
  have hk' := h.oth k o hk h1 h2 h3
  have hn : v.ownBlock ≠ some k := by
    intro e
    rcases ho with ⟨a1, ⟨a2, _⟩ | ⟨g, cap, cur, rfl, a4, a5, a6⟩⟩
    · rw [a2] at e; simp [Value.ownBlock] at e
    · have : g = k := by simpa [Value.ownBlock] using e
      subst this
      rw [hk'] at a5
      injection a5 with a5
      exact h3 _ _ a5
  rw [hg.block k (lt_of_block hk') (by first | exact hn | exact fun e => hn e.symm)]
  exact hk'
theorem Oth.kept (h : Oth B bk bl w w') (b : Below B w' w2) (k : Lib.OthersKept 5 none w' w2) : Oth B bk bl w w2 :=
  ⟨Below.trans h.below b, fun i o ho h1 h2 h3 => k i o (h.oth i o ho h1 h2 h3) (by simp) (fun c fz => h3 c fz)⟩
theorem One.oth {b : Nat} {v : Value} {t : TypeId} (h : One w b v t) (O : Oth B bk bl w w') (ht : t ≠ 5) (h1 : b ≠ bk) (h2 : b ≠ bl) : One w' b v t :=
  ⟨O.oth b _ h.at_ h1 h2 (fun c fz e => by injection e with _ e; exact ht e)⟩
theorem Box.oth {b : Nat} {c0 c1 c2 c3 c4 c5 : Value} (h : Box w b c0 c1 c2 c3 c4 c5) (O : Oth B bk bl w w') (h1 : b ≠ bk) (h2 : b ≠ bl) : Box w' b c0 c1 c2 c3 c4 c5 :=
  ⟨O.oth b _ h.at_ h1 h2 (fun c fz e => by injection e with _ e; exact absurd e (by decide))⟩
theorem one_grown {b z n : Nat} {u v : Value} {t : TypeId} {xs : List Value} (h : One w b u t) (ht : t ≠ 5) (ho : w.ownsRow B 5 z v n xs) (hg : w.grownBy w2 v.ownBlock) : One w2 b u t :=
  ⟨by rw [hg.block b h.lt (by have hn := own_other ho h.at_ ht; first | exact hn | exact fun e => hn e.symm)]; exact h.at_⟩
theorem One.kept {b : Nat} {v : Value} {t : TypeId} (h : One w b v t) (ht : t ≠ 5) (k : Lib.OthersKept 5 none w w2) : One w2 b v t :=
  ⟨k b _ h.at_ (by simp) (fun c fz e => by injection e with _ e; exact ht e)⟩
theorem own_set_other {z n b : Nat} {v u x : Value} {t : TypeId} {xs : List Value} (ho : w.ownsRow B 5 z v n xs) (h : One w b u t) (ht : t ≠ 5) : (w.setCell ⟨b, 0, none⟩ x).ownsRow B 5 z v n xs :=
  ownsRow_setCell_other ho (own_other ho h.at_ ht) x
end
theorem own_shp {w : World} {base n z : Nat} {e : TypeId} {v : Value} {xs : List Value} (h : w.ownsRow base e z v n xs) : ∃ A cap, v = .slice A n cap := by
  rcases h.2 with ⟨rfl, rfl⟩ | ⟨g, cap, cur, rfl, _⟩
  · exact ⟨none, 0, rfl⟩
  · exact ⟨_, cap, rfl⟩
theorem space_cells (l : List UInt8) : Lib.byteCells l ++ [.int .u8 32] = Lib.byteCells (l ++ [32]) := by simp [Lib.byteCells]
theorem add_cells (l m : List UInt8) : Lib.byteCells l ++ Lib.byteCells m = Lib.byteCells (l ++ m) := by simp [Lib.byteCells]

end Go.Proofs.YtnaeabfmgfipoaaGreatDoor
namespace Go.Proofs.YtnaeabfmgfipoaaGreatDoor
open Go.RowKit

/-- The slice v has n bytes, the cells xs; its row lies from block 'base' on, and whatever mark it bears lies behind it. -/
def OwM (w : World) (base : Nat) (v : Value) (n : Nat) (xs : List Value) : Prop :=
  ∃ g cap cur lo hi, v = .slice (some ⟨g, 0, none⟩) n cap ∧ base ≤ g ∧ w.heap[g]? = some (.cells cur 5 (lo, hi)) ∧ (lo = hi ∨ cap ≤ lo) ∧ cur.size = cap ∧ n ≤ cap ∧ cap ≤ maxLen ∧ xs.length = n ∧ ∀ j u, xs[j]? = some u → w.cell? ⟨g, j, none⟩ = some u
theorem OwM.lt {w : World} {base n : Nat} {v : Value} {xs : List Value} (h : OwM w base v n xs) : ∀ k, v.ownBlock = some k → base ≤ k ∧ k < w.heap.size := by
  obtain ⟨g, cap, cur, lo, hi, rfl, hb, hg, _⟩ := h
  intro k hk
  have : g = k := by simpa [Value.ownBlock] using hk
  subst this
  exact ⟨hb, lt_of_block hg⟩
theorem OwM.keep {w w' : World} {base n : Nat} {v : Value} {xs : List Value} (h : OwM w base v n xs) (k : Keep w w') : OwM w' base v n xs := by
  obtain ⟨g, cap, cur, lo, hi, rfl, hb, hg, a, b, c, d, e, f⟩ := h
  exact ⟨g, cap, cur, lo, hi, rfl, hb, k.block hg, a, b, c, d, e, fun j u hu => k.cell (f j u hu)⟩
theorem OwM.shape {w : World} {base n : Nat} {v : Value} {xs : List Value} (h : OwM w base v n xs) : ∃ g cap, v = .slice (some ⟨g, 0, none⟩) n cap := by
  obtain ⟨g, cap, cur, lo, hi, rfl, _⟩ := h
  exact ⟨g, cap, rfl⟩
theorem OwM.set {w : World} {base n b : Nat} {v u x : Value} {t : TypeId} {xs : List Value} (h : OwM w base v n xs) (ho : One w b u t) (ht : t ≠ 5) : OwM (w.setCell ⟨b, 0, none⟩ x) base v n xs := by
  obtain ⟨g, cap, cur, lo, hi, rfl, hb, hg, a, b', c, d, e, f⟩ := h
  have hne : g ≠ b := by
    rintro rfl
    have h1 := ho.at_
    rw [hg] at h1
    injection h1 with h1
    injection h1 with _ h1
    exact ht h1.symm
  have O : w.heap[g]? = some (.cells cur 5 (lo, hi)) → (w.setCell ⟨b, 0, none⟩ x).heap[g]? = some (.cells cur 5 (lo, hi)) := fun h => by rw [heap_setCell_other w ⟨b, 0, none⟩ g x hne]; exact h
  refine ⟨g, cap, cur, lo, hi, rfl, hb, O hg, a, b', c, d, e, fun j u hu => ?_⟩
  rw [World.cell?_of_block (a := ⟨g, j, none⟩) (heap_setCell_other w ⟨b, 0, none⟩ g x hne)]
  exact f j u hu
/-- No other kind of block is its row. -/
theorem OwM.other {w : World} {base n b : Nat} {v : Value} {xs : List Value} {o : Obj} (h : OwM w base v n xs) (hb : w.heap[b]? = some o) (ho : ∀ c fz, o ≠ .cells c 5 fz) : v.ownBlock ≠ some b := by
  obtain ⟨g, cap, cur, lo, hi, rfl, _, hg, _⟩ := h
  intro hk
  have : g = b := by simpa [Value.ownBlock] using hk
  subst this
  rw [hg] at hb
  injection hb with hb
  exact ho _ _ hb.symm
theorem setCells_row (g : Nat) : ∀ (vs : List Value) (o : Nat) (w : World) (cur : Array Value) (t : TypeId) (fr : Nat × Nat), w.heap[g]? = some (.cells cur t fr) → ∃ cur', (w.setCells g o vs).heap[g]? = some (.cells cur' t fr) ∧ cur'.size = cur.size
  | [], _, _, cur, _, _, h => ⟨cur, h, rfl⟩
  | v :: r, o, w, cur, t, fr, h => by
    have h1 : (w.setCell ⟨g, o, none⟩ v).heap[g]? = some (.cells (cur.setIfInBounds o v) t fr) := by
      rw [setCell_eq_setRow w g o cur t fr v h]
      exact setRow_heap w g cur _ t fr h
    obtain ⟨cur', h2, h3⟩ := setCells_row g r (o + 1) _ _ t fr h1
    exact ⟨cur', h2, by rw [h3]; simp⟩
theorem setCells_size (g : Nat) : ∀ (vs : List Value) (o : Nat) (w : World), (w.setCells g o vs).heap.size = w.heap.size
  | [], _, _ => rfl
  | v :: r, o, w => by rw [World.setCells, setCells_size g r (o + 1)]; simp
theorem setCells_other (g : Nat) : ∀ (vs : List Value) (o : Nat) (w : World) (k : Nat), k ≠ g → (w.setCells g o vs).heap[k]? = w.heap[k]?
  | [], _, _, _, _ => rfl
  | v :: r, o, w, k, h => by rw [World.setCells, setCells_other g r (o + 1) _ k h, heap_setCell_other w ⟨g, o, none⟩ k v h]
theorem setCells_same (g : Nat) : ∀ (vs : List Value) (o : Nat) (w : World), (w.setCells g o vs).os = w.os ∧ (w.setCells g o vs).tape = w.tape ∧ (w.setCells g o vs).output = w.output
  | [], _, _ => ⟨rfl, rfl, rfl⟩
  | v :: r, o, w => setCells_same g r (o + 1) (w.setCell ⟨g, o, none⟩ v)
theorem next_fits {n m cap : Nat} (h : cap < n + m) (hl : n + m ≤ 140737488355328) : Builtin.nextslicecap (n + m) cap * 1 ≤ 281474976710656 := by
  exact growslice_fits h (by omega)

/-- What an append makes of such a row. -/
theorem run_append_m (w : World) (base : Nat) (tx ty : TypeId) (v : Value) (n : Nat) (xs : List Value) (hown : OwM w base v n xs) (x : Value) (m : Nat) (news : List Value) (hs : Src Tryz.prog 1 tx x m news w)
    (hlim : n + m ≤ 140737488355328) (hbase : base ≤ w.heap.size) :
    ∃ g cap w', (Builtin.append_ #[64, tx] ty #[v, x]).run Tryz.prog w = .ok (.slice (some ⟨g, 0, none⟩) (n + m) cap) w' ∧ OwM w' base (.slice (some ⟨g, 0, none⟩) (n + m) cap) (n + m) (xs ++ news) ∧ w.grownBy w' v.ownBlock := by
  obtain ⟨i0, hi0, hz0, hz1, hz2⟩ := info_parts (show (Tryz.prog.info? 5).map (fun i => (i.zero, i.size, i.bytes)) = some (some (.int .u8 0), 1, 1) by kernel_rfl)
  obtain ⟨g, cap, cur, lo, hi, rfl, hb, hg, hmk, hcs, hnc, hcm, hlen, hcell⟩ := hown
  have hsl : news.length = m := by have := hs.newsLen; omega
  have hs' : Src Tryz.prog i0.size tx x m news w := by rw [hz1]; exact hs
  have hu : Tryz.prog.underlying 64 = some (.slice 5) := Tryz.underlying64
  by_cases hroom : n + m ≤ cap
  · have hsome : ∀ j, j < cap → (w.cell? ⟨g, j, none⟩).isSome = true := fun j hj => by
      rw [cell_of_row w g j cur _ _ hg, Array.getElem?_eq_getElem (by omega)]; rfl
    have hfree : ∀ j, j < cap → w.frozen? ⟨g, j, none⟩ = false := fun j hj => by
      simp only [World.frozen?, hg]
      rcases hmk with rfl | hmk
      · simp
      · simp; omega
    have hr := run_append_room_src (P := Tryz.prog) w 64 tx ty 5 i0 hu hi0 g 0 n cap x m news hs' hroom (fun j hj => by rw [hz1]; exact hsome _ (by omega)) (fun j hj => by rw [hz1]; exact hfree _ (by omega))
    rw [hz1, Nat.mul_one, Nat.zero_add] at hr
    obtain ⟨cur', hg', hcs'⟩ := setCells_row g news n w cur _ _ hg
    obtain ⟨q1, q2, q3⟩ := setCells_same g news n w
    refine ⟨g, cap, _, hr, ⟨g, cap, cur', lo, hi, rfl, hb, hg', hmk, by omega, hroom, hcm, by simp [hlen, hsl], ?_⟩, ⟨q1, q2, q3, by rw [setCells_size]; exact Nat.le_refl _, fun k _ hk => setCells_other g news n w k (fun e => hk (by rw [e]; rfl))⟩⟩
    intro j u hu
    by_cases hj : j < n
    · rw [List.getElem?_append_left (by omega)] at hu
      rw [World.cell?_setCells_out g news n w ⟨g, j, none⟩ (fun _ _ => Or.inl hj)]
      exact hcell j u hu
    · rw [List.getElem?_append_right (by omega), hlen] at hu
      have hjl : j - n < news.length := (List.getElem?_eq_some_iff.1 hu).1
      have h := World.cell?_setCells_in g news n w (fun i hi => hsome _ (by omega)) (j - n) hjl
      rw [show n + (j - n) = j by omega] at h
      rw [h, ← hu, List.getElem?_eq_getElem hjl]
  · have holds : ∀ j u, xs[j]? = some u → w.drew.cell? ((⟨g, 0, none⟩ : Addr).add j) = some u := fun j u hu => by
      have hadd : (⟨g, 0, none⟩ : Addr).add j = ⟨g, j, none⟩ := by unfold Addr.add; split <;> simp_all
      rw [hadd]
      exact hcell j u hu
    have hf := run_firstCells_some (P := Tryz.prog) w.drew i0.size n ⟨g, 0, none⟩ n cap xs (by rw [hz1]; omega) holds
    have hr := run_append_grow_src (P := Tryz.prog) w 64 tx ty 5 i0 (.int .u8 0) hu hi0 hz0 (some ⟨g, 0, none⟩) n cap xs hf x m news hs' (by omega) (by omega) (by rw [hz2]; exact next_fits (by omega) hlim)
    have hge := grownCap_ge w (n + m) cap 5
    have hcm' : grownCap w (n + m) cap 5 ≤ maxLen := grownCap_le_maxLen w (n + m) cap 5 (by unfold maxLen; omega)
    refine ⟨w.heap.size, _, _, hr, ⟨w.heap.size, _, _, 0, 0, rfl, hbase, heap_alloc_new w.drew _, Or.inl rfl, ?_, hge, hcm', by simp [hlen, hsl], ?_⟩, ⟨rfl, rfl, rfl, by simp, fun k hk _ => by first | exact heap_alloc_old w.drew _ k hk | exact heap_alloc_old w.drew _ hk⟩⟩
    · have hzs : (Value.int .u8 0).cells.size = 1 := rfl
      simp only [Array.size_append, List.size_toArray, List.length_append, size_zeroCells, hzs, hlen, hsl]
      omega
    · intro j u hu
      have hjl : j < (xs ++ news).length := (List.getElem?_eq_some_iff.1 hu).1
      rw [cell_of_row _ w.heap.size j _ _ _ (heap_alloc_new w.drew _), Array.getElem?_append_left (by simpa using hjl)]
      simpa using hu
/-- At the list of a region's operations. -/
theorem wpList_append_m {ops : Array Oper} {rest : List Oper} {o : Oper} {a : Act} {w : World} {Q : Exit → Act → World → Prop} (hgd : o.guard = none) (s x : Operand) (tx : TypeId)
    (ho : o.op = .call { callee := .builtin .append, args := #[s, x], argTypes := #[64, tx] })
    (base : Nat) (v : Value) (n : Nat) (xs : List Value) (hv : a.eval s = v) (hown : OwM w base v n xs) (vx : Value) (m : Nat) (news : List Value) (hx : a.eval x = vx) (hs : Src Tryz.prog 1 tx vx m news w)
    (hlim : n + m ≤ 140737488355328) (hbase : base ≤ w.heap.size)
    (h : ∀ g cap w', OwM w' base (.slice (some ⟨g, 0, none⟩) (n + m) cap) (n + m) (xs ++ news) → w.grownBy w' v.ownBlock → wpList Tryz.prog ops Q rest (a.put o.dst (.slice (some ⟨g, 0, none⟩) (n + m) cap)) w') : wpList Tryz.prog ops Q (o :: rest) a w :=
  wpList_plain hgd fun K hK => by
    obtain ⟨g, cap, w', hr, h2, h3⟩ := run_append_m w base tx o.type v n xs hown vx m news hs hlim hbase
    unfold Oper.wp execOp
    simp only [ho, resolve, invoke, builtin, Sem.run_bind, Sem.run_pure, Result.andThen_ok, List.map_toArray, List.map_cons, List.map_nil, hv, hx, hr]
    exact hK _ _ (h g cap w' h2 h3)
/-- What a conversion of a string makes. -/
theorem conv_own (w : World) (base : Nat) (hB : base ≤ w.heap.size) (s : ByteArray) (hs : s.size ≤ 140737488355328) : OwM (Lib.bytesWorld w 5 s) base (.slice (some ⟨w.heap.size, 0, none⟩) s.size (grownCap w s.size 0 5)) s.size (Lib.byteCells s.data.toList) := by
  have hl : s.data.toList.length = s.size := by cases s; rfl
  have hge := grownCap_ge w s.size 0 5
  have hcm : grownCap w s.size 0 5 ≤ maxLen := grownCap_le_maxLen w s.size 0 5 (by unfold maxLen; omega)
  have hbs : (Lib.bytesCells w 5 s).size = grownCap w s.size 0 5 := by
    unfold Lib.bytesCells
    have : s.data.size = s.size := rfl
    simp
    omega
  refine ⟨w.heap.size, _, _, _, _, rfl, hB, Lib.bytesWorld_at_new w 5 s, Or.inr (by omega), hbs, hge, hcm, by simp [Lib.byteCells, hl], ?_⟩
  intro j u hu
  have hj : j < s.size := by have := (List.getElem?_eq_some_iff.1 hu).1; simp [Lib.byteCells, hl] at this; exact this
  rw [Lib.bytesWorld_cell w 5 s j hj]
  simp only [Lib.byteCells, List.getElem?_map, List.getElem?_eq_getElem (show j < s.data.toList.length by omega), Option.map_some] at hu
  rw [← hu, List.getD_eq_getElem?_getD, List.getElem?_eq_getElem (by omega)]
  rfl
end Go.Proofs.YtnaeabfmgfipoaaGreatDoor
namespace Go.Proofs.YtnaeabfmgfipoaaGreatDoor
open Go.RowKit Go.Sort Go.Lib

theorem cells_str (l : List UInt8) : Go.byteCells ⟨l.toArray⟩ = Lib.byteCells l := by simp [Go.byteCells, Lib.byteCells]
theorem size_str (l : List UInt8) : (⟨l.toArray⟩ : ByteArray).size = l.length := by simp [ByteArray.size]
theorem kept_m {w w' : World} {base n : Nat} {v : Value} {xs : List Value} (h : OwM w base v n xs) (hg : w.grownBy w' v.ownBlock) : Lib.OthersKept 5 none w w' := fun k o hk _ ho => by
  rw [hg.block k (lt_of_block hk) (fun e => OwM.other h hk ho e.symm)]
  exact hk
theorem below_m {w w' : World} {base n : Nat} {v : Value} {xs : List Value} (h : OwM w base v n xs) (hg : w.grownBy w' v.ownBlock) (hB : base ≤ w.heap.size) : Below base w w' := (Below.refl base w).grown hg hB (fun k hk => (h.lt k hk).1)

set_option maxHeartbeats 6400000 in
set_option maxRecDepth 100000 in
theorem appu_small (B n u : Nat) (hu : u < 100) (sv : Value) (xs : List Value) (w : World) (hown : OwM w B sv n xs) (hBw : B ≤ w.heap.size) (hlim : n + 20 ≤ 140737488355328) :
    Calls Tryz.prog 66 #[sv, .int .u64 u, .int .i64 10] w fun e w' => ∃ v', e = .returned v' ∧ OwM w' B v' (n + (Lib.decDigits u).length) (xs ++ Lib.byteCells (Lib.decDigits u)) ∧ Below B w w' ∧ Lib.OthersKept 5 none w w' := by
  have hlen : (Lib.decDigits u).length ≤ 20 := by
    rw [Lib.decDigits_length]
    by_cases h10 : u < 10
    · rw [Lib.nDigits_small h10]; omega
    · rw [Lib.nDigits_big h10, Lib.nDigits_small (show u / 10 < 10 by omega)]; omega
  have hsz := size_str (Lib.decDigits u)
  have hcs := cells_str (Lib.decDigits u)
  have hown' := Lib.hid hown
  go_enter Tryz.func66, Tryz.ntmps66
  go_wp2_with (first
    | (go_at_call 82; refine (Tryz.internal_strconv_small u hu _).mono ?_; rintro e w' ⟨rfl, rfl⟩)
    | (at_builtin; refine wpList_append_m rfl _ _ 9 rfl B sv n xs rfl hown'.out _ _ _ rfl (Src.ofString _ Tryz.underlying9 ⟨(Lib.decDigits u).toArray⟩) (by rw [hsz]; omega) hBw ?_))
  intro g cap w1 h1 hgrow
  replace h1 := Lib.hid h1
  have hb := Lib.hid (below_m hown hgrow hBw)
  have hk := Lib.hid (kept_m hown hgrow)
  replace hgrow := Lib.hid hgrow
  go_wp2
  go_ret
  refine ⟨_, rfl, ?_, hb.out, hk.out⟩
  rw [← hsz, ← hcs]
  exact h1.out

set_option maxHeartbeats 12800000 in
set_option maxRecDepth 100000 in
theorem appu_big (B n u : Nat) (hu : 100 ≤ u) (hu64 : u < 18446744073709551616) (sv : Value) (xs : List Value) (w : World) (hown : OwM w B sv n xs) (hBw : B ≤ w.heap.size) (hlim : n + 20 ≤ 140737488355328)
    (htab : Lib.TabIs Tryz.prog w "internal/strconv.uint64pow10" .u64 Lib.pow10Tab) :
    Calls Tryz.prog 66 #[sv, .int .u64 u, .int .i64 10] w fun e w' => ∃ v', e = .returned v' ∧ OwM w' B v' (n + (Lib.decDigits u).length) (xs ++ Lib.byteCells (Lib.decDigits u)) ∧ Below B w w' ∧ Lib.OthersKept 5 none w w' := by
  have hu1 : 1 ≤ u := by omega
  have hnd20 : Lib.nDigits u ≤ 20 := by have := Lib.numDigits_eq u hu1 hu64; split at this <;> omega
  have hal : Tryz.prog.arrayLen 126 = 24 := by kernel_rfl
  have hsl : ∀ W, (Instr.sliceAt 126 (.pointer (some ⟨w.heap.size, 0, none⟩)) none (some (.int .i64 (Lib.nDigits u : Int))) none).run Tryz.prog W = .ok (.slice (some ⟨w.heap.size, 0, none⟩) (Lib.nDigits u) 24) W := fun W => by
    rw [run_sliceAt_array_h W 126 ⟨w.heap.size, 0, none⟩ (by kernel_rfl) .i64 (Lib.nDigits u : Int) (by omega) (by rw [hal]; omega)]
    go_simp
  have hH0 := Lib.holds_zero0 w 126 (Lib.nDigits u) (by omega)
  have hfmt := Tryz.internal_strconv_formatBase10 w.heap.size 0 24 u (Array.replicate (Lib.nDigits u) 0) (w.alloc (.cells Lib.zeros24 126)) hH0 (by rw [Array.size_replicate]; exact Lib.lt_pow_nDigits u) hu64 (by rw [Array.size_replicate]; omega)
  rw [Array.size_replicate] at hfmt
  have HH0 := Lib.hid hH0
  have iu : (100 : Int) ≤ (u : Int) := by omega
  replace hown := Lib.hid hown
  replace hfmt := Lib.hid hfmt
  clear hH0 hal
  go_enter Tryz.func66, Tryz.ntmps66
  go_wp2_with (first
    | (go_at_call 83; refine (Tryz.internal_strconv_numDigits u hu1 hu64 _ (Lib.tabIs_alloc htab _)).mono ?_; rintro e w' ⟨rfl, rfl⟩))
  go_at_call 84
  refine hfmt.out.mono ?_
  rintro e w' ⟨rfl, k, v', dk, rfl, hF⟩
  have hcells : ∀ j u', (Lib.byteCells (Lib.decDigits u))[j]? = some u' → ((putRow (fun (b : UInt8) => Value.int .u8 (b.toNat : Int)) (w.alloc (.cells Lib.zeros24 126)) w.heap.size 0 dk).drewN k).cell? ((⟨w.heap.size, 0, none⟩ : Addr).add j) = some u' := by
    intro j u' hj
    have hjl : j < (Lib.decDigits u).length := by
      have h5 := (List.getElem?_eq_some_iff.1 hj).1
      rwa [Lib.byteCells_length] at h5
    have e5 : (Lib.byteCells (Lib.decDigits u))[j]? = some (Value.int .u8 ((Lib.decDigits u)[j].toNat : Int)) := by simp [Lib.byteCells, hjl]
    rw [e5] at hj
    cases hj
    rw [Lib.row_is_numeral hF j hjl, Lib.add_plain, World.cell?_drewN]
    exact cell?_putRow (fun (b : UInt8) => Value.int .u8 (b.toNat : Int)) _ w.heap.size 0 _ dk HH0.out (by rw [hF.size, Array.size_replicate]) j (by rw [hF.size]; rw [Lib.decDigits_length] at hjl; exact hjl)
  obtain ⟨os, eo⟩ := Lib.fin_at w (.cells Lib.zeros24 126) dk k 0
  have hk2 : Keep w ((putRow (fun (b : UInt8) => Value.int .u8 (b.toNat : Int)) (w.alloc (.cells Lib.zeros24 126)) w.heap.size 0 dk).drewN k) := by rw [eo]; exact Lib.below_grow w.heap.size w (Nat.le_refl _) k os
  have hok2 : Lib.OthersKept 5 none w ((putRow (fun (b : UInt8) => Value.int .u8 (b.toNat : Int)) (w.alloc (.cells Lib.zeros24 126)) w.heap.size 0 dk).drewN k) := by rw [eo]; exact (Lib.OthersKept.refl _ _ w).below (Lib.below_grow w.heap.size w (Nat.le_refl _) k os)
  generalize (putRow (fun (b : UInt8) => Value.int .u8 (b.toNat : Int)) (w.alloc (.cells Lib.zeros24 126)) w.heap.size 0 dk).drewN k = W2 at hcells hk2 hok2 ⊢
  have hsz2 := hk2.size
  have hown2 := Lib.hid (hown.out.keep hk2)
  clear eo HH0 hfmt
  replace hcells := Lib.hid hcells
  replace hk2 := Lib.hid hk2
  replace hok2 := Lib.hid hok2
  have hl20 : (Lib.decDigits u).length = Lib.nDigits u := Lib.decDigits_length u
  go_wp2_with (at_builtin; refine wpList_append_m rfl _ _ 64 rfl B sv n xs rfl hown2.out _ _ _ rfl (Src.ofSlice _ Tryz.underlying64 ⟨w.heap.size, 0, none⟩ (Lib.nDigits u) 24 (Lib.byteCells (Lib.decDigits u)) (by rw [Lib.byteCells_length, Lib.decDigits_length, Nat.mul_one]) hcells.out (by intro u' hu'; simp only [Lib.byteCells, List.mem_map] at hu'; obtain ⟨b, _, rfl⟩ := hu'; rfl)) (by omega) (by omega) ?_)
  intro g cap w3 h3 hgrow
  replace h3 := Lib.hid h3
  have hb := Lib.hid (Below.trans (Below.mono hk2.out hBw) (below_m hown2.out hgrow (by omega)))
  have hk := Lib.hid (hok2.out.trans (kept_m hown2.out hgrow))
  replace hgrow := Lib.hid hgrow
  go_wp2
  go_ret
  refine ⟨_, rfl, ?_, hb.out, hk.out⟩
  rw [hl20]
  exact h3.out
theorem appu_fn (B n u : Nat) (hu64 : u < 18446744073709551616) (sv : Value) (xs : List Value) (w : World) (hown : OwM w B sv n xs) (hBw : B ≤ w.heap.size) (hlim : n + 20 ≤ 140737488355328)
    (htab : Lib.TabIs Tryz.prog w "internal/strconv.uint64pow10" .u64 Lib.pow10Tab) :
    Calls Tryz.prog 66 #[sv, .int .u64 u, .int .i64 10] w fun e w' => ∃ v', e = .returned v' ∧ OwM w' B v' (n + (Lib.decDigits u).length) (xs ++ Lib.byteCells (Lib.decDigits u)) ∧ Below B w w' ∧ Lib.OthersKept 5 none w w' := by
  by_cases h : u < 100
  · exact appu_small B n u h sv xs w hown hBw hlim
  · exact appu_big B n u (by omega) hu64 sv xs w hown hBw hlim htab
set_option maxHeartbeats 6400000 in
set_option maxRecDepth 100000 in
theorem appi_fn (B n : Nat) (i : Int) (h0 : -9223372036854775808 ≤ i) (h1 : i ≤ 9223372036854775807) (sv : Value) (xs : List Value) (w : World) (hown : OwM w B sv n xs) (hBw : B ≤ w.heap.size) (hlim : n + 21 ≤ 140737488355328)
    (htab : Lib.TabBelow Tryz.prog B w "internal/strconv.uint64pow10" .u64 Lib.pow10Tab) :
    Calls Tryz.prog 55 #[sv, .int .i64 i, .int .i64 10] w fun e w' => ∃ v', e = .returned v' ∧ OwM w' B v' (n + (Lib.itoa i).length) (xs ++ Lib.byteCells (Lib.itoa i)) ∧ Below B w w' ∧ Lib.OthersKept 5 none w w' := by
  replace htab := Lib.hid htab
  by_cases hneg : i < 0
  · obtain ⟨u, rfl⟩ : ∃ u : Nat, i = -(u : Int) := ⟨i.natAbs, by omega⟩
    have hu1 : 1 ≤ u := by omega
    have hu64 : u < 18446744073709551616 := by omega
    have hwr : IntKind.u64.wrap (-IntKind.u64.wrap (-(u : Int))) = (u : Int) := by rw [IntKind.wrap_u64, IntKind.wrap_u64]; omega
    rw [Lib.itoa_neg u hu1]
    replace hown := Lib.hid hown
    go_enter Tryz.func55, Tryz.ntmps55
    go_wp2_with (at_builtin; refine wpList_append_m rfl _ _ 64 rfl B sv n xs rfl (hown.out.keep (Keep.one _ _)) _ _ _ rfl (Src.ofSlice _ Tryz.underlying64 ⟨w.heap.size, 0, none⟩ 1 1 [Value.int .u8 45] rfl (cell_one_new _ _ _) (by intro u' hu'; simp at hu'; subst hu'; rfl)) (by omega) (by simp; omega) ?_)
    intro g1 cap1 w1 hown1 hgrow
    have hnx1 : Below B w w1 := ((Below.refl B w).alloc hBw _).grown hgrow (by simp; omega) (fun k hk => ((hown.out.keep (Keep.one w (.cells #[.int .u8 45] 5))).lt k hk).1)
    have hok1 := Lib.hid (((Lib.OthersKept.refl 5 none w).alloc _).trans (kept_m (hown.out.keep (Keep.one _ _)) hgrow))
    have htab1 := Lib.hid (htab.out w1 hnx1)
    have hs1 := hnx1.size
    replace hnx1 := Lib.hid hnx1
    replace hown1 := Lib.hid hown1
    replace hgrow := Lib.hid hgrow
    go_wp2_with (go_at_call 66; refine (appu_fn B (n + 1) u hu64 _ _ w1 hown1.out (by omega) (by omega) htab1.out).mono ?_; rintro e w2 ⟨v2, rfl, hown2, hnx2, hok2⟩)
    replace hown2 := Lib.hid hown2
    replace hnx2 := Lib.hid hnx2
    replace hok2 := Lib.hid hok2
    go_wp2
    go_ret
    refine ⟨v2, rfl, ?_, hnx1.out.trans hnx2.out, hok1.out.trans hok2.out⟩
    have e1 : n + ((Lib.decDigits u).length + 1) = n + 1 + (Lib.decDigits u).length := by omega
    have e2 : xs ++ Lib.byteCells (45 :: Lib.decDigits u) = xs ++ [Value.int .u8 45] ++ Lib.byteCells (Lib.decDigits u) := by simp [Lib.byteCells]
    rw [e1, e2]
    exact hown2.out
  · obtain ⟨u, rfl⟩ : ∃ u : Nat, i = u := ⟨i.toNat, by omega⟩
    have hu64 : u < 18446744073709551616 := by omega
    rw [Lib.itoa_nonneg]
    replace hown := Lib.hid hown
    go_enter Tryz.func55, Tryz.ntmps55
    go_wp2_with (go_at_call 66; refine (appu_fn B n u hu64 sv xs w hown.out hBw (by omega) htab.out.here).mono ?_; rintro e w2 ⟨v2, rfl, hown2, hnx2, hok2⟩)
    replace hown2 := Lib.hid hown2
    replace hnx2 := Lib.hid hnx2
    replace hok2 := Lib.hid hok2
    go_wp2
    first | go_ret | go_ret2
    exact ⟨v2, rfl, hown2.out, hnx2.out, hok2.out⟩
theorem pappi_fn (B n : Nat) (i : Int) (h0 : -9223372036854775808 ≤ i) (h1 : i ≤ 9223372036854775807) (sv : Value) (xs : List Value) (w : World) (hown : OwM w B sv n xs) (hBw : B ≤ w.heap.size) (hlim : n + 21 ≤ 140737488355328)
    (htab : Lib.TabBelow Tryz.prog B w "internal/strconv.uint64pow10" .u64 Lib.pow10Tab) :
    Calls Tryz.prog 34 #[sv, .int .i64 i, .int .i64 10] w fun e w' => ∃ v', e = .returned v' ∧ OwM w' B v' (n + (Lib.itoa i).length) (xs ++ Lib.byteCells (Lib.itoa i)) ∧ Below B w w' ∧ Lib.OthersKept 5 none w w' := by
  have h := Lib.hid (appi_fn B n i h0 h1 sv xs w hown hBw hlim htab)
  clear hown htab
  go_enter Tryz.func34, Tryz.ntmps34
  go_wp2_with fail
  refine h.out.mono ?_
  rintro e w2 ⟨v2, rfl, hown2, hnx2, hok2⟩
  replace hown2 := Lib.hid hown2
  replace hnx2 := Lib.hid hnx2
  replace hok2 := Lib.hid hok2
  go_wp2
  go_ret
  exact ⟨v2, rfl, hown2.out, hnx2.out, hok2.out⟩
end Go.Proofs.YtnaeabfmgfipoaaGreatDoor
namespace Go.Proofs.YtnaeabfmgfipoaaGreatDoor
open Go.RowKit

theorem Oth.grown_m {B bk bl : Nat} {w w' w2 : World} (h : Oth B bk bl w w') (hB : B ≤ w.heap.size) {n : Nat} {v : Value} {xs : List Value} (ho : OwM w' B v n xs) (hg : w'.grownBy w2 v.ownBlock) : Oth B bk bl w w2 :=
  h.kept (below_m ho hg (Nat.le_trans hB h.below.size)) (kept_m ho hg)
theorem one_grown_m {B b n : Nat} {w w2 : World} {u v : Value} {t : TypeId} {xs : List Value} (h : One w b u t) (ht : t ≠ 5) (ho : OwM w B v n xs) (hg : w.grownBy w2 v.ownBlock) : One w2 b u t :=
  h.kept ht (kept_m ho hg)
set_option maxRecDepth 100000 in
set_option maxHeartbeats 4000000 in
theorem lput_fn (x : Int) (ok : Bool) (v : Value) (n : Nat) (l : List UInt8) (B bk bl : Nat) (w : World) (hB : B ≤ w.heap.size) (hT : Lib.TabBelow Tryz.prog B w "internal/strconv.uint64pow10" .u64 Lib.pow10Tab)
    (h0 : -9223372036854775808 ≤ x) (h1 : x ≤ 9223372036854775807) (hk : One w bk (.bool ok) 4) (hl : One w bl v 64) (ho : OwM w B v n (Lib.byteCells l)) (hn : n + 22 ≤ 140737488355328) (hbk : B ≤ bk) (hbl : B ≤ bl) :
    Calls Tryz.prog 32 #[.int .i64 x, .pointer (some ⟨bk, 0, none⟩), .pointer (some ⟨bl, 0, none⟩)] w fun e w' => e = .returned (.tuple #[]) ∧ One w' bk (.bool (ok && inB x)) 4 ∧ (∃ v', One w' bl v' 64 ∧ OwM w' B v' (n + 1 + (Lib.itoa x).length) (Lib.byteCells ((l ++ [32]) ++ Lib.itoa x))) ∧ Oth B bk bl w w' := by
  have hne : bl ≠ bk := by
    rintro rfl
    have h := hl.at_
    rw [hk.at_] at h
    simp at h
  obtain ⟨g, cap, rfl⟩ := ho.shape
  replace hT := Lib.hid hT
  have c0 := hk.ce
  have f0 := hk.fr
  obtain ⟨b, hb⟩ : ∃ b, b = inB x := ⟨_, rfl⟩
  have hin := Lib.hid (inrange_fn x w)
  rw [← hb] at hin ⊢
  have K1 := Lib.hid (hk.set (.bool (ok && b)))
  have L1 := Lib.hid (hl.other (a := ⟨bk, 0, none⟩) (fun e => hne e.symm) (.bool (ok && b)))
  have W1 := Lib.hid (ho.set (x := .bool (ok && b)) hk (by decide))
  have O1 := Lib.hid ((Oth.refl B bk bl w).setK hbk 0 (.bool (ok && b)))
  have s1 : (w.setCell ⟨bk, 0, none⟩ (.bool (ok && b))).heap.size = w.heap.size := by simp
  have c1 := L1.out.ce
  have N1 := cell_one_new (w.setCell ⟨bk, 0, none⟩ (.bool (ok && b))) (.int .u8 32) 5
  rw [s1] at N1
  replace hb := Lib.hid hb
  replace hk := Lib.hid hk
  replace hl := Lib.hid hl
  replace ho := Lib.hid ho
  replace hne := Lib.hid hne
  replace N1 := Lib.hid N1
  replace s1 := Lib.hid s1
  have hB' := Lib.hid hB
  cases ok
  case' false =>
    rw [Bool.false_and] at K1 L1 W1 O1 s1 c1 N1 ⊢
    go_enter Tryz.func32, Tryz.ntmps32
  case' true =>
    rw [Bool.true_and] at K1 L1 W1 O1 s1 c1 N1 ⊢
    go_enter Tryz.func32, Tryz.ntmps32
    go_wp2_with fail
    refine hin.out.mono ?_
    rintro e w' ⟨rfl, rfl⟩
  all_goals
    go_wp2_with (at_builtin; refine wpList_append_m rfl _ _ 64 rfl B (.slice (some ⟨g, 0, none⟩) n cap) n (Lib.byteCells l) (by simp [Act.eval]) (W1.out.keep (Keep.one _ _)) _ _ _ rfl (Src.ofSlice _ Tryz.underlying64 ⟨w.heap.size, 0, none⟩ 1 1 [.int .u8 32] rfl N1.out (by intro u hu; simp at hu; subst hu; rfl)) (by omega) (by rw [World.size_alloc, s1.out]; omega) ?_; intro g2 cap2 w2 hown2 hgrow2; have L2 := Lib.hid (one_grown_m (L1.out.keep (Keep.one _ _)) (by decide) (W1.out.keep (Keep.one _ _)) hgrow2); have K2 := Lib.hid (one_grown_m (K1.out.keep (Keep.one _ _)) (by decide) (W1.out.keep (Keep.one _ _)) hgrow2); have O2 := Lib.hid ((O1.out.alloc hB _).grown_m hB (W1.out.keep (Keep.one _ _)) hgrow2); have f2 := L2.out.fr; have c2 := L2.out.ce; have c3 := (L2.out.set (.slice (some ⟨g2, 0, none⟩) (n + 1) cap2)).ce; replace hown2 := Lib.hid hown2; replace hgrow2 := Lib.hid hgrow2)
    have hown3 := hown2.out
    rw [space_cells] at hown3
    have O3 := Lib.hid (O2.out.setL hbl 0 (.slice (some ⟨g2, 0, none⟩) (n + 1) cap2))
    have L3 := Lib.hid (L2.out.set (.slice (some ⟨g2, 0, none⟩) (n + 1) cap2))
    have K3 := Lib.hid (K2.out.other (a := ⟨bl, 0, none⟩) hne.out (.slice (some ⟨g2, 0, none⟩) (n + 1) cap2))
    refine (pappi_fn B (n + 1) x h0 h1 (.slice (some ⟨g2, 0, none⟩) (n + 1) cap2) (Lib.byteCells (l ++ [32])) _ (hown3.set L2.out (by decide)) (Nat.le_trans hB O3.out.below.size) (by omega) (hT.out.on O3.out.below)).mono ?_
    rintro e w4 ⟨v4, rfl, hown4, hb4, hk4⟩
    obtain ⟨g4, cap4, rfl⟩ := hown4.shape
    have L4 := Lib.hid (L3.out.kept (by decide) hk4)
    have K4 := Lib.hid (K3.out.kept (by decide) hk4)
    have O4 := Lib.hid (O3.out.kept hb4 hk4)
    rw [add_cells] at hown4
    replace hown4 := Lib.hid hown4
    replace hk4 := Lib.hid hk4
    replace hb4 := Lib.hid hb4
    have f4 := L4.out.fr
    have c4 := L4.out.ce
    clear c0 c1 c2 c3 f0 f2
    go_wp2
    go_end0
    exact ⟨rfl, K4.out.other (a := ⟨bl, 0, none⟩) hne.out _, ⟨_, L4.out.set _, hown4.out.set L4.out (by decide)⟩, O4.out.setL hbl 0 _⟩
end Go.Proofs.YtnaeabfmgfipoaaGreatDoor
namespace Go.Proofs.YtnaeabfmgfipoaaGreatDoor
open Go.RowKit

def putT (s : ByteArray × Bool) (x : Int) : ByteArray × Bool := ((s.1 ++ ⟨#[32]⟩) ++ decB x, s.2 && inB x)
def stepL (i c n : Int) (f : Bool) (am : List Int) (s : ByteArray × Bool) (fld : Int) : ByteArray × Bool :=
  if fld = 1 then putT s i else if fld = 2 then putT s c else if fld = 3 then putT s n else if fld = 4 then (s.1 ++ (⟨#[32]⟩ ++ flagW f), s.2) else if fld = 5 then am.foldl putT s else s
def resL (s : ByteArray × Bool) : ByteArray := if s.2 then s.1 else ⟨#[]⟩
theorem fold_put : ∀ (l : List Int) (s : ByteArray) (b : Bool), l.foldl putT (s, b) = (joinN s l, b && okL l)
  | [], s, b => by simp [joinN, okL]
  | x :: l, s, b => by
    rw [List.foldl_cons]
    show l.foldl putT ((s ++ ⟨#[32]⟩) ++ decB x, b && inB x) = _
    rw [fold_put l]
    show (joinN s (x :: l), (b && inB x) && okL l) = _
    unfold okL
    rw [List.all_cons, Bool.and_assoc]
    rfl
theorem flag_cat (f : Bool) (s : ByteArray) : s ++ (⟨#[32]⟩ ++ flagW f) = s ++ (if f then ⟨#[32, 121, 101, 115]⟩ else ⟨#[32, 110, 111]⟩) := by
  cases f <;> rfl
theorem line_of (k : Int) (f : Bool) (K : ByteArray) (l : List Int) (h : ¬ k = 1) : resL (joinN K l, okL l) = lineT k f K l := by
  unfold resL lineT
  rw [if_neg h]
theorem line_run (κ : Nat) (h : ¬ ((κ : Int) < 1 ∨ 7 < (κ : Int))) (i c n : Int) (f : Bool) (m : Nat) (Z : Nat → Int) :
    resL ((rowOf κ).foldl (stepL i c n f ((List.range m).map Z)) (kindNm κ, true)) = lineT κ f (kindNm κ) (allN κ i c n m Z) ∧
    ((rowOf κ).foldl (stepL i c n f ((List.range m).map Z)) (kindNm κ, true)).2 = okL (allN κ i c n m Z) := by
  obtain ⟨am, ham⟩ : ∃ am, am = (List.range m).map Z := ⟨_, rfl⟩
  unfold allN
  rw [← ham]
  have one : ∀ (K : ByteArray) (x : Int), (K ++ ⟨#[32]⟩) ++ decB x = joinN K [x] := fun _ _ => rfl
  rcases (show κ = 1 ∨ κ = 2 ∨ κ = 3 ∨ κ = 4 ∨ κ = 5 ∨ κ = 6 ∨ κ = 7 by omega) with rfl | rfl | rfl | rfl | rfl | rfl | rfl
  · have e : (rowOf 1).foldl (stepL i c n f am) (kindNm 1, true) = (joinN (kindNm 1) [i, n] ++ (⟨#[32]⟩ ++ flagW f), okL [i, n]) := by
      have h := fold_put [i, n] (kindNm 1) true
      rw [Bool.true_and] at h
      show ((List.foldl putT (kindNm 1, true) [i, n]).1 ++ (⟨#[32]⟩ ++ flagW f), (List.foldl putT (kindNm 1, true) [i, n]).2) = _
      rw [h]
    rw [show ((1 : Nat) : Int) = 1 from rfl, e, flag_cat]
    exact ⟨rfl, rfl⟩
  · have e : (rowOf 2).foldl (stepL i c n f am) (kindNm 2, true) = List.foldl putT (kindNm 2, true) (i :: am) := rfl
    rw [show ((2 : Nat) : Int) = 2 from rfl, e, fold_put, Bool.true_and]
    exact ⟨line_of 2 f _ _ (by omega), rfl⟩
  · have e : (rowOf 3).foldl (stepL i c n f am) (kindNm 3, true) = List.foldl putT (kindNm 3, true) [i] := rfl
    rw [show ((3 : Nat) : Int) = 3 from rfl, e, fold_put, Bool.true_and]
    exact ⟨line_of 3 f _ _ (by omega), rfl⟩
  · have e : (rowOf 4).foldl (stepL i c n f am) (kindNm 4, true) = List.foldl putT (kindNm 4, true) (i :: c :: n :: am) := rfl
    rw [show ((4 : Nat) : Int) = 4 from rfl, e, fold_put, Bool.true_and]
    exact ⟨line_of 4 f _ _ (by omega), rfl⟩
  · have e : (rowOf 5).foldl (stepL i c n f am) (kindNm 5, true) = List.foldl putT (kindNm 5, true) [i] := rfl
    rw [show ((5 : Nat) : Int) = 5 from rfl, e, fold_put, Bool.true_and]
    exact ⟨line_of 5 f _ _ (by omega), rfl⟩
  · have e : (rowOf 6).foldl (stepL i c n f am) (kindNm 6, true) = List.foldl putT (kindNm 6, true) [n] := rfl
    rw [show ((6 : Nat) : Int) = 6 from rfl, e, fold_put, Bool.true_and]
    exact ⟨line_of 6 f _ _ (by omega), rfl⟩
  · have e : (rowOf 7).foldl (stepL i c n f am) (kindNm 7, true) = List.foldl putT (kindNm 7, true) [] := rfl
    rw [show ((7 : Nat) : Int) = 7 from rfl, e, fold_put, Bool.true_and]
    exact ⟨line_of 7 f _ _ (by omega), rfl⟩
end Go.Proofs.YtnaeabfmgfipoaaGreatDoor
namespace Go.Proofs.YtnaeabfmgfipoaaGreatDoor
open Go.RowKit

def I64 (x : Int) : Prop := -9223372036854775808 ≤ x ∧ x ≤ 9223372036854775807
structure LS (w : World) (bo bk bl : Nat) (k i c n : Int) (f : Bool) (A : Option Addr) (m cp : Nat) (t : ByteArray) (ok : Bool) (wr : World) : Prop where
  box : Box wr bo (.int .i64 k) (.int .i64 i) (.int .i64 c) (.int .i64 n) (.bool f) (.slice A m cp)
  okc : One wr bk (.bool ok) 4
  lin : ∃ v, One wr bl v 64 ∧ OwM wr w.heap.size v t.size (Lib.byteCells t.data.toList)
  keep : Keep w wr
  ge : w.heap.size ≤ bo ∧ w.heap.size ≤ bk ∧ w.heap.size ≤ bl
  ne : bo ≠ bk ∧ bo ≠ bl ∧ bk ≠ bl
section
variable {w : World} {bo bk bl : Nat} {k i c n : Int} {f : Bool} {A : Option Addr} {m cp : Nat} {t : ByteArray} {ok : Bool} {wr w2 : World}
theorem LS.kept (h : LS w bo bk bl k i c n f A m cp t ok wr) (kk : Keep wr w2) : LS w bo bk bl k i c n f A m cp t ok w2 := by
  obtain ⟨v, h1, h2⟩ := h.lin
  exact ⟨h.box.keep kk, h.okc.keep kk, ⟨v, h1.keep kk, h2.keep kk⟩, h.keep.trans kk, h.ge, h.ne⟩
theorem put_size (t : ByteArray) (x : Int) : ((t ++ ⟨#[32]⟩) ++ decB x).size = t.size + 1 + (Lib.itoa x).length := by
  rw [ByteArray.size_append, ByteArray.size_append, decB_itoa, size_str]
  rfl
theorem put_cells (t : ByteArray) (x : Int) : Lib.byteCells ((t ++ ⟨#[32]⟩) ++ decB x).data.toList = Lib.byteCells ((t.data.toList ++ [32]) ++ Lib.itoa x) := by
  rw [decB_itoa, ByteArray.data_append, ByteArray.data_append, Array.toList_append, Array.toList_append]
/-- The closure writes a number behind the line. -/
theorem lput_ls (hv : V4 w) (h : LS w bo bk bl k i c n f A m cp t ok wr) (x : Int) (hx : I64 x) (hn : t.size ≤ 1000000) :
    Calls Tryz.prog 32 #[.int .i64 x, .pointer (some ⟨bk, 0, none⟩), .pointer (some ⟨bl, 0, none⟩)] wr fun e w' => e = .returned (.tuple #[]) ∧ LS w bo bk bl k i c n f A m cp ((t ++ ⟨#[32]⟩) ++ decB x) (ok && inB x) w' := by
  obtain ⟨v, h1, h2⟩ := h.lin
  refine (lput_fn x ok v t.size t.data.toList w.heap.size bk bl wr h.keep.size ((Lib.tabBelow_of_tabIs hv.tab).on h.keep) hx.1 hx.2 h.okc h1 h2 (by omega) h.ge.2.1 h.ge.2.2).mono ?_
  rintro e w' ⟨rfl, a, ⟨v', b, b'⟩, O⟩
  refine ⟨rfl, h.box.oth O h.ne.1 h.ne.2.1, a, ⟨v', b, ?_⟩, Below.trans (B := w.heap.size) h.keep O.below, h.ge, h.ne⟩
  rw [put_size, put_cells]
  exact b'
/-- A string behind the line: what an append and a store leave. -/
theorem LS.text (h : LS w bo bk bl k i c n f A m cp t ok wr) {v : Value} (h1 : One wr bl v 64) (h2 : OwM wr w.heap.size v t.size (Lib.byteCells t.data.toList)) (s : ByteArray) {v2 : Value} (ho : OwM w2 w.heap.size v2 (t.size + s.size) (Lib.byteCells t.data.toList ++ Go.byteCells s)) (hg : wr.grownBy w2 v.ownBlock) :
    LS w bo bk bl k i c n f A m cp (t ++ s) ok (w2.setCell ⟨bl, 0, none⟩ v2) := by
  have O := (((Oth.refl w.heap.size bk bl wr).grown_m h.keep.size h2 hg).setL h.ge.2.2 0 v2)
  have hL := one_grown_m h1 (by decide) h2 hg
  refine ⟨h.box.oth O h.ne.1 h.ne.2.1, (one_grown_m h.okc (by decide) h2 hg).other (fun e => h.ne.2.2 e.symm) _, ⟨v2, hL.set v2, ?_⟩, Below.trans (B := w.heap.size) h.keep O.below, h.ge, h.ne⟩
  have ho' : OwM w2 w.heap.size v2 (t ++ s).size (Lib.byteCells (t ++ s).data.toList) := by
    rw [ByteArray.size_append, ByteArray.data_append, Array.toList_append, ← add_cells]
    exact ho
  exact ho'.set hL (by decide)
end
/-- At a step of a region that draws its order. -/
theorem step_append_m {ops : Array Oper} {o : Oper} {a : Act} {w : World} {K : Act → World → Prop} {Q : Exit → Act → World → Prop} {E : Prop} (hgd : o.guard = none) (s x : Operand) (tx : TypeId)
    (ho : o.op = .call { callee := .builtin .append, args := #[s, x], argTypes := #[64, tx] })
    (base : Nat) (v : Value) (n : Nat) (xs : List Value) (hv : a.eval s = v) (hown : OwM w base v n xs) (vx : Value) (m : Nat) (news : List Value) (hx : a.eval x = vx) (hs : Src Tryz.prog 1 tx vx m news w)
    (hlim : n + m ≤ 140737488355328) (hbase : base ≤ w.heap.size)
    (h : ∀ g cap w', OwM w' base (.slice (some ⟨g, 0, none⟩) (n + m) cap) (n + m) (xs ++ news) → w.grownBy w' v.ownBlock → K (a.put o.dst (.slice (some ⟨g, 0, none⟩) (n + m) cap)) w') :
    if Region.wanted o (yielded ops a.tmps) = true then Oper.wp Tryz.prog o a w K Q else E := by
  have hw : Region.wanted o (yielded ops a.tmps) = true := by simp [Region.wanted, hgd]
  rw [if_pos hw]
  obtain ⟨g, cap, w', hr, h2, h3⟩ := run_append_m w base tx o.type v n xs hown vx m news hs hlim hbase
  unfold Oper.wp execOp
  simp only [ho, resolve, invoke, builtin, Sem.run_bind, Sem.run_pure, Result.andThen_ok, List.map_toArray, List.map_cons, List.map_nil, hv, hx, hr]
  exact h g cap w' h2 h3
theorem bytes_string (w : World) (g cap : Nat) (t : ByteArray) (base : Nat) (h : OwM w base (.slice (some ⟨g, 0, none⟩) t.size cap) t.size (Lib.byteCells t.data.toList)) :
    (convert 64 9 (.slice (some ⟨g, 0, none⟩) t.size cap)).run Tryz.prog w = .ok (.string t) w := by
  have hl : t.data.toList.length = t.size := by cases t; rfl
  have h0 := run_convert_bytes_back (P := Tryz.prog) w 64 9 5 ⟨g, 0, none⟩ cap t.data.toList Tryz.underlying64 (by kernel_rfl) Tryz.underlying9 (fun j hj => by
    obtain ⟨g', cap', cur, lo, hi, e, _, _, _, _, _, _, _, hc⟩ := h
    injection e with e1 e2 e3
    injection e1 with e1
    injection e1 with e1
    subst e1
    have hadd : (⟨g, 0, none⟩ : Addr).add j = ⟨g, j, none⟩ := by unfold Addr.add; split <;> simp_all
    rw [hadd]
    apply hc j
    simp [Lib.byteCells, List.getElem?_eq_getElem hj])
  rw [hl] at h0
  rw [h0]
end Go.Proofs.YtnaeabfmgfipoaaGreatDoor
namespace Go.Proofs.YtnaeabfmgfipoaaGreatDoor
open Go.RowKit

theorem sline_out (k i c n : Int) (f : Bool) (A : Option Addr) (m cp : Nat) (w : World) (hv : Vars w) (hk : k < 1 ∨ 7 < k) :
    Calls Tryz.prog 13 #[.agg #[.int .i64 k, .int .i64 i, .int .i64 c, .int .i64 n, .bool f, .slice A m cp]] w fun e w' => e = .returned (.tuple #[.string ⟨#[]⟩, .bool false]) ∧ Keep w w' := by
  have hkn := Lib.hid (kindNm_none hk)
  replace hv := Lib.hid hv
  go_enter Tryz.func13, Tryz.ntmps13
  go_wp2_with fail
  refine (kind_name k _ (hv.out.keep (Keep.one _ _))).mono ?_
  rintro e w1 ⟨rfl, rfl⟩
  rw [hkn.out]
  go_wp2
  go_ret2
  exact ⟨rfl, Keep.one _ _⟩
theorem put_fold_size : ∀ (l : List Int) (t : ByteArray) (b : Bool), (∀ x ∈ l, I64 x) → (l.foldl putT (t, b)).1.size ≤ t.size + 21 * l.length
  | [], t, b, _ => Nat.le_refl _
  | x :: l, t, b, h => by
    have hx := h x (List.mem_cons_self ..)
    have h1 := put_fold_size l ((t ++ ⟨#[32]⟩) ++ decB x) (b && inB x) (fun y hy => h y (List.mem_cons_of_mem _ hy))
    have h3 := decB_size hx.1 hx.2
    have h4 : (⟨#[32]⟩ : ByteArray).size = 1 := rfl
    rw [ByteArray.size_append, ByteArray.size_append] at h1
    rw [List.foldl_cons, List.length_cons]
    show (l.foldl putT ((t ++ ⟨#[32]⟩) ++ decB x, b && inB x)).1.size ≤ _
    omega
theorem one_put_size {t : ByteArray} {x : Int} (hx : I64 x) : ((t ++ ⟨#[32]⟩) ++ decB x).size ≤ t.size + 21 := by
  have h3 := decB_size hx.1 hx.2
  have h4 : (⟨#[32]⟩ : ByteArray).size = 1 := rfl
  rw [ByteArray.size_append, ByteArray.size_append]
  omega
section
variable (i c n : Int) (f : Bool) (am : List Int) (s : ByteArray × Bool)
theorem stepL_0 : stepL i c n f am s 0 = s := rfl
theorem stepL_1 : stepL i c n f am s 1 = putT s i := rfl
theorem stepL_2 : stepL i c n f am s 2 = putT s c := rfl
theorem stepL_3 : stepL i c n f am s 3 = putT s n := rfl
theorem stepL_4 : stepL i c n f am s 4 = (s.1 ++ (⟨#[32]⟩ ++ flagW f), s.2) := rfl
theorem stepL_5 : stepL i c n f am s 5 = am.foldl putT s := rfl
end
theorem range_snoc (q : Nat) (Z : Nat → Int) : (List.range (q + 1)).map Z = (List.range q).map Z ++ [Z q] := by rw [List.range_succ, List.map_append]; rfl

set_option maxRecDepth 100000 in
set_option maxHeartbeats 16000000 in
theorem sline_in (κ : Nat) (i c n : Int) (f : Bool) (A : Option Addr) (m cp : Nat) (Z : Nat → Int) (w : World) (hv : V4 w) (hA : Rd w A m Z) (hm : m ≤ 100) (hi : I64 i) (hc : I64 c) (hn : I64 n) (hk : ¬ ((κ : Int) < 1 ∨ 7 < (κ : Int))) :
    Calls Tryz.prog 13 #[.agg #[.int .i64 κ, .int .i64 i, .int .i64 c, .int .i64 n, .bool f, .slice A m cp]] w fun e w' => e = .returned (.tuple #[.string (lineT κ f (kindNm κ) (allN κ i c n m Z)), .bool (okL (allN κ i c n m Z))]) ∧ Keep w w' := by
  have hconv : ∀ (W : World) (s : ByteArray), (convert 9 64 (.string s)).run Tryz.prog W = .ok (.slice (some ⟨W.heap.size, 0, none⟩) s.size (grownCap W s.size 0 5)) (Lib.bytesWorld W 5 s) := fun W s => Lib.run_convert_string_bytes W 9 64 5 s Tryz.underlying9 Tryz.underlying64 (by kernel_rfl)
  have hκ7 : κ < 8 := by omega
  have hne := kindNm_ne4 hk
  have hsz := kindNm_size4 κ
  obtain ⟨hr1, hr2⟩ := line_run κ hk i c n f m Z
  obtain ⟨fin, hfin⟩ : ∃ fin, (rowOf κ).foldl (stepL i c n f ((List.range m).map Z)) (kindNm κ, true) = fin := ⟨_, rfl⟩
  rw [hfin] at hr1 hr2
  rw [← hr1, ← hr2]
  have hname := fun (w' : World) (kk : Vars w') => kind_name κ w' kk
  obtain ⟨K, hK⟩ : ∃ K, K = kindNm κ := ⟨_, rfl⟩
  rw [← hK] at hne hsz hname hfin
  replace hname := Lib.hid hname
  replace hfin := Lib.hid hfin
  replace hK := Lib.hid hK
  replace hv := Lib.hid hv
  replace hA := Lib.hid hA
  replace hi := Lib.hid hi
  replace hc := Lib.hid hc
  replace hn := Lib.hid hn
  clear hr1 hr2
  go_enter Tryz.func13, Tryz.ntmps13
  go_wp2_with fail
  have k0 : Keep w (w.alloc (.cells #[.int .i64 κ, .int .i64 i, .int .i64 c, .int .i64 n, .bool f, .slice A m cp] 34)) := Keep.one _ _
  have X0 := Box.new w (.int .i64 κ) (.int .i64 i) (.int .i64 c) (.int .i64 n) (.bool f) (.slice A m cp)
  obtain ⟨wA, hwA⟩ : ∃ wA, wA = w.alloc (.cells #[.int .i64 κ, .int .i64 i, .int .i64 c, .int .i64 n, .bool f, .slice A m cp] 34) := ⟨_, rfl⟩
  obtain ⟨bo, hbo⟩ : ∃ bo, bo = w.heap.size := ⟨_, rfl⟩
  rw [← hwA] at k0 X0 ⊢
  rw [← hbo] at X0 ⊢
  have hlt := X0.lt
  have c0 := X0.ce0
  have hwlt := k0.size
  replace hwA := Lib.hid hwA
  replace hbo := Lib.hid hbo
  replace k0 := Lib.hid k0
  replace X0 := Lib.hid X0
  refine (hname.out wA (hv.out.base.keep k0.out)).mono ?_
  rintro e w1 ⟨rfl, rfl⟩
  have kB : Keep wA (Lib.bytesWorld wA 5 K) := Lib.bytesWorld_below _ _ _
  have L4 := (One.new (Lib.bytesWorld wA 5 K) (.slice (some ⟨wA.heap.size, 0, none⟩) K.size (grownCap wA K.size 0 5)) 64).keep (Keep.one _ (.cells #[.bool true] 4))
  have K4 := One.new ((Lib.bytesWorld wA 5 K).alloc (.cells #[.slice (some ⟨wA.heap.size, 0, none⟩) K.size (grownCap wA K.size 0 5)] 64)) (.bool true) 4
  rw [World.size_alloc] at K4
  have kD : Keep wA (((Lib.bytesWorld wA 5 K).alloc (.cells #[.slice (some ⟨wA.heap.size, 0, none⟩) K.size (grownCap wA K.size 0 5)] 64)).alloc (.cells #[.bool true] 4)) := (kB.alloc _).alloc _
  have kBD : Keep (Lib.bytesWorld wA 5 K) (((Lib.bytesWorld wA 5 K).alloc (.cells #[.slice (some ⟨wA.heap.size, 0, none⟩) K.size (grownCap wA K.size 0 5)] 64)).alloc (.cells #[.bool true] 4)) := (Keep.one _ _).alloc _
  have W4 := (conv_own wA w.heap.size hwlt K (by omega)).keep kBD
  have P4 : LS w bo ((Lib.bytesWorld wA 5 K).heap.size + 1) (Lib.bytesWorld wA 5 K).heap.size κ i c n f A m cp K true (((Lib.bytesWorld wA 5 K).alloc (.cells #[.slice (some ⟨wA.heap.size, 0, none⟩) K.size (grownCap wA K.size 0 5)] 64)).alloc (.cells #[.bool true] 4)) := by
    have hbs := Lib.bytesWorld_size wA 5 K
    have hbo' := hbo.out
    exact ⟨X0.out.keep kD, K4, ⟨_, L4, W4⟩, k0.out.trans kD, ⟨by omega, by omega, by omega⟩, ⟨by omega, by omega, by omega⟩⟩
  have hV4 := (hv.out.keep (k0.out.trans kD))
  have c0' := P4.box.ce0
  have f1 := fields_at κ hκ7
  have f20 := hV4.fields κ 0 hκ7 (by omega)
  rw [Nat.add_zero] at f20
  have f21 := hV4.fields κ 1 hκ7 (by omega)
  have f22 := hV4.fields κ 2 hκ7 (by omega)
  have f23 := hV4.fields κ 3 hκ7 (by omega)
  have f3 := fields_index κ
  unfold rowV at f3
  obtain ⟨F0, hF0⟩ : ∃ F, F = rowF κ 0 := ⟨_, rfl⟩
  obtain ⟨F1, hF1⟩ : ∃ F, F = rowF κ 1 := ⟨_, rfl⟩
  obtain ⟨F2, hF2⟩ : ∃ F, F = rowF κ 2 := ⟨_, rfl⟩
  obtain ⟨F3, hF3⟩ : ∃ F, F = rowF κ 3 := ⟨_, rfl⟩
  rw [← hF0] at f20 f3
  rw [← hF1] at f21 f3
  rw [← hF2] at f22 f3
  rw [← hF3] at f23 f3
  clear hF0 hF1 hF2 hF3
  replace f3 := Lib.hid f3
  replace P4 := Lib.hid P4
  replace hV4 := Lib.hid hV4
  replace L4 := Lib.hid L4
  replace K4 := Lib.hid K4
  replace kB := Lib.hid kB
  replace kD := Lib.hid kD
  replace kBD := Lib.hid kBD
  replace W4 := Lib.hid W4
  go_wp2_with fail
  clear c0 c0' f1 f20 f21 f22 f23 L4 K4 W4 hV4
  obtain ⟨w4, hw4⟩ : ∃ w4, w4 = (((Lib.bytesWorld wA 5 K).alloc (.cells #[.slice (some ⟨wA.heap.size, 0, none⟩) K.size (grownCap wA K.size 0 5)] 64)).alloc (.cells #[.bool true] 4)) := ⟨_, rfl⟩
  obtain ⟨bk, hbk⟩ : ∃ bk, bk = (Lib.bytesWorld wA 5 K).heap.size + 1 := ⟨_, rfl⟩
  obtain ⟨bl, hbl⟩ : ∃ bl, bl = (Lib.bytesWorld wA 5 K).heap.size := ⟨_, rfl⟩
  rw [← hw4] at P4 ⊢
  rw [← hbk] at P4 ⊢
  rw [← hbl] at P4 ⊢
  clear hw4 hbk hbl kB kD kBD
  go_loopg [24] (5) (fun g iv wr => ∃ (j : Nat) (t : ByteArray) (ok : Bool), j ≤ 4 ∧ g = 5 - j ∧ iv = .int .i64 j ∧ Hid (LS w bo bk bl κ i c n f A m cp t ok wr) ∧ Hid (((rowOf κ).drop j).foldl (stepL i c n f ((List.range m).map Z)) (t, ok) = fin) ∧ Hid (t.size ≤ 100 + 2300 * j))
  case atStart => exact ⟨0, K, true, by omega, rfl, rfl, P4, hfin, by show Hid (K.size ≤ 100); exact hsz⟩
  case round =>
    obtain ⟨j, t, ok, hj, rfl, rfl, hP, hrun, hts⟩ := hrel
    obtain ⟨wq, hwq⟩ : ∃ x, x = wr := ⟨_, rfl⟩
    subst hwq
    by_cases hlt4 : j < 4
    · have hd4 : decide ((j : Int) < 4) = true := decide_eq_true (by omega)
      have hix := f3.out j hlt4
      rw [drop_row κ j hlt4, List.foldl_cons] at hrun
      have hts' := hts.out
      rcases rowF_range κ j with hf | hf | hf | hf | hf | hf
      all_goals rw [hf] at hix hrun
      · rw [stepL_0] at hrun
        go_wp2
        go_roundg (5 - (j + 1))
        case measure => omega
        case rel => exact ⟨j + 1, t, ok, by omega, rfl, by go_num, hP, hrun, by show Hid (t.size ≤ 100 + 2300 * (j + 1)); exact Nat.le_trans hts' (by omega)⟩
      · rw [stepL_1] at hrun
        have cx := hP.out.box.ce1
        have hP2 := Lib.hid (lput_ls hv.out hP.out i hi.out (by omega))
        go_wp2_with fail
        refine hP2.out.mono ?_
        rintro e w5 ⟨rfl, h5⟩
        replace h5 := Lib.hid h5
        have hs5 := one_put_size (t := t) hi.out
        go_wp2
        go_roundg (5 - (j + 1))
        case measure => omega
        case rel => exact ⟨j + 1, (putT (t, ok) i).1, (putT (t, ok) i).2, by omega, rfl, by go_num, h5, hrun, by show Hid (((t ++ ⟨#[32]⟩) ++ decB i).size ≤ 100 + 2300 * (j + 1)); exact Nat.le_trans hs5 (by omega)⟩
      · rw [stepL_2] at hrun
        have cx := hP.out.box.ce2
        have hP2 := Lib.hid (lput_ls hv.out hP.out c hc.out (by omega))
        go_wp2_with fail
        refine hP2.out.mono ?_
        rintro e w5 ⟨rfl, h5⟩
        replace h5 := Lib.hid h5
        have hs5 := one_put_size (t := t) hc.out
        go_wp2
        go_roundg (5 - (j + 1))
        case measure => omega
        case rel => exact ⟨j + 1, (putT (t, ok) c).1, (putT (t, ok) c).2, by omega, rfl, by go_num, h5, hrun, by show Hid (((t ++ ⟨#[32]⟩) ++ decB c).size ≤ 100 + 2300 * (j + 1)); exact Nat.le_trans hs5 (by omega)⟩
      · rw [stepL_3] at hrun
        have cx := hP.out.box.ce3
        have hP2 := Lib.hid (lput_ls hv.out hP.out n hn.out (by omega))
        go_wp2_with fail
        refine hP2.out.mono ?_
        rintro e w5 ⟨rfl, h5⟩
        replace h5 := Lib.hid h5
        have hs5 := one_put_size (t := t) hn.out
        go_wp2
        go_roundg (5 - (j + 1))
        case measure => omega
        case rel => exact ⟨j + 1, (putT (t, ok) n).1, (putT (t, ok) n).2, by omega, rfl, by go_num, h5, hrun, by show Hid (((t ++ ⟨#[32]⟩) ++ decB n).size ≤ 100 + 2300 * (j + 1)); exact Nat.le_trans hs5 (by omega)⟩
      · rw [stepL_4] at hrun
        have cx := hP.out.box.ce4
        obtain ⟨v, hL, hO⟩ := hP.out.lin
        obtain ⟨g, cap, rfl⟩ := hO.shape
        have cl := hL.ce
        obtain ⟨E, hE⟩ : ∃ E, E = flagW f := ⟨_, rfl⟩
        obtain ⟨S, hS⟩ : ∃ S, S = ⟨#[32]⟩ ++ E := ⟨_, rfl⟩
        have hES : S.size ≤ 4 := by rw [hS, hE, ByteArray.size_append]; cases f <;> decide +kernel
        have hsum : ∀ w : World, (Op.stringOp .add ⟨#[32]⟩ E).run Tryz.prog w = .ok (.string S) w := fun w => by
          rw [hS]
          exact run_string_add_sum w _ _ (by rw [← ByteArray.size_append, ← hS]; omega)
        rw [← hE, ← hS] at hrun
        replace hE := Lib.hid hE
        replace hS := Lib.hid hS
        replace hL := Lib.hid hL
        replace hO := Lib.hid hO
        have hsz9 := hP.out.keep.size
        go_wp2_with fail
        go_region_law (first
          | (go_simp; go_at_call 35; refine (flagword_fn f _).mono ?_; rintro e w6 ⟨rfl, rfl⟩; rw [← hE.out])
          | (refine step_append_m rfl (.tmp 48) (.tmp 52) 9 rfl w.heap.size (.slice (some ⟨g, 0, none⟩) t.size cap) t.size (Lib.byteCells t.data.toList) (by simp [Act.eval, Act.put]) (hO.out.keep (Keep.refl _).drew) (.string S) S.size (Go.byteCells S) (by simp [Act.eval, Act.put]) (Src.ofString _ Tryz.underlying9 S) (by omega) (by exact hsz9) ?_; intro g2 cap2 w7 h7 hg7; have P7 := Lib.hid ((hP.out.kept (Keep.refl _).drew).text (hL.out.keep (Keep.refl _).drew) (hO.out.keep (Keep.refl _).drew) S h7 hg7); have fr7 := (one_grown_m (hL.out.keep (Keep.refl _).drew) (by decide) (hO.out.keep (Keep.refl _).drew) hg7).fr; have ce7 := (one_grown_m (hL.out.keep (Keep.refl _).drew) (by decide) (hO.out.keep (Keep.refl _).drew) hg7).ce; replace h7 := Lib.hid h7; replace hg7 := Lib.hid hg7))
        all_goals
          go_wp2
          go_roundg (5 - (j + 1))
          case measure => omega
          case rel => exact ⟨j + 1, t ++ S, ok, by omega, rfl, by go_num, P7, hrun, by show Hid ((t ++ S).size ≤ 100 + 2300 * (j + 1)); rw [ByteArray.size_append]; exact Nat.le_trans (Nat.add_le_add_left hES _) (by omega)⟩
      · rw [stepL_5] at hrun
        have cx := hP.out.box.ce5
        have hzr := Lib.hid hA.out.range
        go_wp2_with fail
        go_loopg [59] (m) (fun g iv wr2 => ∃ (q : Nat), q ≤ m ∧ g = m - q ∧ iv = .int .i64 q ∧ Hid (LS w bo bk bl κ i c n f A m cp (((List.range q).map Z).foldl putT (t, ok)).1 (((List.range q).map Z).foldl putT (t, ok)).2 wr2))
        case atStart => exact ⟨0, Nat.zero_le _, rfl, rfl, hP⟩
        case round =>
          obtain ⟨q, hq, rfl, rfl, hP3⟩ := hrel
          obtain ⟨wq2, hwq2⟩ : ∃ x, x = wr := ⟨_, rfl⟩
          subst hwq2
          have hsz3 := put_fold_size ((List.range q).map Z) t ok (fun x hx => by
            obtain ⟨y, hy, rfl⟩ := List.mem_map.1 hx
            exact hzr.out y (by have := List.mem_range.1 hy; omega))
          rw [List.length_map, List.length_range] at hsz3
          by_cases hqm : q < m
          · obtain ⟨ab, ao, hAe, hcell⟩ := (hA.out.keep hP3.out.keep).adr (by omega)
            have cq := hcell q hqm
            clear hcell
            have hP4 := Lib.hid (lput_ls hv.out hP3.out (Z q) (hzr.out q hqm) (by omega))
            have e1 : (((List.range (q + 1)).map Z).foldl putT (t, ok)) = putT (((List.range q).map Z).foldl putT (t, ok)) (Z q) := by rw [range_snoc, List.foldl_append]; rfl
            have hia : ∀ W : World, (Instr.indexAt 32 (.slice A m cp) (.int .i64 q)).run Tryz.prog W = .ok (.pointer (some ⟨ab, ao + q, none⟩)) W := fun W => by rw [hAe]; go_simp
            replace hAe := Lib.hid hAe
            go_wp2_with fail
            refine hP4.out.mono ?_
            rintro e w5 ⟨rfl, h5⟩
            replace h5 := Lib.hid h5
            replace e1 := Lib.hid e1
            go_wp2
            go_roundg (m - (q + 1))
            case measure => omega
            case rel => exact ⟨q + 1, by omega, rfl, by go_num, by rw [e1.out]; exact h5⟩
          · obtain rfl : q = m := by omega
            go_wp2
            go_roundg (5 - (j + 1))
            case measure => omega
            case rel => exact ⟨j + 1, _, _, by omega, rfl, by go_num, hP3, hrun, by show Hid (_ ≤ 100 + 2300 * (j + 1)); exact Nat.le_trans hsz3 (by omega)⟩
    · obtain rfl : j = 4 := by omega
      have hfe : Hid ((t, ok) = fin) := hrun
      have ck := hP.out.okc.ce
      obtain ⟨v, hL, hO⟩ := hP.out.lin
      obtain ⟨g, cap, rfl⟩ := hO.shape
      have cl := hL.ce
      have hcv := bytes_string wq g cap t _ hO
      replace hL := Lib.hid hL
      replace hO := Lib.hid hO
      cases ok
      · have hr : Hid (resL fin = ⟨#[]⟩) := by rw [← hfe.out]; rfl
        have hr2 : Hid (fin.2 = false) := by rw [← hfe.out]; rfl
        go_wp2
        go_ret2
        rw [hr.out, hr2.out]
        exact ⟨rfl, hP.out.keep⟩
      · have hr : Hid (resL fin = t) := by rw [← hfe.out]; rfl
        have hr2 : Hid (fin.2 = true) := by rw [← hfe.out]; rfl
        go_wp2
        go_ret2
        rw [hr.out, hr2.out]
        exact ⟨rfl, hP.out.keep⟩
end Go.Proofs.YtnaeabfmgfipoaaGreatDoor
namespace Go.Proofs.YtnaeabfmgfipoaaGreatDoor
open Go.RowKit

/-- What Parse hands back. -/
def PRes (w : World) (o : Option OpD) (e : Ending) (w' : World) : Prop := Keep w w' ∧ match o with
  | none => e = .returned (.tuple #[.agg #[.int .i64 0, .int .i64 0, .int .i64 0, .int .i64 0, .bool false, .slice none 0 0], .bool false])
  | some d => ∃ av, e = .returned (.tuple #[.agg #[.int .i64 d.kind, .int .i64 d.id, .int .i64 d.cls, .int .i64 d.n, .bool d.flag, av], .bool true]) ∧ w'.ownsRow w.heap.size 2 1 av d.amounts.length (ints d.amounts)
theorem PRes.none {w : World} {o : Option OpD} {w' : World} (ho : o = Option.none) (k : Keep w w') : PRes w o (.returned (.tuple #[.agg #[.int .i64 0, .int .i64 0, .int .i64 0, .int .i64 0, .bool false, .slice Option.none 0 0], .bool false])) w' := by
  subst ho; exact ⟨k, rfl⟩
theorem PRes.some {w : World} {o : Option OpD} {w' : World} {d : OpD} {av : Value} (ho : o = Option.some d) (k : Keep w w') (h : w'.ownsRow w.heap.size 2 1 av d.amounts.length (ints d.amounts)) : PRes w o (.returned (.tuple #[.agg #[.int .i64 d.kind, .int .i64 d.id, .int .i64 d.cls, .int .i64 d.n, .bool d.flag, av], .bool true])) w' := by
  subst ho; exact ⟨k, av, rfl, h⟩
theorem own_shape {w : World} {base n z : Nat} {e : TypeId} {v : Value} {xs : List Value} (h : w.ownsRow base e z v n xs) : ∃ A cap, v = .slice A n cap := by
  rcases h.2 with ⟨rfl, rfl⟩ | ⟨g, cap, cur, rfl, _⟩
  · exact ⟨none, 0, rfl⟩
  · exact ⟨_, cap, rfl⟩
theorem res_more {κ : Int} {s : St} (h : s.L ≠ []) : resOf κ s = none := if_pos (Or.inl h)
theorem res_bad {κ : Int} {s : St} (h : s.ok = false) : resOf κ s = none := if_pos (Or.inr (Or.inl h))
theorem res_kind {s : St} : resOf 0 s = none := if_pos (Or.inr (Or.inr rfl))
theorem res_yes {κ : Int} {s : St} (h : s.L = []) (h2 : s.ok = true) (h3 : κ ≠ 0) : resOf κ s = some ⟨κ, s.id, s.cls, s.n, s.flag, s.am⟩ := if_neg (by rintro (e | e | e); exact e h; rw [h2] at e; cases e; exact h3 e)

set_option maxRecDepth 100000 in
set_option maxHeartbeats 16000000 in
theorem sparse_fn (s : ByteArray) (w : World) (hv : V4 w) (hs : s.size ≤ 1048576) :
    Calls Tryz.prog 15 #[.string s] w (PRes w (parseOf (wordsOf s))) := by
  have hmf : ∀ (fn : Fn) (first cap : Array Value) (w : World), (Instr.makeFunc fn first cap).run Tryz.prog w = .ok (.func fn first cap) w := fun _ _ _ _ => rfl
  obtain ⟨x, L, hw0⟩ : ∃ x L, wordsOf s = x :: L := by
    rw [words_split]
    exact ⟨_, _, split_take 32 s⟩
  obtain ⟨res, hres⟩ : ∃ res, res = parseOf (wordsOf s) := ⟨_, rfl⟩
  rw [← hres]
  rw [hw0] at hres
  replace hres := Lib.hid hres
  replace hw0 := Lib.hid hw0
  replace hv := Lib.hid hv
  obtain ⟨i0, hi0, hz0, hz1, hz2⟩ := info_parts Tryz.infoI64
  go_enter Tryz.func15, Tryz.ntmps15
  go_wp2
  go_step3
  go_wp2_with fail
  refine (swords_fn s _ hs).mono ?_
  rintro e w1 ⟨bl, bm, rfl, hbl, hbm, k1, T⟩
  rw [World.size_alloc] at hbl hbm
  rw [hw0.out] at T
  have K1 := Lib.hid ((Keep.one w (.cells #[.int .i64 0, .int .i64 0, .int .i64 0, .int .i64 0, .bool false, .slice none 0 0] 34)).trans k1)
  have R1 := Lib.hid ((Box.new w (.int .i64 0) (.int .i64 0) (.int .i64 0) (.int .i64 0) (.bool false) (.slice none 0 0)).keep k1)
  obtain ⟨br, hbr⟩ : ∃ br, br = w.heap.size := ⟨_, rfl⟩
  rw [← hbr] at R1 ⊢
  rw [← hbr] at hbl hbm
  replace hbl := Lib.hid hbl
  replace hbm := Lib.hid hbm
  replace hbr := Lib.hid hbr
  replace k1 := Lib.hid k1
  replace T := Lib.hid T
  go_wp2_with fail
  refine (take_cons _ _ _ x L T.out).mono ?_
  rintro e w2 ⟨rfl, T2, O2⟩
  have K2 := Lib.hid (O2.keep K1.out (by have := hbl.out; have := hbm.out; have := hbr.out; rintro i (rfl | rfl) <;> omega))
  have R2 := Lib.hid (R1.out.off O2 (by have := hbl.out; have := hbm.out; omega))
  replace T2 := Lib.hid T2
  replace O2 := Lib.hid O2
  go_wp2_with fail
  refine (kindof_fn x w2 (hv.out.base.keep K2.out)).mono ?_
  rintro e w3 ⟨rfl, rfl⟩
  obtain ⟨κ, hκ⟩ : ∃ κ : Nat, kindOf x = κ := ⟨(kindOf x).toNat, by have := kindOf_range x; omega⟩
  have hκ7 : κ < 8 := by have := kindOf_range x; omega
  rw [hκ]
  obtain ⟨fin, hfin⟩ : ∃ fin, run (rowOf κ) (st0 L) = fin := ⟨_, rfl⟩
  have hres2 : Hid (res = resOf κ fin) := by
    have h := run_parse x L
    rw [hκ] at h
    rw [hres.out, ← h, ← hfin]
    rfl
  replace hκ := Lib.hid hκ
  replace hfin := Lib.hid hfin
  clear hres
  go_wp2_with fail
  have K4 := Lib.hid ((K2.out.alloc (.cells #[.int .i64 κ, .int .i64 0, .int .i64 0, .int .i64 0, .bool false, .slice none 0 0] 34)).alloc (.cells #[.bool true] 4))
  have O4 := Lib.hid ((Box.new w2 (.int .i64 κ) (.int .i64 0) (.int .i64 0) (.int .i64 0) (.bool false) (.slice none 0 0)).keep (Keep.one _ (.cells #[.bool true] 4)))
  have B4 := Lib.hid (One.new (w2.alloc (.cells #[.int .i64 κ, .int .i64 0, .int .i64 0, .int .i64 0, .bool false, .slice none 0 0] 34)) (.bool true) 4)
  rw [World.size_alloc] at B4
  have k24 : Keep w2 ((w2.alloc (.cells #[.int .i64 κ, .int .i64 0, .int .i64 0, .int .i64 0, .bool false, .slice none 0 0] 34)).alloc (.cells #[.bool true] 4)) := (Keep.one _ _).alloc _
  have T4 := Lib.hid (T2.out.keep k24)
  have R4 := Lib.hid (R2.out.keep k24)
  have l2 := T2.out.lt
  have l3 := R2.out.lt
  obtain ⟨w4, hw4⟩ : ∃ w4, w4 = (w2.alloc (.cells #[.int .i64 κ, .int .i64 0, .int .i64 0, .int .i64 0, .bool false, .slice none 0 0] 34)).alloc (.cells #[.bool true] 4) := ⟨_, rfl⟩
  obtain ⟨bo, hbo⟩ : ∃ bo, bo = w2.heap.size := ⟨_, rfl⟩
  obtain ⟨bk, hbk⟩ : ∃ bk, bk = w2.heap.size + 1 := ⟨_, rfl⟩
  rw [← hw4] at K4 O4 B4 T4 R4 ⊢
  rw [← hbk] at B4 ⊢
  rw [← hbo] at O4 ⊢
  have P4 : Hid (PS w bl bm bo bk br κ (st0 L) (.slice none 0 0) w4) := by
    have := hbl.out; have := hbm.out; have := hbr.out; have := K2.out.size
    exact ⟨T4.out, O4.out, B4.out, R4.out, World.ownsRow_nil _ _ _ _, K4.out, ⟨by omega, by omega, by omega, by omega, by omega⟩, ⟨by omega, by omega, by omega, by omega, by omega, by omega, by omega, by omega, by omega⟩⟩
  have hlen : Hid (L.length ≤ 1048577) := by have := T.out.len; simp at this; exact Nat.le_of_lt (by omega)
  have hV4 := Lib.hid (hv.out.keep K4.out)
  have c0 := O4.out.ce0
  have f1 := fields_at κ hκ7 w4
  have f20 := hV4.out.fields κ 0 hκ7 (by omega)
  rw [Nat.add_zero] at f20
  have f21 := hV4.out.fields κ 1 hκ7 (by omega)
  have f22 := hV4.out.fields κ 2 hκ7 (by omega)
  have f23 := hV4.out.fields κ 3 hκ7 (by omega)
  have f3 := fields_index κ
  unfold rowV at f3
  obtain ⟨F0, hF0⟩ : ∃ F, F = rowF κ 0 := ⟨_, rfl⟩
  obtain ⟨F1, hF1⟩ : ∃ F, F = rowF κ 1 := ⟨_, rfl⟩
  obtain ⟨F2, hF2⟩ : ∃ F, F = rowF κ 2 := ⟨_, rfl⟩
  obtain ⟨F3, hF3⟩ : ∃ F, F = rowF κ 3 := ⟨_, rfl⟩
  rw [← hF0] at f20 f3
  rw [← hF1] at f21 f3
  rw [← hF2] at f22 f3
  rw [← hF3] at f23 f3
  clear hF0 hF1 hF2 hF3
  replace f3 := Lib.hid f3
  clear hw4 k24 hbo hbk l2 l3
  go_step3
  go_wp2_with fail
  clear c0 f1 f20 f21 f22 f23
  go_loopg [33] (5) (fun g i wr => ∃ (j : Nat) (s : St) (av : Value), j ≤ 4 ∧ g = 5 - j ∧ i = .int .i64 j ∧ Hid (PS w bl bm bo bk br κ s av wr) ∧ Hid (run ((rowOf κ).drop j) s = fin) ∧ Hid (s.am.length + s.L.length ≤ 1048577))
  case atStart => exact ⟨0, st0 L, .slice none 0 0, by omega, rfl, rfl, P4, hfin, by show Hid (0 + L.length ≤ 1048577); rw [Nat.zero_add]; exact hlen⟩
  case round =>
    obtain ⟨j, s, av, hj, rfl, rfl, hP, hrun, hle⟩ := hrel
    obtain ⟨wq, hwq⟩ : ∃ x, x = wr := ⟨_, rfl⟩
    subst hwq
    obtain ⟨A, cap, rfl⟩ := own_shape hP.out.own
    by_cases hlt : j < 4
    · have hix := f3.out j hlt
      rw [drop_row κ j hlt] at hrun
      rcases rowF_range κ j with hf | hf | hf | hf | hf | hf
      all_goals rw [hf] at hix hrun
      · have hT := Lib.hid hP.out.tk
        go_wp2_with fail
        refine (take_any _ bl bm s.L hT.out).mono ?_
        rintro e w5 ⟨rfl, T5, O5⟩
        have P5 := Lib.hid (hP.out.taken O5 T5)
        have cb0 := P5.out.box.ce0
        have r0 := P5.out.res.fr0
        have r1 := P5.out.res.fr1
        have r2 := P5.out.res.fr2
        have r3 := P5.out.res.fr3
        have r4 := P5.out.res.fr4
        have r5 := P5.out.res.fr5
        have g0 := P5.out.res.ce0
        have g1 := P5.out.res.ce1
        have g2 := P5.out.res.ce2
        have g3 := P5.out.res.ce3
        have g4 := P5.out.res.ce4
        have g5 := P5.out.res.ce5
        have cb1 := P5.out.box.ce1
        have cb2 := P5.out.box.ce2
        have cb3 := P5.out.box.ce3
        have cb4 := P5.out.box.ce4
        have cb5 := P5.out.box.ce5
        replace T5 := Lib.hid T5
        replace O5 := Lib.hid O5
        have hsf : Hid (s = fin) := by
          have h := hrun.out
          first
            | exact h
            | (rw [run, if_pos rfl] at h; exact h)
        obtain ⟨mo, hmo⟩ : ∃ mo, mo = !s.L.isEmpty := ⟨_, rfl⟩
        rw [← hmo]
        obtain ⟨ok, hok⟩ : ∃ ok, ok = s.ok := ⟨_, rfl⟩
        have ck : w5.cell? ⟨bk, 0, none⟩ = some (.bool ok) := by rw [hok]; exact P5.out.okc.ce
        have hge := P5.out.ge.2.2.2.2
        cases mo
        · have hL : Hid (s.L = []) := by
            cases hl : s.L with
            | nil => rfl
            | cons a b => rw [hl] at hmo; cases hmo
          clear hmo
          cases ok
          · have hn : Hid (res = none) := hres2.out.trans (res_bad (by rw [← hsf.out]; exact hok.symm))
            replace hok := Lib.hid hok
            go_wp2
            (try rw [Exit.noGoto_ret])
            obtain ⟨wE, hwE⟩ : ∃ wE, wE = set6 w5 br (.int .i64 0) (.int .i64 0) (.int .i64 0) (.int .i64 0) (.bool false) (.slice none 0 0) := ⟨_, rfl⟩
            have E := P5.out.res.set6 (.int .i64 0) (.int .i64 0) (.int .i64 0) (.int .i64 0) (.bool false) (.slice none 0 0)
            have F := off_set6 w5 br (.int .i64 0) (.int .i64 0) (.int .i64 0) (.int .i64 0) (.bool false) (.slice none 0 0)
            rw [← hwE] at E F
            unfold Go.Proofs.YtnaeabfmgfipoaaGreatDoor.set6 at hwE
            rw [← hwE]
            have e0 := E.ce0
            have e1 := E.ce1
            have e2 := E.ce2
            have e3 := E.ce3
            have e4 := E.ce4
            have e5 := E.ce5
            have KE := F.keep P5.out.keep (by rintro i rfl; exact hge)
            refine bodyPost_ret (v := .tuple #[.agg #[.int .i64 0, .int .i64 0, .int .i64 0, .int .i64 0, .bool false, .slice none 0 0], .bool false]) (by simp [results, Tryz.results15, go_sem, e0, e1, e2, e3, e4, e5]) rfl (PRes.none hn.out KE)
          · by_cases h0 : κ = 0
            · have hn : Hid (res = none) := hres2.out.trans (by rw [h0]; exact res_kind)
              have hb : ((κ : Int) == 0) = true := by simp [h0]
              replace hok := Lib.hid hok
              replace h0 := Lib.hid h0
              go_wp2
              (try rw [Exit.noGoto_ret])
              obtain ⟨wE, hwE⟩ : ∃ wE, wE = set6 w5 br (.int .i64 0) (.int .i64 0) (.int .i64 0) (.int .i64 0) (.bool false) (.slice none 0 0) := ⟨_, rfl⟩
              have E := P5.out.res.set6 (.int .i64 0) (.int .i64 0) (.int .i64 0) (.int .i64 0) (.bool false) (.slice none 0 0)
              have F := off_set6 w5 br (.int .i64 0) (.int .i64 0) (.int .i64 0) (.int .i64 0) (.bool false) (.slice none 0 0)
              rw [← hwE] at E F
              unfold Go.Proofs.YtnaeabfmgfipoaaGreatDoor.set6 at hwE
              rw [← hwE]
              have e0 := E.ce0
              have e1 := E.ce1
              have e2 := E.ce2
              have e3 := E.ce3
              have e4 := E.ce4
              have e5 := E.ce5
              have KE := F.keep P5.out.keep (by rintro i rfl; exact hge)
              refine bodyPost_ret (v := .tuple #[.agg #[.int .i64 0, .int .i64 0, .int .i64 0, .int .i64 0, .bool false, .slice none 0 0], .bool false]) (by simp [results, Tryz.results15, go_sem, e0, e1, e2, e3, e4, e5]) rfl (PRes.none hn.out KE)
            · have hn : Hid (res = some ⟨κ, s.id, s.cls, s.n, s.flag, s.am⟩) := hres2.out.trans (by rw [← hsf.out]; exact res_yes hL.out hok.symm (by omega))
              have hb : ((κ : Int) == 0) = false := by simp [h0]
              replace hok := Lib.hid hok
              replace h0 := Lib.hid h0
              go_wp2
              (try rw [Exit.noGoto_ret])
              obtain ⟨wE, hwE⟩ : ∃ wE, wE = set6 w5 br (.int .i64 κ) (.int .i64 s.id) (.int .i64 s.cls) (.int .i64 s.n) (.bool s.flag) (.slice A s.am.length cap) := ⟨_, rfl⟩
              have E := P5.out.res.set6 (.int .i64 κ) (.int .i64 s.id) (.int .i64 s.cls) (.int .i64 s.n) (.bool s.flag) (.slice A s.am.length cap)
              have F := off_set6 w5 br (.int .i64 κ) (.int .i64 s.id) (.int .i64 s.cls) (.int .i64 s.n) (.bool s.flag) (.slice A s.am.length cap)
              rw [← hwE] at E F
              unfold Go.Proofs.YtnaeabfmgfipoaaGreatDoor.set6 at hwE
              rw [← hwE]
              have e0 := E.ce0
              have e1 := E.ce1
              have e2 := E.ce2
              have e3 := E.ce3
              have e4 := E.ce4
              have e5 := E.ce5
              have KE := F.keep P5.out.keep (by rintro i rfl; exact hge)
              refine bodyPost_ret (v := .tuple #[.agg #[.int .i64 κ, .int .i64 s.id, .int .i64 s.cls, .int .i64 s.n, .bool s.flag, .slice A s.am.length cap], .bool true]) (by simp [results, Tryz.results15, go_sem, e0, e1, e2, e3, e4, e5]) rfl (PRes.some hn.out KE (F.own P5.out.own (fun k hk e => P5.out.notl k hk (Or.inr (Or.inr (Or.inr (Or.inr e)))))))
        · have hL : Hid (s.L ≠ []) := by
            intro hl
            rw [hl] at hmo; cases hmo
          clear hmo
          have hn : Hid (res = none) := hres2.out.trans (res_more (by rw [← hsf.out]; exact hL.out))
          replace hok := Lib.hid hok
          go_wp2
          (try rw [Exit.noGoto_ret])
          obtain ⟨wE, hwE⟩ : ∃ wE, wE = set6 w5 br (.int .i64 0) (.int .i64 0) (.int .i64 0) (.int .i64 0) (.bool false) (.slice none 0 0) := ⟨_, rfl⟩
          have E := P5.out.res.set6 (.int .i64 0) (.int .i64 0) (.int .i64 0) (.int .i64 0) (.bool false) (.slice none 0 0)
          have F := off_set6 w5 br (.int .i64 0) (.int .i64 0) (.int .i64 0) (.int .i64 0) (.bool false) (.slice none 0 0)
          rw [← hwE] at E F
          unfold Go.Proofs.YtnaeabfmgfipoaaGreatDoor.set6 at hwE
          rw [← hwE]
          have e0 := E.ce0
          have e1 := E.ce1
          have e2 := E.ce2
          have e3 := E.ce3
          have e4 := E.ce4
          have e5 := E.ce5
          have KE := F.keep P5.out.keep (by rintro i rfl; exact hge)
          refine bodyPost_ret (v := .tuple #[.agg #[.int .i64 0, .int .i64 0, .int .i64 0, .int .i64 0, .bool false, .slice none 0 0], .bool false]) (by simp [results, Tryz.results15, go_sem, e0, e1, e2, e3, e4, e5]) rfl (PRes.none hn.out KE)
      · go_wp2_with fail
        refine (take_any _ bl bm s.L hP.out.tk).mono ?_
        rintro e w5 ⟨rfl, T5, O5⟩
        have P5 := Lib.hid (hP.out.taken O5 T5)
        replace T5 := Lib.hid T5
        replace O5 := Lib.hid O5
        go_wp2_with fail
        refine (pnum_fn (tkW s.L) (!s.L.isEmpty) s.ok bk w5 (hv.out.keep P5.out.keep) hP.out.tk.word_le P5.out.okc).mono ?_
        rintro e w6 ⟨rfl, B6, O6⟩
        have P6 := Lib.hid (P5.out.read O6 B6)
        have fr := P6.out.box.fr1
        have ce := P6.out.box.ce1
        rw [(tk_num s.L s.ok).1]
        have PN := Lib.hid (hP.out.num1 O5.out T5.out O6 B6)
        replace B6 := Lib.hid B6
        replace O6 := Lib.hid O6
        have hrun2 : Hid (run ((rowOf κ).drop (j + 1)) (step 1 s) = fin) := by
          have h := hrun.out
          rw [run, if_neg (by omega)] at h
          exact h
        have hle2 : Hid ((step 1 s).am.length + (step 1 s).L.length ≤ 1048577) := by
          have h := hle.out
          show s.am.length + s.L.tail.length ≤ 1048577
          rw [List.length_tail]
          omega
        go_wp2
        go_roundg (5 - (j + 1))
        case measure => omega
        case rel => exact ⟨j + 1, step 1 s, .slice A s.am.length cap, by omega, rfl, by go_num, PN, hrun2, hle2⟩
      · go_wp2_with fail
        refine (take_any _ bl bm s.L hP.out.tk).mono ?_
        rintro e w5 ⟨rfl, T5, O5⟩
        have P5 := Lib.hid (hP.out.taken O5 T5)
        replace T5 := Lib.hid T5
        replace O5 := Lib.hid O5
        go_wp2_with fail
        refine (pnum_fn (tkW s.L) (!s.L.isEmpty) s.ok bk w5 (hv.out.keep P5.out.keep) hP.out.tk.word_le P5.out.okc).mono ?_
        rintro e w6 ⟨rfl, B6, O6⟩
        have P6 := Lib.hid (P5.out.read O6 B6)
        have fr := P6.out.box.fr2
        have ce := P6.out.box.ce2
        rw [(tk_num s.L s.ok).1]
        have PN := Lib.hid (hP.out.num2 O5.out T5.out O6 B6)
        replace B6 := Lib.hid B6
        replace O6 := Lib.hid O6
        have hrun2 : Hid (run ((rowOf κ).drop (j + 1)) (step 2 s) = fin) := by
          have h := hrun.out
          rw [run, if_neg (by omega)] at h
          exact h
        have hle2 : Hid ((step 2 s).am.length + (step 2 s).L.length ≤ 1048577) := by
          have h := hle.out
          show s.am.length + s.L.tail.length ≤ 1048577
          rw [List.length_tail]
          omega
        go_wp2
        go_roundg (5 - (j + 1))
        case measure => omega
        case rel => exact ⟨j + 1, step 2 s, .slice A s.am.length cap, by omega, rfl, by go_num, PN, hrun2, hle2⟩
      · go_wp2_with fail
        refine (take_any _ bl bm s.L hP.out.tk).mono ?_
        rintro e w5 ⟨rfl, T5, O5⟩
        have P5 := Lib.hid (hP.out.taken O5 T5)
        replace T5 := Lib.hid T5
        replace O5 := Lib.hid O5
        go_wp2_with fail
        refine (pnum_fn (tkW s.L) (!s.L.isEmpty) s.ok bk w5 (hv.out.keep P5.out.keep) hP.out.tk.word_le P5.out.okc).mono ?_
        rintro e w6 ⟨rfl, B6, O6⟩
        have P6 := Lib.hid (P5.out.read O6 B6)
        have fr := P6.out.box.fr3
        have ce := P6.out.box.ce3
        rw [(tk_num s.L s.ok).1]
        have PN := Lib.hid (hP.out.num3 O5.out T5.out O6 B6)
        replace B6 := Lib.hid B6
        replace O6 := Lib.hid O6
        have hrun2 : Hid (run ((rowOf κ).drop (j + 1)) (step 3 s) = fin) := by
          have h := hrun.out
          rw [run, if_neg (by omega)] at h
          exact h
        have hle2 : Hid ((step 3 s).am.length + (step 3 s).L.length ≤ 1048577) := by
          have h := hle.out
          show s.am.length + s.L.tail.length ≤ 1048577
          rw [List.length_tail]
          omega
        go_wp2
        go_roundg (5 - (j + 1))
        case measure => omega
        case rel => exact ⟨j + 1, step 3 s, .slice A s.am.length cap, by omega, rfl, by go_num, PN, hrun2, hle2⟩
      · obtain ⟨X, hX⟩ : ∃ X, X = tkW s.L := ⟨_, rfl⟩
        obtain ⟨b, hb⟩ : ∃ b, b = decide (X = yesW) := ⟨_, rfl⟩
        obtain ⟨b2, hb2⟩ : ∃ b2, b2 = decide (X = flagW b) := ⟨_, rfl⟩
        have q1 : (X.toList == (flagW true).toList) = b := by rw [hb]; exact bytes_eq X yesW
        have q2 : (X.toList == (flagW b).toList) = b2 := by rw [hb2]; exact bytes_eq X (flagW b)
        have hrun2 : Hid (run ((rowOf κ).drop (j + 1)) { s with L := s.L.tail, flag := b, ok := s.ok && b2 } = fin) := by
          have h := hrun.out
          rw [run, if_neg (by omega)] at h
          rw [hb2, hb, hX]
          exact h
        have hle2 : Hid (s.am.length + s.L.tail.length ≤ 1048577) := by
          have h := hle.out
          show s.am.length + s.L.tail.length ≤ 1048577
          rw [List.length_tail]
          omega
        replace hb := Lib.hid hb
        replace hb2 := Lib.hid hb2
        go_wp2_with fail
        refine (take_any _ bl bm s.L hP.out.tk).mono ?_
        rintro e w5 ⟨rfl, T5, O5⟩
        rw [← hX]
        replace hX := Lib.hid hX
        have P5 := Lib.hid (hP.out.taken O5 T5)
        have P6 := Lib.hid (P5.out.flag b)
        have PN := Lib.hid (P6.out.setk (s.ok && b2))
        have fr1 := P5.out.box.fr4
        have ce1 := P5.out.box.ce4
        have ce2 := P6.out.box.ce4
        have fr3 := P6.out.okc.fr
        replace T5 := Lib.hid T5
        replace O5 := Lib.hid O5
        obtain ⟨ok, hok⟩ : ∃ ok, ok = s.ok := ⟨_, rfl⟩
        rw [← hok] at PN hrun2
        have ce3 : (w5.setCell ⟨bo, 4, none⟩ (.bool b)).cell? ⟨bk, 0, none⟩ = some (.bool ok) := by rw [hok]; exact P6.out.okc.ce
        replace hok := Lib.hid hok
        go_wp2_with fail
        refine (flagword_fn true _).mono ?_
        rintro e w6 ⟨rfl, rfl⟩
        cases ok
        · go_wp2
          go_roundg (5 - (j + 1))
          case measure => omega
          case rel => exact ⟨j + 1, { s with L := s.L.tail, flag := b, ok := false && b2 }, .slice A s.am.length cap, by omega, rfl, by go_num, PN, hrun2, hle2⟩
        · go_wp2_with fail
          refine (flagword_fn b _).mono ?_
          rintro e w6 ⟨rfl, rfl⟩
          go_wp2
          go_roundg (5 - (j + 1))
          case measure => omega
          case rel => exact ⟨j + 1, { s with L := s.L.tail, flag := b, ok := true && b2 }, .slice A s.am.length cap, by omega, rfl, by go_num, PN, hrun2, hle2⟩
      · have h5 : Hid (run ((rowOf κ).drop (j + 1)) (step 5 s) = fin) := by
          have h := hrun.out
          rw [run, if_neg (by omega)] at h
          exact h
        clear hrun
        go_wp2_with fail
        refine (take_any _ bl bm s.L hP.out.tk).mono ?_
        rintro e w5 ⟨rfl, T5, O5⟩
        have P5 := Lib.hid (hP.out.taken O5 T5)
        have hw5 := Lib.hid hP.out.tk.word_le
        replace T5 := Lib.hid T5
        replace O5 := Lib.hid O5
        go_wp2_with fail
        go_loopg [14, 15] (s.L.length) (fun g wv iv wr2 => ∃ (M : List ByteArray) (s2 : St) (av2 : Value), g = M.length ∧ wv = .string (tkW M) ∧ iv = .bool (!M.isEmpty) ∧ Hid (PS w bl bm bo bk br κ s2 av2 wr2) ∧ Hid (s2.L = M.tail) ∧ Hid ((tkW M).size ≤ 1048576) ∧ Hid ({ s2 with L := [], am := s2.am ++ vals M, ok := s2.ok && oks M } = step 5 s) ∧ Hid (s2.am.length + M.length ≤ 1048577))
        case atStart => exact ⟨s.L, { s with L := s.L.tail }, .slice A s.am.length cap, rfl, rfl, rfl, P5, rfl, hw5, rfl, hle⟩
        case round =>
          obtain ⟨M, s2, av2, rfl, rfl, rfl, hP2, hL2, hsz, heq, hle2⟩ := hrel
          obtain ⟨wq2, hwq2⟩ : ∃ x, x = wr := ⟨_, rfl⟩
          subst hwq2
          obtain ⟨A2, cap2, rfl⟩ := own_shape hP2.out.own
          cases M with
          | nil =>
            have hs2 : s2 = step 5 s := by
              have h := heq.out
              have hl := hL2.out
              cases s2
              simp only [List.tail_nil] at hl
              subst hl
              rw [← h]
              simp [vals, oks]
            clear heq hL2 hsz
            have hP3 : Hid (PS w bl bm bo bk br κ (step 5 s) (.slice A2 s2.am.length cap2) wq2) := by rw [← hs2]; exact hP2
            have hle3 : Hid ((step 5 s).am.length + (step 5 s).L.length ≤ 1048577) := by
              have h := hle2.out
              rw [← hs2]
              have hl : s2.L = [] := by rw [hs2]; rfl
              rw [hl]
              exact h
            replace hs2 := Lib.hid hs2
            go_wp2
            go_roundg (5 - (j + 1))
            case measure => omega
            case rel => exact ⟨j + 1, step 5 s, _, by omega, rfl, by go_num, hP3, h5, hle3⟩
          | cons x M =>
            have hx : Hid (x.size ≤ 1048576) := hsz
            have hn := hle2.out
            rw [List.length_cons] at hn
            have c5 := hP2.out.box.ce5
            obtain ⟨V, hV⟩ : ∃ V, V = valO (numOf x) := ⟨_, rfl⟩
            replace hV := Lib.hid hV
            have hL3 : Hid (s2.L = M) := hL2
            have hL9 : Hid (s2.L.tail = M.tail) := by rw [hL3.out]; rfl
            have heq9 : Hid (({ s2 with L := [], am := (s2.am ++ [V]) ++ vals M, ok := ((s2.ok && true) && (numOf x).isSome) && oks M } : St) = step 5 s) := by
              rw [← heq.out, vals_one, oks_one, hV.out, List.append_assoc, Bool.and_true, Bool.and_assoc]
              rfl
            have hle9 : Hid ((s2.am ++ [V]).length + M.length ≤ 1048577) := by rw [List.length_append, List.length_singleton]; exact Nat.le_trans (by omega) hn
            have hb1 : (!(x :: M).isEmpty) = true := rfl
            rw [hb1]
            go_wp2_with fail
            go_region_law (first
              | (go_simp; go_at_call 41; refine (pnum_fn x true s2.ok bk _ (hv.out.keep (hP2.out.keep.trans (Keep.refl _).drew)) hx.out (hP2.out.okc.keep (Keep.refl _).drew)).mono ?_; rintro e w6 ⟨rfl, B6, O6⟩; have P6 := Lib.hid ((hP2.out.kept (Keep.refl _).drew).read O6 B6); rw [← hV.out]; have P7 := Lib.hid (P6.out.kept (Keep.one _ (.cells #[.int .i64 V] 2))); have c6 := P6.out.box.ce5; have c7 := P7.out.box.ce5; replace B6 := Lib.hid B6; replace O6 := Lib.hid O6)
              | (refine step_append_lies _ rfl (.tmp 97) (.tmp 102) 32 rfl w.heap.size 2 i0 (.int .i64 0) 1 8 Tryz.underlying32 hi0 hz0 hz1 hz2 rfl (by decide) (.slice A2 s2.am.length cap2) s2.am.length (ints s2.am) (by simp [Act.eval]) P7.out.own ⟨w6.heap.size, 0, none⟩ 1 1 [.int .i64 V] (by simp [Act.eval]) rfl (cell_one_new _ _ _) (by intro u hu; simp at hu; subst hu; rfl) (by omega) (by unfold maxLen; omega) (by omega) P7.out.keep.size _ rfl ?_; intro g cap3 w8 hown8 hgrow8 hat8 hlt8; have fr8 := (P7.out.grown_box hgrow8).fr5; have ce8 := (P7.out.grown_box hgrow8).ce5; have P8 := Lib.hid (P7.out.more hown8 hgrow8); replace hown8 := Lib.hid hown8; replace hgrow8 := Lib.hid hgrow8; replace hat8 := Lib.hid hat8; replace hlt8 := Lib.hid hlt8))
            all_goals
              go_wp2_with fail
              refine (take_any _ bl bm s2.L P8.out.tk).mono ?_
              rintro e w9 ⟨rfl, T9, O9⟩
              have P9 := Lib.hid (P8.out.taken O9 T9)
              have hsz9 : Hid ((tkW M).size ≤ 1048576) := by have h : (tkW s2.L).size ≤ 1048576 := P8.out.tk.word_le; rw [hL3.out] at h; exact h
              rw [hL3.out]
              replace T9 := Lib.hid T9
              replace O9 := Lib.hid O9
              clear fr8 ce8 c6 c7
              go_wp2
              go_roundg (M.length)
              case measure => simp
              case rel => exact ⟨M, _, _, rfl, rfl, rfl, P9, hL9, hsz9, heq9, hle9⟩
    · obtain rfl : j = 4 := by omega
      have hT := Lib.hid hP.out.tk
      go_wp2_with fail
      refine (take_any _ bl bm s.L hT.out).mono ?_
      rintro e w5 ⟨rfl, T5, O5⟩
      have P5 := Lib.hid (hP.out.taken O5 T5)
      have cb0 := P5.out.box.ce0
      have r0 := P5.out.res.fr0
      have r1 := P5.out.res.fr1
      have r2 := P5.out.res.fr2
      have r3 := P5.out.res.fr3
      have r4 := P5.out.res.fr4
      have r5 := P5.out.res.fr5
      have g0 := P5.out.res.ce0
      have g1 := P5.out.res.ce1
      have g2 := P5.out.res.ce2
      have g3 := P5.out.res.ce3
      have g4 := P5.out.res.ce4
      have g5 := P5.out.res.ce5
      have cb1 := P5.out.box.ce1
      have cb2 := P5.out.box.ce2
      have cb3 := P5.out.box.ce3
      have cb4 := P5.out.box.ce4
      have cb5 := P5.out.box.ce5
      replace T5 := Lib.hid T5
      replace O5 := Lib.hid O5
      have hsf : Hid (s = fin) := by
        have h := hrun.out
        first
          | exact h
          | (rw [run, if_pos rfl] at h; exact h)
      obtain ⟨mo, hmo⟩ : ∃ mo, mo = !s.L.isEmpty := ⟨_, rfl⟩
      rw [← hmo]
      obtain ⟨ok, hok⟩ : ∃ ok, ok = s.ok := ⟨_, rfl⟩
      have ck : w5.cell? ⟨bk, 0, none⟩ = some (.bool ok) := by rw [hok]; exact P5.out.okc.ce
      have hge := P5.out.ge.2.2.2.2
      cases mo
      · have hL : Hid (s.L = []) := by
          cases hl : s.L with
          | nil => rfl
          | cons a b => rw [hl] at hmo; cases hmo
        clear hmo
        cases ok
        · have hn : Hid (res = none) := hres2.out.trans (res_bad (by rw [← hsf.out]; exact hok.symm))
          replace hok := Lib.hid hok
          go_wp2
          (try rw [Exit.noGoto_ret])
          obtain ⟨wE, hwE⟩ : ∃ wE, wE = set6 w5 br (.int .i64 0) (.int .i64 0) (.int .i64 0) (.int .i64 0) (.bool false) (.slice none 0 0) := ⟨_, rfl⟩
          have E := P5.out.res.set6 (.int .i64 0) (.int .i64 0) (.int .i64 0) (.int .i64 0) (.bool false) (.slice none 0 0)
          have F := off_set6 w5 br (.int .i64 0) (.int .i64 0) (.int .i64 0) (.int .i64 0) (.bool false) (.slice none 0 0)
          rw [← hwE] at E F
          unfold Go.Proofs.YtnaeabfmgfipoaaGreatDoor.set6 at hwE
          rw [← hwE]
          have e0 := E.ce0
          have e1 := E.ce1
          have e2 := E.ce2
          have e3 := E.ce3
          have e4 := E.ce4
          have e5 := E.ce5
          have KE := F.keep P5.out.keep (by rintro i rfl; exact hge)
          refine bodyPost_ret (v := .tuple #[.agg #[.int .i64 0, .int .i64 0, .int .i64 0, .int .i64 0, .bool false, .slice none 0 0], .bool false]) (by simp [results, Tryz.results15, go_sem, e0, e1, e2, e3, e4, e5]) rfl (PRes.none hn.out KE)
        · by_cases h0 : κ = 0
          · have hn : Hid (res = none) := hres2.out.trans (by rw [h0]; exact res_kind)
            have hb : ((κ : Int) == 0) = true := by simp [h0]
            replace hok := Lib.hid hok
            replace h0 := Lib.hid h0
            go_wp2
            (try rw [Exit.noGoto_ret])
            obtain ⟨wE, hwE⟩ : ∃ wE, wE = set6 w5 br (.int .i64 0) (.int .i64 0) (.int .i64 0) (.int .i64 0) (.bool false) (.slice none 0 0) := ⟨_, rfl⟩
            have E := P5.out.res.set6 (.int .i64 0) (.int .i64 0) (.int .i64 0) (.int .i64 0) (.bool false) (.slice none 0 0)
            have F := off_set6 w5 br (.int .i64 0) (.int .i64 0) (.int .i64 0) (.int .i64 0) (.bool false) (.slice none 0 0)
            rw [← hwE] at E F
            unfold Go.Proofs.YtnaeabfmgfipoaaGreatDoor.set6 at hwE
            rw [← hwE]
            have e0 := E.ce0
            have e1 := E.ce1
            have e2 := E.ce2
            have e3 := E.ce3
            have e4 := E.ce4
            have e5 := E.ce5
            have KE := F.keep P5.out.keep (by rintro i rfl; exact hge)
            refine bodyPost_ret (v := .tuple #[.agg #[.int .i64 0, .int .i64 0, .int .i64 0, .int .i64 0, .bool false, .slice none 0 0], .bool false]) (by simp [results, Tryz.results15, go_sem, e0, e1, e2, e3, e4, e5]) rfl (PRes.none hn.out KE)
          · have hn : Hid (res = some ⟨κ, s.id, s.cls, s.n, s.flag, s.am⟩) := hres2.out.trans (by rw [← hsf.out]; exact res_yes hL.out hok.symm (by omega))
            have hb : ((κ : Int) == 0) = false := by simp [h0]
            replace hok := Lib.hid hok
            replace h0 := Lib.hid h0
            go_wp2
            (try rw [Exit.noGoto_ret])
            obtain ⟨wE, hwE⟩ : ∃ wE, wE = set6 w5 br (.int .i64 κ) (.int .i64 s.id) (.int .i64 s.cls) (.int .i64 s.n) (.bool s.flag) (.slice A s.am.length cap) := ⟨_, rfl⟩
            have E := P5.out.res.set6 (.int .i64 κ) (.int .i64 s.id) (.int .i64 s.cls) (.int .i64 s.n) (.bool s.flag) (.slice A s.am.length cap)
            have F := off_set6 w5 br (.int .i64 κ) (.int .i64 s.id) (.int .i64 s.cls) (.int .i64 s.n) (.bool s.flag) (.slice A s.am.length cap)
            rw [← hwE] at E F
            unfold Go.Proofs.YtnaeabfmgfipoaaGreatDoor.set6 at hwE
            rw [← hwE]
            have e0 := E.ce0
            have e1 := E.ce1
            have e2 := E.ce2
            have e3 := E.ce3
            have e4 := E.ce4
            have e5 := E.ce5
            have KE := F.keep P5.out.keep (by rintro i rfl; exact hge)
            refine bodyPost_ret (v := .tuple #[.agg #[.int .i64 κ, .int .i64 s.id, .int .i64 s.cls, .int .i64 s.n, .bool s.flag, .slice A s.am.length cap], .bool true]) (by simp [results, Tryz.results15, go_sem, e0, e1, e2, e3, e4, e5]) rfl (PRes.some hn.out KE (F.own P5.out.own (fun k hk e => P5.out.notl k hk (Or.inr (Or.inr (Or.inr (Or.inr e)))))))
      · have hL : Hid (s.L ≠ []) := by
          intro hl
          rw [hl] at hmo; cases hmo
        clear hmo
        have hn : Hid (res = none) := hres2.out.trans (res_more (by rw [← hsf.out]; exact hL.out))
        replace hok := Lib.hid hok
        go_wp2
        (try rw [Exit.noGoto_ret])
        obtain ⟨wE, hwE⟩ : ∃ wE, wE = set6 w5 br (.int .i64 0) (.int .i64 0) (.int .i64 0) (.int .i64 0) (.bool false) (.slice none 0 0) := ⟨_, rfl⟩
        have E := P5.out.res.set6 (.int .i64 0) (.int .i64 0) (.int .i64 0) (.int .i64 0) (.bool false) (.slice none 0 0)
        have F := off_set6 w5 br (.int .i64 0) (.int .i64 0) (.int .i64 0) (.int .i64 0) (.bool false) (.slice none 0 0)
        rw [← hwE] at E F
        unfold Go.Proofs.YtnaeabfmgfipoaaGreatDoor.set6 at hwE
        rw [← hwE]
        have e0 := E.ce0
        have e1 := E.ce1
        have e2 := E.ce2
        have e3 := E.ce3
        have e4 := E.ce4
        have e5 := E.ce5
        have KE := F.keep P5.out.keep (by rintro i rfl; exact hge)
        refine bodyPost_ret (v := .tuple #[.agg #[.int .i64 0, .int .i64 0, .int .i64 0, .int .i64 0, .bool false, .slice none 0 0], .bool false]) (by simp [results, Tryz.results15, go_sem, e0, e1, e2, e3, e4, e5]) rfl (PRes.none hn.out KE)
end Go.Proofs.YtnaeabfmgfipoaaGreatDoor
namespace Go.Proofs.YtnaeabfmgfipoaaGreatDoor
open Go.RowKit

def skipL (l : ByteArray) : Bool := decide (l.size = 0 ∨ byteAt l 0 = 35)
/-- The operations of lines, or the index of the first wrong one, counted from n. -/
def readFrom (n : Nat) : List ByteArray → List OpD ⊕ Nat
  | [] => .inl []
  | l :: r => if skipL l then readFrom (n + 1) r else match parseOf (wordsOf l) with
    | none => .inr n
    | some o => match readFrom (n + 1) r with
      | .inl os => .inl (o :: os)
      | .inr m => .inr m
def shiftR (k : Nat) : List OpD ⊕ Nat → List OpD ⊕ Nat
  | .inl os => .inl os
  | .inr m => .inr (m + k)
/-- What a text says. -/
def readOf (s : ByteArray) : List OpD ⊕ Nat := readFrom 0 (splitC 10 s)
theorem readFrom_shift (k : Nat) : ∀ (L : List ByteArray) (n : Nat), readFrom (n + k) L = shiftR k (readFrom n L)
  | [], n => rfl
  | l :: r, n => by
    have h := readFrom_shift k r (n + 1)
    rw [show n + 1 + k = n + k + 1 by omega] at h
    unfold readFrom
    rw [h]
    cases hs : skipL l
    · simp only [Bool.false_eq_true, if_false]
      cases parseOf (wordsOf l) with
      | none => rfl
      | some o =>
        cases readFrom (n + 1) r with
        | inl os => rfl
        | inr m => rfl
    · simp only [if_true]
theorem readFrom_skip : ∀ (P L : List ByteArray) (n : Nat), (∀ l ∈ P, skipL l = true) → readFrom n (P ++ L) = readFrom (n + P.length) L
  | [], L, n, _ => rfl
  | p :: P, L, n, h => by
    rw [List.cons_append, readFrom, if_pos (h p (List.mem_cons_self ..)), readFrom_skip P L (n + 1) (fun l hl => h l (List.mem_cons_of_mem _ hl)), List.length_cons]
    congr 1
    omega
/-- Lines that all are right, and an empty one behind them. -/
theorem readFrom_right : ∀ (R : List (ByteArray × OpD)) (n : Nat), (∀ p ∈ R, skipL p.1 = false ∧ parseOf (wordsOf p.1) = some p.2) → readFrom n (R.map (·.1) ++ [⟨#[]⟩]) = .inl (R.map (·.2))
  | [], n, _ => rfl
  | p :: R, n, h => by
    obtain ⟨h1, h2⟩ := h p (List.mem_cons_self ..)
    have ih := readFrom_right R (n + 1) (fun q hq => h q (List.mem_cons_of_mem _ hq))
    rw [List.map_cons, List.cons_append, readFrom, if_neg (by rw [h1]; exact Bool.noConfusion), h2, ih]
    rfl
/-- A text of whole lines, each with its line feed. -/
def glue : List ByteArray → ByteArray
  | [] => ⟨#[]⟩
  | l :: r => (l ++ ⟨#[10]⟩) ++ glue r
theorem split_glue : ∀ (L : List ByteArray), (∀ l ∈ L, ∀ j, j < l.size → byteAt l j ≠ 10) → ∀ y : ByteArray, splitC 10 (glue L ++ y) = L ++ splitC 10 y
  | [], _, y => by
    have e : (⟨#[]⟩ : ByteArray) ++ y = y := by apply ByteArray.ext; simp [ByteArray.data_append]
    show splitC 10 ((⟨#[]⟩ : ByteArray) ++ y) = _
    rw [e]
    rfl
  | l :: r, h, y => by
    show splitC 10 (((l ++ ⟨#[10]⟩) ++ glue r) ++ y) = _
    rw [ByteArray.append_assoc]
    have hj := split_join 10 l (glue r ++ y)
    have e10 : (((10 : UInt8).toNat : Nat) : Int) = 10 := rfl
    rw [e10] at hj
    rw [hj, split_none (h l (List.mem_cons_self ..)), split_glue r (fun q hq => h q (List.mem_cons_of_mem _ hq)) y]
    rfl
end Go.Proofs.YtnaeabfmgfipoaaGreatDoor
