/-
  What the laws ask of the pods' functions; the reference's list beside them. No condition, no walk.
-/
import Derived.Test.YtfidlljhmebpmaaDoorList13
import Derived.Test.YtfidlljhmebpmaaDoorFuncs
namespace Go.Proofs.YtfidlljhmebpmaaDoor.T13
open Go.RowKit Go.Sort Go.Lib V12

/-- The fault of a code; none at 0. -/
def flt (c n : Int) : Value := (Base.fault c n).val
def fltC (c : Int) : Value := if c = 0 then .nilIface else flt c 0
theorem flt_val (c n : Int) : flt c n = .iface 88 (.agg #[.int .i64 c, .int .i64 n]) := rfl
abbrev Pred := World → Int → Nat → List PodV → (Nat → Prop) → World → Prop
/-- The block of a pod's request. -/
def rb (r : PodV) (i : Nat) : Prop := 0 < r.m ∧ ∃ o, r.A = some ⟨i, o, none⟩
/-- OS w s q L X w1: at w1 the store at q, made behind w, of the size s, holds the pods L; X are blocks of others. -/
structure Con (OS : Pred) : Prop where
  kp : ∀ {w s q L X w1}, OS w s q L X w1 → Keep w w1
  keep : ∀ {w s q L X w1 w2}, OS w s q L X w1 → Keep w1 w2 → OS w s q L X w2
  more : ∀ {w s q L X w1 w2} {Z : Nat → Prop}, OS w s q L X w1 → Keep w1 w2 → (∀ i, Z i → w1.heap.size ≤ i ∧ i < w2.heap.size) → OS w s q L (fun i => X i ∨ Z i) w2
  less : ∀ {w s q L X w1} {Z : Nat → Prop}, OS w s q L X w1 → (∀ i, Z i → X i) → OS w s q L Z w1
  write : ∀ {w s q L X w1 w2}, OS w s q L X w1 → Keep w w2 → w1.heap.size ≤ w2.heap.size → (∀ k, k < w1.heap.size → ¬ X k → w2.heap[k]? = w1.heap[k]?) → OS w s q L X w2
  grow : ∀ {w s q L X w1 w2} {Z : Nat → Prop}, OS w s q L X w1 → Keep w w2 → w1.heap.size ≤ w2.heap.size → (∀ k, k < w1.heap.size → ¬ X k → w2.heap[k]? = w1.heap[k]?) → (∀ i, Z i → w1.heap.size ≤ i ∧ i < w2.heap.size) → OS w s q L (fun i => X i ∨ Z i) w2
  lt : ∀ {w s q L X w1}, OS w s q L X w1 → ∀ i, X i → i < w1.heap.size
  ok : ∀ {w s q L X w1}, OS w s q L X w1 → LOk L
  new : ∀ (s : Int) (w w0 : World), Keep w w0 → I64 s → Calls Tryd.prog 8 #[.int .i64 s] w0 fun e w' => ∃ q, e = .returned (.pointer (some ⟨q, 0, none⟩)) ∧ OS w s q [] (fun _ => False) w' ∧ Keep w0 w'
  submit : ∀ {w s q L X w1} (x : PodV), OS w s q L X w1 → ErrT w1 → PodIs w1 x → x.m ≤ 1000 → L.length ≤ 1000 →
    Calls Tryd.prog 23 #[.pointer (some ⟨q, 0, none⟩), x.val] w1 fun e w' => ∃ r, e = .returned (.tuple #[r.val, fltC (subC L s x)]) ∧ (subC L s x = 0 → nm r = subP x L.length) ∧ (subC L s x ≠ 0 → nm r = zpod) ∧ PodIs w' r ∧ Req w' w1.heap.size r ∧ OS w s q (subL L s x) (fun i => X i ∨ rb r i) w' ∧ ∀ i, X i → w'.heap[i]? = w1.heap[i]?
  apply : ∀ {w s q L X w1} (id e nd dl : Int), OS w s q L X w1 → ErrT w1 → I64 id → I64 e → I64 nd → I64 dl → (∀ y ∈ L, y.m ≤ 1000) → L.length ≤ 1000 →
    Calls Tryd.prog 24 #[.pointer (some ⟨q, 0, none⟩), .int .i64 id, .int .i64 e, .int .i64 nd, .int .i64 dl] w1 fun e' w' => ∃ r, e' = .returned (.tuple #[r.val, fltC (appC L id e)]) ∧ (appC L id e = 0 → nm r = appP (getL L id) e nd dl) ∧ (appC L id e ≠ 0 → nm r = zpod) ∧ PodIs w' r ∧ Req w' w1.heap.size r ∧ OS w s q (appL L id e nd dl) (fun i => X i ∨ rb r i) w' ∧ ∀ i, X i → w'.heap[i]? = w1.heap[i]?
  get : ∀ {w s q L X w1} (id : Int), OS w s q L X w1 → I64 id → (∀ y ∈ L, y.m ≤ 1000) →
    Calls Tryd.prog 15 #[.pointer (some ⟨q, 0, none⟩), .int .i64 id] w1 fun e w' => ∃ r, e = .returned (.tuple #[r.val, .bool (decide (id ∈ keys L))]) ∧ nm r = getL L id ∧ PodIs w' r ∧ Req w' w1.heap.size r ∧ Keep w1 w'
  all : ∀ {w s q L X w1}, OS w s q L X w1 → (∀ y ∈ L, y.m ≤ 1000) → L.length ≤ 1000 →
    Calls Tryd.prog 13 #[.pointer (some ⟨q, 0, none⟩)] w1 fun e w' => ∃ v S, e = .returned v ∧ RowP w' w1.heap.size v L.length S ∧ (lst S L.length).map nm = L ∧ Keep w1 w'
  on : ∀ {w s q L X w1} (nd : Int), OS w s q L X w1 → (∀ y ∈ L, y.m ≤ 1000) → L.length ≤ 1000 →
    Calls Tryd.prog 18 #[.pointer (some ⟨q, 0, none⟩), .int .i64 nd] w1 fun e w' => ∃ v S, e = .returned v ∧ RowP w' w1.heap.size v (L.filter (onB nd)).length S ∧ (lst S (L.filter (onB nd)).length).map nm = L.filter (onB nd) ∧ Keep w1 w'
  withP : ∀ {w s q L X w1} (p : Int), OS w s q L X w1 → (∀ y ∈ L, y.m ≤ 1000) → L.length ≤ 1000 →
    Calls Tryd.prog 20 #[.pointer (some ⟨q, 0, none⟩), .int .i64 p] w1 fun e w' => ∃ v S, e = .returned v ∧ RowP w' w1.heap.size v (L.filter (withB p)).length S ∧ (lst S (L.filter (withB p)).length).map nm = L.filter (withB p) ∧ Keep w1 w'
  count : ∀ {w s q L X w1} (p : Int), OS w s q L X w1 → (∀ y ∈ L, y.m ≤ 1000) → L.length ≤ 1000 →
    Calls Tryd.prog 22 #[.pointer (some ⟨q, 0, none⟩), .int .i64 p] w1 fun e w' => e = .returned (.int .i64 (L.filter (withB p)).length) ∧ Keep w1 w'
  len : ∀ {w s q L X w1}, OS w s q L X w1 → L.length ≤ 1000 → Calls Tryd.prog 14 #[.pointer (some ⟨q, 0, none⟩)] w1 fun e w' => e = .returned (.int .i64 L.length) ∧ Keep w1 w'
  submitNil : ∀ (x : PodV) (w : World), ErrT w → PodIs w x → Calls Tryd.prog 23 #[.pointer none, x.val] w fun e w' => ∃ r : PodV, e = .returned (.tuple #[r.val, flt 5 0]) ∧ nm r = zpod ∧ Keep w w'
  allNil : ∀ (w : World), Calls Tryd.prog 13 #[.pointer none] w fun e w' => ∃ A c, e = .returned (.slice A 0 c) ∧ Keep w w'
/-- Others' blocks are as they were. -/
def SameX (X : Nat → Prop) (w1 w2 : World) : Prop := ∀ i, X i → w2.heap[i]? = w1.heap[i]?
/-- The reference's list at w1: its row lies in a block of X, its requests lie below. -/
structure RL (w : World) (X : Nat → Prop) (w1 : World) (B : Option Addr) (c n : Nat) (P : Nat → PodV) : Prop where
  rd : RdPods w1 B n P
  cap : n ≤ c
  pl : (B = none ∧ n = 0 ∧ c = 0) ∨ ∃ g, B = some ⟨g, 0, none⟩ ∧ X g
  is : ∀ j, j < n → PodIs w (P j)
theorem RL.nil (w : World) (X : Nat → Prop) (w1 : World) : RL w X w1 none 0 0 (fun _ => zpod) := ⟨RdPods.nil _ _ _, Nat.le_refl _, Or.inl ⟨rfl, rfl, rfl⟩, fun _ h => absurd h (Nat.not_lt_zero _)⟩
theorem RL.keep {w : World} {X : Nat → Prop} {w1 w2 : World} {B : Option Addr} {c n : Nat} {P : Nat → PodV} (h : RL w X w1 B c n P) (k : Keep w1 w2) : RL w X w2 B c n P := ⟨h.rd.keep k, h.cap, h.pl, h.is⟩
theorem RL.less {w : World} {X Z : Nat → Prop} {w1 : World} {B : Option Addr} {c n : Nat} {P : Nat → PodV} (h : RL w X w1 B c n P) (hZ : ∀ i, X i → Z i) : RL w Z w1 B c n P := ⟨h.rd, h.cap, h.pl.imp id fun ⟨g, e, hg⟩ => ⟨g, e, hZ g hg⟩, h.is⟩
theorem cell_same {w1 w2 : World} {a : Addr} {v : Value} (h : w1.cell? a = some v) (e : w2.heap[a.block]? = w1.heap[a.block]?) : w2.cell? a = some v := by
  rw [World.cell?_of_block (w := w1) e]; exact h
theorem Cel9.same {w1 w2 : World} {b o : Nat} {x : PodV} (h : Cel9 w1 b o x) (e : w2.heap[b]? = w1.heap[b]?) : Cel9 w2 b o x :=
  ⟨cell_same h.e0 e, cell_same h.e1 e, cell_same h.e2 e, cell_same h.e3 e, cell_same h.e4 e, cell_same h.e5 e, cell_same h.e6 e, cell_same h.e7 e, cell_same h.e8 e⟩
theorem RL.same {w : World} {X : Nat → Prop} {w1 w2 : World} {B : Option Addr} {c n : Nat} {P : Nat → PodV} (h : RL w X w1 B c n P) (k : Keep w w2) (f : SameX X w1 w2) : RL w X w2 B c n P := by
  refine ⟨⟨h.rd.small, fun hn => ?_, fun j hj => (h.is j hj).keep k⟩, h.cap, h.pl, h.is⟩
  obtain ⟨b, off, e, hc⟩ := h.rd.adr hn
  rcases h.pl with ⟨_, h0, _⟩ | ⟨g, eg, hg⟩
  · omega
  · have e2 := Option.some.inj (eg.symm.trans e)
    simp only [Addr.mk.injEq, and_true] at e2
    refine ⟨b, off, e, fun j hj => (hc j hj).same ?_⟩
    rw [← e2.1]
    exact f g hg
end Go.Proofs.YtfidlljhmebpmaaDoor.T13
