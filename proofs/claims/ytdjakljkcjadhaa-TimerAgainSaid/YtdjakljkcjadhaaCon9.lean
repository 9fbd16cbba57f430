/-
  What the laws ask of the timers' functions. No condition, no walk.
-/
import Derived.Test.YtdjakljkcjadhaaRWo9
namespace Go.Proofs.Ytdjakljkcjadhaa.T9
open Go.RowKit Go.Sort Go.Lib

/-- TI w b bq D L: the list at block bq holds the timers L (sorted, with different numbers); it lies in the blocks D, all of them from b on. -/
structure Con (TI : World → Nat → Nat → (Nat → Prop) → List TmV → Prop) : Prop where
  keep : ∀ {w w' b bq D L}, TI w b bq D L → Keep w w' → TI w' b bq D L
  fr : ∀ {w w' b bq D E L}, TI w b bq D L → Fr E w w' → (∀ k, D k → ¬ E k) → TI w' b bq D L
  base : ∀ {w b b' bq D L}, TI w b bq D L → b' ≤ b → TI w b' bq D L
  lo : ∀ {w b bq D L}, TI w b bq D L → ∀ k, D k → b ≤ k ∧ k < w.heap.size
  srt : ∀ {w b bq D L}, TI w b bq D L → Srt L
  keys : ∀ {w b bq D L}, TI w b bq D L → (keys L).Nodup
  ok : ∀ {w b bq D L}, TI w b bq D L → ∀ x ∈ L, TmOk x
  new : ∀ w, Calls Try.prog 8 #[] w fun e w' => ∃ bq, e = .returned (.pointer (some ⟨bq, 0, none⟩)) ∧ Keep w w' ∧ ∃ D, TI w' w.heap.size bq D []
  set : ∀ {w b bq D L} {x : TmV}, TI w b bq D L → TmOk x → L.length < 1000 →
    Calls Try.prog 15 #[.pointer (some ⟨bq, 0, none⟩), x.val] w fun e w' => e = .returned (.bool (decide (x.k ∉ T9.keys L))) ∧ ∃ D', TI w' b bq D' (setL L x) ∧ Fr D w w' ∧ ∀ k, D' k → D k ∨ w.heap.size ≤ k
  cancel : ∀ {w b bq D L} (id : Int), TI w b bq D L → I64 id →
    Calls Try.prog 18 #[.pointer (some ⟨bq, 0, none⟩), .int .i64 id] w fun e w' => e = .returned (.tuple #[(getL L id).val, .bool (decide (id ∈ T9.keys L))]) ∧ ∃ D', TI w' b bq D' (woL L id) ∧ Fr D w w' ∧ ∀ k, D' k → D k ∨ w.heap.size ≤ k
  due : ∀ {w b bq D L} (now : Int), TI w b bq D L → I64 now →
    Calls Try.prog 16 #[.pointer (some ⟨bq, 0, none⟩), .int .i64 now] w fun e w' => ∃ B d, e = .returned (.slice B (dueN now L) d) ∧ w'.ownsRow w.heap.size 33 3 (.slice B (dueN now L) d) (dueN now L) (tmCs (row L) (dueN now L)) ∧ ∃ D', TI w' b bq D' (L.drop (dueN now L)) ∧ Fr D w w' ∧ (∀ k, D' k → D k ∨ w.heap.size ≤ k) ∧ Off D' B (dueN now L)
  next : ∀ {w b bq D L}, TI w b bq D L → Calls Try.prog 11 #[.pointer (some ⟨bq, 0, none⟩)] w fun e w' => e = .returned (.tuple #[(row L 0).val, .bool (decide (L ≠ []))]) ∧ Keep w w'
  len : ∀ {w b bq D L}, TI w b bq D L → Calls Try.prog 14 #[.pointer (some ⟨bq, 0, none⟩)] w fun e w' => e = .returned (.int .i64 L.length) ∧ w = w'
  all : ∀ {w b bq D L}, TI w b bq D L → Calls Try.prog 13 #[.pointer (some ⟨bq, 0, none⟩)] w fun e w' => ∃ B d, e = .returned (.slice B L.length d) ∧ Keep w w' ∧ w'.ownsRow w.heap.size 33 3 (.slice B L.length d) L.length (tmCs (row L) L.length)
  setNil : ∀ (w : World) (x : TmV), Calls Try.prog 15 #[.pointer none, x.val] w fun e w' => e = .returned (.bool false) ∧ Keep w w'
  dueNil : ∀ (w : World) (now : Int), Calls Try.prog 16 #[.pointer none, .int .i64 now] w fun e w' => (∃ B d, e = .returned (.slice B 0 d)) ∧ Keep w w'
section
variable {TI : World → Nat → Nat → (Nat → Prop) → List TmV → Prop} {w : World} {b bq : Nat} {D : Nat → Prop} {L : List TmV}
theorem Con.set_to (C : Con TI) (h : TI w b bq D L) (k t a : Int) (hx : TmOk ⟨k, t, a⟩) (hl : L.length < 1000) {M : List TmV} (hM : setL L ⟨k, t, a⟩ = M) {s : Bool} (hs : decide (k ∉ T9.keys L) = s) :
    Calls Try.prog 15 #[.pointer (some ⟨bq, 0, none⟩), .agg #[.int .i64 k, .int .i64 t, .int .i64 a]] w fun e w' => e = .returned (.bool s) ∧ ∃ D', TI w' b bq D' M ∧ Fr D w w' ∧ ∀ k, D' k → D k ∨ w.heap.size ≤ k := by
  subst hM
  subst hs
  exact C.set h hx hl
theorem Con.cancel_to (C : Con TI) (h : TI w b bq D L) (id : Int) (hi : I64 id) (k t a : Int) (hx : getL L id = ⟨k, t, a⟩) {M : List TmV} (hM : woL L id = M) {s : Bool} (hs : decide (id ∈ T9.keys L) = s) :
    Calls Try.prog 18 #[.pointer (some ⟨bq, 0, none⟩), .int .i64 id] w fun e w' => e = .returned (.tuple #[.agg #[.int .i64 k, .int .i64 t, .int .i64 a], .bool s]) ∧ ∃ D', TI w' b bq D' M ∧ Fr D w w' ∧ ∀ k, D' k → D k ∨ w.heap.size ≤ k := by
  subst hM
  subst hs
  have := C.cancel id h hi
  rw [hx] at this
  exact this
theorem Con.next_to (C : Con TI) (h : TI w b bq D L) (k t a : Int) (hx : row L 0 = ⟨k, t, a⟩) {s : Bool} (hs : decide (L ≠ []) = s) :
    Calls Try.prog 11 #[.pointer (some ⟨bq, 0, none⟩)] w fun e w' => e = .returned (.tuple #[.agg #[.int .i64 k, .int .i64 t, .int .i64 a], .bool s]) ∧ Keep w w' := by
  subst hs
  have := C.next h
  rw [hx] at this
  exact this
theorem Con.due_to (C : Con TI) (h : TI w b bq D L) (now : Int) (hi : I64 now) {m : Nat} (hm : dueN now L = m) {M : List TmV} (hM : L.drop m = M) :
    Calls Try.prog 16 #[.pointer (some ⟨bq, 0, none⟩), .int .i64 now] w fun e w' => ∃ B d, e = .returned (.slice B m d) ∧ w'.ownsRow w.heap.size 33 3 (.slice B m d) m (tmCs (row L) m) ∧ ∃ D', TI w' b bq D' M ∧ Fr D w w' ∧ (∀ k, D' k → D k ∨ w.heap.size ≤ k) ∧ Off D' B m := by
  subst hm
  subst hM
  exact C.due now h hi
end
theorem i64_small {x : Int} (h : -1000 ≤ x) (k : x ≤ 1000) : I64 x := by unfold I64; omega
theorem tm_small (k t a : Int) (h : -1000 ≤ k ∧ k ≤ 1000 ∧ -1000 ≤ t ∧ t ≤ 1000 ∧ -1000 ≤ a ∧ a ≤ 1000) : TmOk ⟨k, t, a⟩ := ⟨i64_small h.1 h.2.1, i64_small h.2.2.1 h.2.2.2.1, i64_small h.2.2.2.2.1 h.2.2.2.2.2⟩
end Go.Proofs.Ytdjakljkcjadhaa.T9
