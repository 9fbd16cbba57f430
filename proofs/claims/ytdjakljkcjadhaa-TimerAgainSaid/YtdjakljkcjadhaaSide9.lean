/-
  The timers and the reference's list side by side. No condition, no walk.
-/
import Derived.Test.YtdjakljkcjadhaaLMath9
namespace Go.Proofs.Ytdjakljkcjadhaa.T9
open Go.RowKit Go.Sort Go.Lib

/-- The list of timers and the reference's list hold the same. -/
structure Side (TI : World → Nat → Nat → (Nat → Prop) → List TmV → Prop) (w : World) (b bq : Nat) (D : Nat → Prop) (B : Option Addr) (d : Nat) (L : List TmV) : Prop where
  t : TI w b bq D L
  rd : RdT w B L.length (row L)
  pl : Pl B L.length d
  cap : L.length ≤ d
  off : Off D B L.length
section
variable {TI : World → Nat → Nat → (Nat → Prop) → List TmV → Prop} {w w' w4 w5 : World} {b bq : Nat} {D D' : Nat → Prop} {B B' : Option Addr} {d d' : Nat} {L : List TmV} {x : TmV}
theorem Side.keep (C : Con TI) (h : Side TI w b bq D B d L) (k : Keep w w') : Side TI w' b bq D B d L := ⟨C.keep h.t k, h.rd.keep k, h.pl, h.cap, h.off⟩
theorem side_new (h : TI w b bq D []) : Side TI w b bq D none 0 [] := ⟨h, RdT.nil _ _ _, Or.inl ⟨rfl, rfl, rfl⟩, Nat.le_refl _, Off.nil _ _⟩
theorem Side.rset (C : Con TI) (h : Side TI w b bq D B d L) (hx : TmOk x) (hl : L.length ≤ 1000) :
    Calls Try.prog 17 #[.slice B L.length d, x.val] w fun e w' => ∃ B' d', e = .returned (.slice B' (setL L x).length d') ∧ RList w w' B L.length B' d' (setL L x) := by
  have := rset_fn B L.length d (row L) x w h.rd h.pl h.cap hl hx (by rw [lst_row]; exact C.srt h.t)
  rwa [lst_row] at this
theorem Side.set (C : Con TI) (h : Side TI w b bq D B d L) (r : RList w w4 B L.length B' d' (setL L x)) (t : TI w5 b bq D' (setL L x)) (f : Fr D w4 w5) (N : ∀ k, D' k → D k ∨ w4.heap.size ≤ k) : Side TI w5 b bq D' B' d' (setL L x) := by
  have o := r.off D h.off (fun i hi => (C.lo h.t i hi).2)
  exact ⟨t, r.rd.fr f o, r.pl, r.cap, o.more r.rd (Nat.le_refl _) N⟩
theorem Side.find (h : Side TI w b bq D B d L) (id : Int) : Calls Try.prog 19 #[.slice B L.length d, .int .i64 id] w fun e w' => e = .returned (.int .i64 (findN (row L) id L.length)) ∧ w = w' := rfind_fn B L.length d (row L) id w h.rd
theorem find_row (L : List TmV) (id : Int) : 0 ≤ findN (row L) id L.length ↔ id ∈ keys L := by rw [find_iff, lst_row]
/-- All and the reference's list are the same. -/
theorem Side.same2 (C : Con TI) (h : Side TI w b bq D B d L) (k0 : Keep w w') {A : Option Addr} {c : Nat} (R : w'.ownsRow w.heap.size 33 3 (.slice A L.length c) L.length (tmCs (row L) L.length)) (hl : L.length ≤ 1000) :
    Calls Try.prog 12 #[.slice A L.length c, .slice B L.length d] w' fun e w9 => e = .returned (.bool true) ∧ Keep w' w9 :=
  same_fn A B L.length c d (row L) (row L) w' (rows_rd R (by omega) (fun j hj => C.ok h.t _ (row_mem hj))) (h.rd.keep k0) (fun _ _ => rfl)
end
end Go.Proofs.Ytdjakljkcjadhaa.T9
