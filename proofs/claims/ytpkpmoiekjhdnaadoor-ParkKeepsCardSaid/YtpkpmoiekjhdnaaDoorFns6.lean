/-
  Compare, Before, Least; pods of a slice. No condition.
-/
import Derived.Test.YtpkpmoiekjhdnaaDoorCmp6
import Derived.Laws.EntriesVeiled
namespace Go.Proofs.YtpkpmoiekjhdnaaDoor
open Go.RowKit Go.Sort Go.Lib Go.Shelf

/-- The pods of a slice. -/
structure RdPods (w : World) (A : Option Addr) (n : Nat) (P : Nat → PodV) : Prop where
  small : n ≤ 9223372036854775807
  adr : 0 < n → ∃ b off, A = some ⟨b, off, none⟩ ∧ ∀ j, j < n → Cel9 w b (off + j * 9) (P j)
  is : ∀ j, j < n → PodIs w (P j)
theorem RdPods.keep {w w' : World} {A : Option Addr} {n : Nat} {P : Nat → PodV} (h : RdPods w A n P) (k : Keep w w') : RdPods w' A n P :=
  ⟨h.small, fun hn => by obtain ⟨b, off, e, hc⟩ := h.adr hn; exact ⟨b, off, e, fun j hj => (hc j hj).keep k⟩, fun j hj => (h.is j hj).keep k⟩
theorem RdPods.nil (w : World) (A : Option Addr) (P : Nat → PodV) : RdPods w A 0 P := ⟨by omega, fun h => absurd h (Nat.lt_irrefl _), fun _ h => absurd h (Nat.not_lt_zero _)⟩
theorem RdPods.congr {w : World} {A : Option Addr} {n : Nat} {P Q : Nat → PodV} (h : RdPods w A n P) (e : ∀ j, j < n → P j = Q j) : RdPods w A n Q :=
  ⟨h.small, fun hn => by obtain ⟨b, off, ea, hc⟩ := h.adr hn; exact ⟨b, off, ea, fun j hj => by rw [← e j hj]; exact hc j hj⟩, fun j hj => by rw [← e j hj]; exact h.is j hj⟩
theorem pods_at (b off n cp j : Nat) (hj : j < n) (W : World) : (Instr.indexAt 27 (.slice (some ⟨b, off, none⟩) n cp) (.int .i64 j)).run Tryd.prog W = .ok (.pointer (some ⟨b, off + j * 9, none⟩)) W := by
  go_simp

set_option maxHeartbeats 2000000 in
theorem order_fn (w : World) : Calls Tryd.prog 35 #[] w fun e w' => ∃ b1 b2 b3, e = .returned (cmpV b1 b2 b3) ∧ Keys w' b1 b2 b3 ∧ Gr w w' ∧ w.heap.size ≤ b1 ∧ w.heap.size ≤ b2 ∧ w.heap.size ≤ b3 := by
  unfold cmpV keysV
  have hmf : ∀ (fn : Fn) (first cap : Array Value) (w : World), (Instr.makeFunc fn first cap).run Tryd.prog w = .ok (.func fn first cap) w := fun _ _ _ _ => rfl
  go_enter Tryd.func35, Tryd.ntmps35
  go_wp2
  refine bodyPost_ret (v := .func (.func 42) #[] #[.pointer (some ⟨w.heap.size, 0, none⟩), .pointer (some ⟨w.heap.size + 1, 0, none⟩), .pointer (some ⟨w.heap.size + 2, 0, none⟩)]) (by simp [results, Tryd.results35, go_sem]) rfl ?_
  refine ⟨_, _, _, rfl, ⟨?_, ?_, ?_⟩, ?_, Nat.le_refl _, by omega, by omega⟩
  rotate_left 3
  · repeat (with_reducible first | exact Gr.refl w | apply Gr.alloc | apply Gr.drew)
  all_goals simp (maxDischargeDepth := 12) [go_sem]

def befP (x y : PodV) : Bool := decide (cmpP x y < 0)
/-- The first of the least. -/
def leastI (P : Nat → PodV) : Nat → Nat
  | 0 => 0
  | n + 1 => if cmpP (P n) (P (leastI P n)) < 0 then n else leastI P n
theorem leastI_lt (P : Nat → PodV) : ∀ n, 0 < n → leastI P n < n
  | 0, h => absurd h (Nat.lt_irrefl _)
  | n + 1, _ => by
    unfold leastI
    split
    · omega
    · cases n with
      | zero => exact Nat.one_pos
      | succ n => have := leastI_lt P (n + 1) (by omega); omega
theorem leastI_le (P : Nat → PodV) (n : Nat) : leastI P n ≤ n := by
  rcases Nat.eq_zero_or_pos n with rfl | h
  · exact Nat.le_refl _
  · exact Nat.le_of_lt (leastI_lt P n h)

end Go.Proofs.YtpkpmoiekjhdnaaDoor
