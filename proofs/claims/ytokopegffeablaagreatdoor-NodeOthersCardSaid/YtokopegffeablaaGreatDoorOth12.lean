/-
  What NodeOthers needs beside: another node behind a change; a list of the reference's behind the store's functions. No condition.
-/
import Derived.Test.YtokopegffeablaaGreatDoorBoundsLaw12
namespace Go.Proofs.YtokopegffeablaaGreatDoor.T12
open Go.RowKit Go.Sort Go.Lib V12

theorem find_rep {x : NodeV} {id : Int} (h : id ≠ x.k) : ∀ L : List NodeV, (G.rep NodeV.k L x).find? (fun y => decide (y.k = id)) = L.find? fun y => decide (y.k = id)
  | [] => rfl
  | y :: L => by
    have ih := find_rep h L
    unfold G.rep at ih ⊢
    rw [List.map_cons]
    by_cases e : y.k = x.k
    · rw [if_pos e, List.find?_cons_of_neg (by simpa using fun e => h e.symm), List.find?_cons_of_neg (by simpa using fun e2 => h (by rw [← e, e2])), ih]
    · rw [if_neg e]
      by_cases e2 : y.k = id
      · rw [List.find?_cons_of_pos (by simpa using e2), List.find?_cons_of_pos (by simpa using e2)]
      · rw [List.find?_cons_of_neg (by simpa using e2), List.find?_cons_of_neg (by simpa using e2), ih]
theorem chL_other {L : List NodeV} {d : Nat} {id : Int} {n : Nat} {Z : Nat → Int} {r : Bool} {i : Int} (h : i ≠ id) : nget (chL L d id n Z r) i = nget L i := by
  unfold chL
  split
  · unfold nget G.get
    rw [find_rep (by exact h)]
  · rfl
theorem chL_keys {L : List NodeV} {d : Nat} {id : Int} {n : Nat} {Z : Nat → Int} {r : Bool} : nkeys (chL L d id n Z r) = nkeys L := by
  unfold chL
  split
  · exact G.rep_keys L _
  · rfl
theorem opL_ch {L : List NodeV} {d : Nat} {s : Int} {o : OpV} (h : ¬ o.kd < 2) : ∃ r, opL L d s o = chL L d o.id o.n o.Z r := by
  unfold opL
  rw [if_neg (by omega), if_neg (by omega)]
  by_cases h2 : o.kd = 2
  · rw [if_pos h2]; exact ⟨false, rfl⟩
  · rw [if_neg h2]; exact ⟨true, rfl⟩
section
variable {SI : World → Nat → Int → Nat → (Nat → Prop) → List NodeV → Prop} {w w1 w2 : World} {d : Nat} {s : Int} {q : Nat} {L M : List NodeV}
/-- play, and what the list of before reads as behind it. -/
theorem own_play2 (C : Con SI) (o : Own SI w d s q L w1) (hg : ErrT w) {B : Option Addr} {cp : Nat} {l : List RnV} (hr : RL w1 d B cp l) (hL : l.map node = L) (op : OpV) (ho : OpIs w1 op) (hn : op.n ≤ 1000) (hd : d ≤ 64) (hl : l.length ≤ 1000) :
    Calls Tryz.prog 8 #[.pointer (some ⟨q, 0, none⟩), .slice B l.length cp, .int .i64 s, op.val] w1 fun e w' => ∃ v b, e = .returned (.tuple #[v, .bool b]) ∧ RL w' d B cp l ∧ Own SI w d s q (opL L d s op) w' := by
  obtain ⟨D, h, k, hD⟩ := o
  refine (play_fn C h hr hL (hg.keep k) op ho hn hd hl).mono ?_
  rintro e w' ⟨B', c', l', tb, rfl, _, _, c⟩
  obtain ⟨D', h', f, hn'⟩ := c
  exact ⟨_, tb, rfl, C.rl h f hr, Own.eff k hD ⟨D', h', f, hn'⟩⟩
end
end Go.Proofs.YtokopegffeablaaGreatDoor.T12
