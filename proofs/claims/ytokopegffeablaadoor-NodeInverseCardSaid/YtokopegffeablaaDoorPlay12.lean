/-
  The law's play, but for a drop. Conditions: errors.errorType holds its own; at most 1000 nodes, 1000 amounts, 64 dimensions.
-/
import Derived.Test.YtokopegffeablaaDoorCon12
import Derived.Test.YtokopegffeablaaDoorRefA12
namespace Go.Proofs.YtokopegffeablaaDoor.T12
open Go.RowKit Go.Sort Go.Lib V12

section
variable {SI : World → Nat → Int → Nat → (Nat → Prop) → List NodeV → Prop} {w w1 w2 : World} {d : Nat} {s : Int} {q : Nat} {D : Nat → Prop} {L M : List NodeV}
theorem Eff.after (k : Keep w w1) (e : Eff SI d s q D w1 M w2) : Eff SI d s q D w M w2 := by
  obtain ⟨D', h, f, hd⟩ := e
  exact ⟨D', h, FrS.after k f, fun i hi => (hd i hi).elim Or.inl fun h => Or.inr (Nat.le_trans k.size h)⟩
theorem Eff.keep (C : Con SI) (e : Eff SI d s q D w M w1) (k : Keep w1 w2) : Eff SI d s q D w M w2 := by
  obtain ⟨D', h, f, hd⟩ := e
  exact ⟨D', C.keep h k, f.keep k, hd⟩
theorem ok_of (C : Con SI) (h : SI w d s q D L) {l : List RnV} (hL : l.map node = L) : Srt l ∧ ∀ x ∈ l, NodeOk d (node x) :=
  ⟨map_srt.1 (by rw [hL]; exact C.srt h), fun x hx => C.ok h _ (by rw [← hL]; exact List.mem_map_of_mem hx)⟩
end
end Go.Proofs.YtokopegffeablaaDoor.T12
