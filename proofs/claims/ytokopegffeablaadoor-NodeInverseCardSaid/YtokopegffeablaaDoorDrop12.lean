/-
  The store: Add in one form; Drop. Conditions: errors.errorType holds its own; at most 1000 amounts, 64 dimensions.
-/
import Derived.Test.YtokopegffeablaaDoorAddN12
namespace Go.Proofs.YtokopegffeablaaDoor.T12
open Go.RowKit Go.Sort Go.Lib V12

section
variable {w w' : World} {d : Nat} {s : Int} {q t m : Nat} {E : List EnV}
theorem NodeV.ext' {a b : NodeV} (h1 : a.k = b.k) (h2 : a.C = b.C) (h3 : a.U = b.U) : a = b := by cases a; cases b; cases h1; cases h2; cases h3; rfl
theorem nadd_fn (h : SC w d s q t m E) (hg : ErrT w) (k : Int) (A : Option Addr) (n c : Nat) (Z : Nat → Int) (hA : Rd w A n Z) (nilA : A = none → n = 0 ∧ c = 0) (hk : I64 k) (hd : d ≤ 64) :
    Calls Tryd.prog 7 #[.pointer (some ⟨q, 0, none⟩), .agg #[.int .i64 k, .slice A n c]] w fun e w' => e = .returned (fltC (addC (E.map EnV.nv) d s k n Z) (addI d n Z)) ∧ After w w' d s q t m E (addL (E.map EnV.nv) d s k n Z) := by
  unfold addL addC addI
  rw [nv_keys, List.length_map]
  by_cases hw : 0 ≤ wrongOf n Z d
  · simp only [if_pos hw]
    rw [if_neg (by decide)]
    refine (nadd_wrong h k A n c Z hA hw).mono fun e w' ⟨he, hk⟩ => ⟨?_, After.same h hk⟩
    rw [he]
    unfold fltC
    rw [if_neg (by decide)]
  · simp only [if_neg hw]
    obtain ⟨rfl, hz⟩ := wrong_no hw
    refine (nadd_ok h hg k A c Z hA nilA hw hk hz hd).mono fun e w' ⟨he, x, e1, e2, e3, hs, hf, hp, ha, hb⟩ => ⟨he, ?_⟩
    have ev : x.nv = ⟨k, Z, fun _ => 0⟩ := NodeV.ext' e1 e2 e3
    have hf' : FrS (DE m E) w w' := ⟨hf.fr.less fun _ e => Or.inl e, hf.int⟩
    by_cases h1 : k ∈ ekeys E
    · simp only [if_pos h1] at hs ⊢
      rw [if_neg (by decide)]
      exact ⟨E, hs, rfl, hf', fun _ h => Or.inl h, fun _ h => Or.inl h⟩
    · simp only [if_neg h1] at hs ⊢
      by_cases h2 : s ≤ (E.length : Int)
      · simp only [if_pos h2] at hs ⊢
        rw [if_neg (by decide)]
        exact ⟨E, hs, rfl, hf', fun _ h => Or.inl h, fun _ h => Or.inl h⟩
      · simp only [if_neg h2] at hs ⊢
        rw [if_pos trivial]
        refine ⟨_, hs, ?_, hf', fun i hi => ?_, fun i hi => ?_⟩
        · rw [G.map_ins (ka := EnV.k) (kb := NodeV.k) nv_k, ev]
        · rcases hi with rfl | ⟨y, hy, rfl⟩
          · exact Or.inl (Or.inl rfl)
          · rcases G.ins_mem.1 hy with rfl | hy
            · exact Or.inr hp
            · exact Or.inl (Or.inr ⟨y, hy, rfl⟩)
        · rcases hi with rfl | rfl | rfl | ⟨y, hy, h3⟩
          · exact Or.inl (Or.inl rfl)
          · exact Or.inl (Or.inr (Or.inl rfl))
          · exact Or.inl (Or.inr (Or.inr (Or.inl rfl)))
          · rcases G.ins_mem.1 hy with rfl | hy
            · rcases h3 with rfl | ⟨hd, ⟨o, h3⟩ | ⟨o, h3⟩⟩
              · exact Or.inr hp
              · obtain ⟨b, o2, e, hb⟩ := ha hd
                rw [e] at h3
                simp only [Option.some.injEq, Addr.mk.injEq, and_true] at h3
                exact Or.inr (by omega)
              · obtain ⟨b, o2, e, hb⟩ := hb hd
                rw [e] at h3
                simp only [Option.some.injEq, Addr.mk.injEq, and_true] at h3
                exact Or.inr (by omega)
            · exact Or.inl (Or.inr (Or.inr (Or.inr ⟨y, hy, h3⟩)))
end
end Go.Proofs.YtokopegffeablaaDoor.T12
