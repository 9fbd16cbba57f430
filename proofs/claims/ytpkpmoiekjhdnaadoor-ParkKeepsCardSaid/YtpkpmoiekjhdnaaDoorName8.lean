/-
  Names of reasons: the program's and the reference's. Condition: the table of names holds its own.
-/
import Derived.Test.YtpkpmoiekjhdnaaDoorBase5
namespace Go.Proofs.YtpkpmoiekjhdnaaDoor
open Go.RowKit Go.Extern.Stop Go.Stop Go.Extern

def rnTbl : List ByteArray := [⟨#[]⟩, ⟨#[110, 111, 32, 110, 111, 100, 101]⟩, ⟨#[110, 101, 118, 101, 114]⟩, ⟨#[99, 108, 97, 105, 109, 101, 100]⟩, ⟨#[119, 97, 105, 116, 105, 110, 103]⟩]
/-- The name of a reason. -/
def rnm (p : Int) : ByteArray := if 0 ≤ p ∧ p ≤ 4 then rnTbl.getD p.toNat ⟨#[]⟩ else ⟨#[]⟩
theorem rnm_out {p : Int} (h : p < 0 ∨ 4 < p) : rnm p = ⟨#[]⟩ := by unfold rnm; rw [if_neg (by omega)]
/-- The variable holds what the program's text lays. -/
def V8 (w : World) : Prop := ∀ i, i < 5 → w.cell? ⟨0, i, none⟩ = some (.string (rnTbl.getD i ⟨#[]⟩))
theorem V8.keep {w w' : World} (h : V8 w) (k : Keep w w') : V8 w' := fun i hi => k.cell (h i hi)
theorem cases5 {c : Int} (h0 : 0 ≤ c) (h1 : c ≤ 4) : c = 0 ∨ c = 1 ∨ c = 2 ∨ c = 3 ∨ c = 4 := by omega

set_option maxHeartbeats 1000000 in
theorem pname_fn (p : Int) (w : World) (hv : V8 w) : Calls Tryd.prog 23 #[.int .i64 p] w fun e w' => e = .returned (.string (rnm p)) ∧ w = w' := by
  by_cases h : p < 0
  · rw [rnm_out (by omega)]
    clear hv
    go_enter Tryd.func23, Tryd.ntmps23
    go_wp2
    go_ret
    exact ⟨rfl, rfl⟩
  · by_cases h' : 4 < p
    · rw [rnm_out (by omega)]
      clear hv
      go_enter Tryd.func23, Tryd.ntmps23
      go_wp2
      go_ret
      exact ⟨rfl, rfl⟩
    · have e := cases5 (c := p) (by omega) (by omega)
      clear h h'
      rcases e with rfl | rfl | rfl | rfl | rfl
      · have hc := hv 0 (by decide)
        have e : rnTbl.getD 0 ⟨#[]⟩ = rnm 0 := rfl
        rw [e] at hc
        clear hv e
        go_enter Tryd.func23, Tryd.ntmps23
        go_wp2
        go_ret
        exact ⟨rfl, rfl⟩
      · have hc := hv 1 (by decide)
        have e : rnTbl.getD 1 ⟨#[]⟩ = rnm 1 := rfl
        rw [e] at hc
        clear hv e
        go_enter Tryd.func23, Tryd.ntmps23
        go_wp2
        go_ret
        exact ⟨rfl, rfl⟩
      · have hc := hv 2 (by decide)
        have e : rnTbl.getD 2 ⟨#[]⟩ = rnm 2 := rfl
        rw [e] at hc
        clear hv e
        go_enter Tryd.func23, Tryd.ntmps23
        go_wp2
        go_ret
        exact ⟨rfl, rfl⟩
      · have hc := hv 3 (by decide)
        have e : rnTbl.getD 3 ⟨#[]⟩ = rnm 3 := rfl
        rw [e] at hc
        clear hv e
        go_enter Tryd.func23, Tryd.ntmps23
        go_wp2
        go_ret
        exact ⟨rfl, rfl⟩
      · have hc := hv 4 (by decide)
        have e : rnTbl.getD 4 ⟨#[]⟩ = rnm 4 := rfl
        rw [e] at hc
        clear hv e
        go_enter Tryd.func23, Tryd.ntmps23
        go_wp2
        go_ret
        exact ⟨rfl, rfl⟩

set_option maxHeartbeats 1000000 in
theorem rname8_fn (p : Int) (w : World) : Calls Tryd.prog 24 #[.int .i64 p] w fun e w' => e = .returned (.string (rnm p)) ∧ w = w' := by
  by_cases h1 : p = 1
  · subst h1
    have e : rnm 1 = ⟨#[110, 111, 32, 110, 111, 100, 101]⟩ := rfl
    rw [e]
    clear e
    go_enter Tryd.func24, Tryd.ntmps24
    go_wp2
    go_ret
    exact ⟨rfl, rfl⟩
  by_cases h2 : p = 2
  · subst h2
    have e : rnm 2 = ⟨#[110, 101, 118, 101, 114]⟩ := rfl
    rw [e]
    clear e
    go_enter Tryd.func24, Tryd.ntmps24
    go_wp2
    go_ret
    exact ⟨rfl, rfl⟩
  by_cases h3 : p = 3
  · subst h3
    have e : rnm 3 = ⟨#[99, 108, 97, 105, 109, 101, 100]⟩ := rfl
    rw [e]
    clear e
    go_enter Tryd.func24, Tryd.ntmps24
    go_wp2
    go_ret
    exact ⟨rfl, rfl⟩
  by_cases h4 : p = 4
  · subst h4
    have e : rnm 4 = ⟨#[119, 97, 105, 116, 105, 110, 103]⟩ := rfl
    rw [e]
    clear e
    go_enter Tryd.func24, Tryd.ntmps24
    go_wp2
    go_ret
    exact ⟨rfl, rfl⟩
  have e : rnm p = ⟨#[]⟩ := by
    by_cases h0 : p = 0
    · subst h0; rfl
    · exact rnm_out (by omega)
  rw [e]
  clear e
  go_enter Tryd.func24, Tryd.ntmps24
  go_wp2
  go_ret
  exact ⟨rfl, rfl⟩
theorem rnm_empty (p : Int) : (rnm p = ⟨#[]⟩) ↔ (p < 1 ∨ 4 < p) := by
  constructor
  · intro h
    by_cases h0 : p < 1 ∨ 4 < p
    · exact h0
    · exfalso
      have : p = 1 ∨ p = 2 ∨ p = 3 ∨ p = 4 := by omega
      rcases this with rfl | rfl | rfl | rfl <;> exact absurd h (by decide)
  · rintro h
    by_cases h0 : p = 0
    · subst h0; rfl
    · exact rnm_out (by omega)
end Go.Proofs.YtpkpmoiekjhdnaaDoor
