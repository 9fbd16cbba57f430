/-
  The store and the reference's list side by side. No condition, no walk.
-/
import Derived.Test.YtmbeghngnnpmlaaDoorAwake11
namespace Go.Proofs.YtmbeghngnnpmlaaDoor.T11
open Go.RowKit Go.Sort Go.Lib Go.Shelf

/-- The reference's list. -/
structure RL (w : World) (B : Option Addr) (d : Nat) (L : List ClV) : Prop where
  rd : RdC w B L.length (row L)
  pl : Pl B L.length d
  cap : L.length ≤ d
section
variable {w w' : World} {s : Int} {q p m : Nat} {L : List ClV} {B : Option Addr} {d : Nat}
theorem RL.keep (h : RL w B d L) (k : Keep w w') : RL w' B d L := ⟨h.rd.keep k, h.pl, h.cap⟩
theorem RL.fr {L' : List ClV} (h : RL w B d L) (t : TI w s p m L') (f : Fr (· = m) w w') : RL w' B d L := ⟨h.rd.fr f (t.off h.rd), h.pl, h.cap⟩
theorem RList.rl (h : RList w w' B d L) : Keep w w' ∧ RL w' B d L := ⟨h.keep, h.rd, h.pl, h.cap⟩
theorem rl_nil (w : World) : RL w none 0 [] := ⟨RdC.nil _ _ _, Or.inl ⟨rfl, rfl, rfl⟩, Nat.le_refl _⟩
theorem keys_row (L : List ClV) (id : Int) : 0 ≤ findN (row L) id L.length ↔ id ∈ keys L := by rw [find_iff, lst_row]
theorem radd_fn (sz : Int) (hz : s = max sz 0) (h : RL w B d L) (hs : Srt L) (hl : L.length ≤ 1000) (hb : (L.length : Int) ≤ s) (x : ClV) (hx : ClOk x) :
    Calls Tryd.prog 10 #[.slice B L.length d, .int .i64 sz, x.val] w fun e w' => ∃ B' d', e = .returned (.tuple #[.slice B' (addL L s x).length d', .int .i64 (addC L s x)]) ∧ Keep w w' ∧ RL w' B' d' (addL L s x) := by
  have hs' : Srt (lst (row L) L.length) := by rw [lst_row]; exact hs
  by_cases hk : x.k ∈ keys L
  · unfold addC addL
    rw [if_pos hk, if_pos hk]
    have hr := radd_dup B L.length d (row L) x sz w h.rd h.pl h.cap (by rw [lst_row]; exact hk)
    rw [lst_row] at hr
    exact hr.mono fun e w' ⟨B', d', he, r⟩ => ⟨B', d', he, r.rl⟩
  · by_cases hf : (L.length : Int) = s
    · unfold addC addL
      rw [if_neg hk, if_pos hf, if_neg hk, if_pos hf]
      have hr := radd_full B L.length d (row L) x sz w h.rd h.pl h.cap (by rw [lst_row]; exact hk) (by omega)
      rw [lst_row] at hr
      exact hr.mono fun e w' ⟨B', d', he, r⟩ => ⟨B', d', he, r.rl⟩
    · unfold addC addL
      rw [if_neg hk, if_neg hf, if_neg hk, if_neg hf]
      have hr := radd_new B L.length d (row L) x sz w h.rd h.pl h.cap hl hx hs' (by rw [lst_row]; exact hk) (by omega)
      rw [lst_row] at hr
      have el := ins_len x L
      exact hr.mono fun e w' ⟨B', d', he, r⟩ => ⟨B', d', by rw [el]; exact he, r.rl⟩
theorem add_len (L : List ClV) (s : Int) (x : ClV) : (addL L s x).length ≤ L.length + 1 := by
  unfold addL
  have h1 := ins_len x L
  repeat (first | split | omega)
/-- Either the key is at no place, or at one. -/
theorem find_row (L : List ClV) (id : Int) : (findN (row L) id L.length = -1 ∧ id ∉ keys L) ∨ ∃ j, j < L.length ∧ findN (row L) id L.length = (j : Int) ∧ id ∈ keys L ∧ getL L id = row L j := by
  rcases find_cases (row L) id L.length with ⟨h1, h2⟩ | ⟨j, h1, h2, _, h3, h4⟩
  · rw [lst_row] at h2; exact Or.inl ⟨h1, h2⟩
  · rw [lst_row] at h3 h4; exact Or.inr ⟨j, h1, h2, h3, h4⟩
end
/-- A row of a store, read. -/
theorem all_rd {w : World} {base : Nat} {B : Option Addr} {d : Nat} {L : List ClV} (h : w.ownsRow base 30 3 (.slice B L.length d) L.length (clCs (row L) L.length)) (hl : L.length ≤ 1000) (ho : ∀ x ∈ L, ClOk x) : RdC w B L.length (row L) := rows_rd h (by omega) (row_ok ho)
end Go.Proofs.YtmbeghngnnpmlaaDoor.T11
