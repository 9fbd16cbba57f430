/-
  The reference's Add, Drop, Change in one form. Conditions: at most 1000 nodes, sorted, each in order; at most 1000 amounts.
-/
import Derived.Test.YtokopegffeablaaGreatDoorRAddN12
import Derived.Test.YtokopegffeablaaGreatDoorRChN12
namespace Go.Proofs.YtokopegffeablaaGreatDoor.T12
open Go.RowKit Go.Sort Go.Lib V12

theorem radd_fn {w : World} {d : Nat} {B : Option Addr} {cp : Nat} {l : List RnV} (h : RL w d B cp l) (s k : Int) (A : Option Addr) (n c : Nat) (Z : Nat → Int) (hA : Rd w A n Z) (nilA : A = none → n = 0 ∧ c = 0) (hd : d ≤ 1000) (hl : l.length ≤ 1000) (hs : Srt l) (hk : I64 k) :
    Calls Tryz.prog 22 #[.slice B l.length cp, .int .i64 d, .int .i64 s, .agg #[.int .i64 k, .slice A n c]] w fun e w' => ∃ B' c' l', e = .returned (.tuple #[.slice B' l'.length c', .int .i64 (addC (l.map node) d s k n Z), .int .i64 (addI d n Z)]) ∧ Keep w w' ∧ RL w' d B' c' l' ∧ l'.map node = addL (l.map node) d s k n Z := by
  unfold addL addC addI
  rw [map_keys, List.length_map]
  by_cases h1 : 0 ≤ wrongOf n Z d
  · simp only [if_pos h1]
    rw [if_neg (by decide)]
    exact radd_wrong h s k A n c Z hA h1
  · simp only [if_neg h1]
    by_cases h2 : k ∈ keys l
    · simp only [if_pos h2]
      rw [if_neg (by decide)]
      exact radd_dup h s k A n c Z hA h1 h2
    · simp only [if_neg h2]
      by_cases h3 : s ≤ (l.length : Int)
      · simp only [if_pos h3]
        rw [if_neg (by decide)]
        exact radd_full h s k A n c Z hA h1 h2 h3
      · simp only [if_neg h3]
        rw [if_pos trivial]
        exact radd_new h s k A n c Z hA nilA hd hl h1 h2 h3 hs hk
theorem rch_fn {w : World} {d : Nat} {B : Option Addr} {cp : Nat} {l : List RnV} (h : RL w d B cp l) (id : Int) (A : Option Addr) (n c : Nat) (Z : Nat → Int) (r : Bool) (hv : Rd w A n Z) (hd : d ≤ 1000) (hl : l.length ≤ 1000) (hs : Srt l) (hok : ∀ x ∈ l, NodeOk d (node x)) :
    Calls Tryz.prog 27 #[.slice B l.length cp, .int .i64 d, .int .i64 id, .slice A n c, .bool r] w fun e w' => ∃ B' c' l', e = .returned (.tuple #[.slice B' l'.length c', .int .i64 (chC (l.map node) d id n Z r), .int .i64 (chI (l.map node) d id n Z)]) ∧ Keep w w' ∧ RL w' d B' c' l' ∧ l'.map node = chL (l.map node) d id n Z r := by
  unfold chL chC chI
  rw [map_keys]
  by_cases h1 : id ∈ keys l
  · rw [if_neg (not_not_intro h1), if_neg (not_not_intro h1)]
    by_cases h2 : 0 ≤ wrongOf n Z d
    · simp only [if_pos h2]
      rw [if_neg (by decide)]
      exact rch_wrong h id A n c Z r hv h1 h2
    · simp only [if_neg h2]
      have hc := rch_some h id A n c Z r hv hd hl hs hok h1 h2 _ rfl
      obtain ⟨ok, hok2⟩ : ∃ ok, ok = chOk d (G.get NodeV.k zn (l.map node) id) r Z := ⟨_, rfl⟩
      rw [← hok2] at hc ⊢
      cases ok
      · exact hc
      · exact hc
  · rw [if_pos h1, if_pos h1, if_neg (by decide)]
    exact rch_none h id A n c Z r hv h1
theorem rdr_fn {w : World} {d : Nat} {B : Option Addr} {cp : Nat} {l : List RnV} (h : RL w d B cp l) (id : Int) (hl : l.length ≤ 1000) :
    Calls Tryz.prog 26 #[.slice B l.length cp, .int .i64 id] w fun e w' => ∃ B' c' l', e = .returned (.slice B' l'.length c') ∧ Keep w w' ∧ RL w' d B' c' l' ∧ l'.map node = dropL (l.map node) id := by
  refine (rdrop_fn B l.length cp (row l) id w h.rd hl).mono ?_
  rintro e w' ⟨B', c', rfl, k, ho⟩
  rw [lst_row] at ho ⊢
  have hm : ∀ x ∈ woL l id, x ∈ l := fun x hx => wo_mem hx
  have hn : (woL l id).length ≤ 1000 := Nat.le_trans (wo_len l id) hl
  have okl : ∀ x ∈ l, RnOk x := fun x hx => by
    have := lst_ok h.rd.ok
    rw [lst_row] at this
    exact this x hx
  refine ⟨B', c', woL l id, rfl, k, ⟨rows_rd ho (by omega) (row_ok fun x hx => okl x (hm x hx)), own_cap ho, ?_, fun x hx => (h.is x (hm x hx)).keep k, typ_own ho⟩, map_wo l id⟩
  obtain ⟨A', c2, e, _⟩ := own_form ho
  rcases ho.2 with ⟨hv, h0⟩ | ⟨g, cap, cur, hv, _⟩
  · simp only [Value.slice.injEq] at hv
    exact Or.inl ⟨hv.1, h0, hv.2.2⟩
  · simp only [Value.slice.injEq] at hv
    exact Or.inr ⟨g, 0, hv.1⟩
end Go.Proofs.YtokopegffeablaaGreatDoor.T12
