/-
  The lines of operations, glued with line feeds, read as the plain operations. Condition: each has a line.
-/
import Derived.Test.YtnaeabfmgfipoaaGreatDoorTFew4
namespace Go.Proofs.YtnaeabfmgfipoaaGreatDoor
open Go.RowKit

def noC (c : Int) (s : ByteArray) : Prop := ∀ j, j < s.size → byteAt s j ≠ c
theorem noC_add {c : Int} {x y : ByteArray} (h : noC c x) (h' : noC c y) : noC c (x ++ y) := by
  intro j hj
  rw [ByteArray.size_append] at hj
  by_cases hx : j < x.size
  · rw [byteAt_left x y hx]; exact h j hx
  · have := byteAt_right x y (j - x.size)
    rw [show x.size + (j - x.size) = j by omega] at this
    rw [this]
    exact h' _ (by omega)
theorem noC_of {c : Int} {s : ByteArray} (h : (List.range s.size).all (fun j => decide (byteAt s j ≠ c)) = true) : noC c s := fun j hj => of_decide_eq_true (List.all_eq_true.1 h j (List.mem_range.2 hj))
theorem noC_decN (n : Nat) (h : n ≤ 4611686018427387904) : noC 10 (decN n) := by
  intro j hj e
  have := acc_digs (acc_decN (n + 1) n (by omega) h) j hj
  omega
theorem noC_decB {x : Int} (h : inN x) : noC 10 (decB x) := by
  unfold inN at h
  unfold decB
  split
  · exact noC_add (noC_of (by decide)) (noC_decN _ (by omega))
  · exact noC_decN _ (by omega)
theorem noC_join : ∀ (l : List Int) (s : ByteArray), noC 10 s → (∀ x ∈ l, inN x) → noC 10 (joinN s l)
  | [], s, h, _ => h
  | x :: l, s, h, hx => noC_join l _ (noC_add (noC_add h (noC_of (by decide))) (noC_decB (hx x (List.mem_cons_self ..)))) (fun y hy => hx y (List.mem_cons_of_mem _ hy))
theorem join_cat : ∀ (l : List Int) (s : ByteArray), ∃ y, joinN s l = s ++ y
  | [], s => ⟨⟨#[]⟩, by apply ByteArray.ext; simp [joinN, ByteArray.data_append]⟩
  | x :: l, s => by
    obtain ⟨y, hy⟩ := join_cat l ((s ++ ⟨#[32]⟩) ++ decB x)
    refine ⟨(⟨#[32]⟩ ++ decB x) ++ y, ?_⟩
    show joinN ((s ++ ⟨#[32]⟩) ++ decB x) l = _
    rw [hy]
    apply ByteArray.ext
    simp [ByteArray.data_append]
theorem kind_head {k : Int} (h : ¬ (k < 1 ∨ 7 < k)) : 0 < (kindNm k).size ∧ byteAt (kindNm k) 0 ≠ 35 ∧ noC 10 (kindNm k) := by
  rcases kinds_or k with rfl | rfl | rfl | rfl | rfl | rfl | rfl | h'
  iterate 7 exact ⟨by decide +kernel, by decide +kernel, noC_of (by decide +kernel)⟩
  exact absurd h' h
theorem line_clean {p : OpV} (h : p.good = true) : skipL p.line = false ∧ noC 10 p.line := by
  have ho := good_in h
  obtain ⟨_, h2, h3⟩ := code_in ho
  have hok : okL p.nums = true := by rw [← h3]; exact h
  obtain ⟨k1, k2, k3⟩ := kind_head (k := p.k) ho
  obtain ⟨y, hy⟩ := join_cat p.nums (kindNm p.k)
  have hn := noC_join p.nums (kindNm p.k) k3 (okL_in hok)
  have key : ∃ z, p.line = kindNm p.k ++ z ∧ noC 10 p.line := by
    rw [h2]
    by_cases h1 : p.k = 1
    · have hl : lineT p.k p.f (kindNm p.k) p.nums = joinN (kindNm p.k) p.nums ++ (if p.f then ⟨#[32, 121, 101, 115]⟩ else ⟨#[32, 110, 111]⟩) := by
        unfold lineT
        rw [if_pos hok, if_pos h1]
      rw [hl]
      refine ⟨y ++ (if p.f then ⟨#[32, 121, 101, 115]⟩ else ⟨#[32, 110, 111]⟩), ?_, ?_⟩
      · rw [hy]
        apply ByteArray.ext
        simp [ByteArray.data_append]
      · refine noC_add hn ?_
        cases p.f
        · exact noC_of (by decide)
        · exact noC_of (by decide)
    · have hl : lineT p.k p.f (kindNm p.k) p.nums = joinN (kindNm p.k) p.nums := by
        unfold lineT
        rw [if_pos hok, if_neg h1]
      rw [hl]
      exact ⟨y, hy, hn⟩
  obtain ⟨z, hz, hc⟩ := key
  refine ⟨decide_eq_false ?_, hc⟩
  rw [hz, ByteArray.size_append, byteAt_left _ _ k1]
  rintro (e | e)
  · omega
  · exact k2 e
theorem read_glue (P : Nat → OpV) (n : Nat) (h : ∀ j, j < n → (P j).good = true) : readOf (glue (lines P n)) = .inl ((List.range n).map fun j => plainD (P j)) := by
  have hR := readFrom_right ((List.range n).map fun j => ((P j).line, plainD (P j))) 0 (fun p hp => by
    obtain ⟨j, hj, rfl⟩ := List.mem_map.1 hp
    have hg := h j (List.mem_range.1 hj)
    exact ⟨(line_clean hg).1, line_parses hg⟩)
  have e1 : ((List.range n).map fun j => ((P j).line, plainD (P j))).map (·.1) = lines P n := by unfold lines; rw [List.map_map]; rfl
  have e2 : ((List.range n).map fun j => ((P j).line, plainD (P j))).map (·.2) = (List.range n).map fun j => plainD (P j) := by rw [List.map_map]; rfl
  rw [e1, e2] at hR
  have hs := split_glue (lines P n) (fun l hl => by
    unfold lines at hl
    obtain ⟨j, hj, rfl⟩ := List.mem_map.1 hl
    exact (line_clean (h j (List.mem_range.1 hj))).2) ⟨#[]⟩
  have e3 : glue (lines P n) ++ (⟨#[]⟩ : ByteArray) = glue (lines P n) := by apply ByteArray.ext; simp [ByteArray.data_append]
  have e4 : splitC 10 (⟨#[]⟩ : ByteArray) = [⟨#[]⟩] := split_none (fun j hj => absurd hj (Nat.not_lt_zero j))
  rw [e3, e4] at hs
  unfold readOf
  rw [hs]
  exact hR
end Go.Proofs.YtnaeabfmgfipoaaGreatDoor
