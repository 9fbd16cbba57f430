/-
  Setting timers one after another; what the laws know of the lists. No condition, no walk.
-/
import Derived.Test.YtdjakljkcjadhaaAwake9
import Derived.Test.YtdjakljkcjadhaaRSet9
namespace Go.Proofs.Ytdjakljkcjadhaa.T9
open Go.RowKit Go.Sort Go.Lib

def setsN (P : Nat → TmV) : Nat → List TmV
  | 0 => []
  | n + 1 => setL (setsN P n) (P n)
theorem sets_len (P : Nat → TmV) : ∀ n, (setsN P n).length ≤ n
  | 0 => Nat.le_refl _
  | n + 1 => by
    have := sets_len P n
    have := set_len (setsN P n) (P n)
    rw [setsN]
    omega
theorem i64_max : I64 9223372036854775807 := by unfold I64; omega
theorem due_all {now : Int} : ∀ {L : List TmV}, (∀ x ∈ L, x.t ≤ now) → dueN now L = L.length
  | [], _ => rfl
  | y :: L, h => by
    rw [dueN, if_pos (h y (List.mem_cons_self ..)), due_all fun x hx => h x (List.mem_cons_of_mem _ hx)]
    rfl
theorem due_max {L : List TmV} (h : ∀ x ∈ L, TmOk x) : dueN 9223372036854775807 L = L.length := due_all fun x hx => (h x hx).t.2
theorem srt_at {L : List TmV} (h : Srt L) {i j : Nat} (hij : i < j) (hj : j < L.length) : befT (row L i) (row L j) = true := by
  have := List.pairwise_iff_getElem.1 h i j (by omega) hj hij
  unfold row
  rw [List.getD_eq_getElem?_getD, List.getD_eq_getElem?_getD, List.getElem?_eq_getElem hj, List.getElem?_eq_getElem (by omega : i < L.length)]
  exact this
theorem row_mem {L : List TmV} {j : Nat} (h : j < L.length) : row L j ∈ L := by
  unfold row
  rw [List.getD_eq_getElem?_getD, List.getElem?_eq_getElem h]
  exact List.getElem_mem h
theorem row_drop (L : List TmV) (m j : Nat) : row (L.drop m) j = row L (m + j) := by
  unfold row
  rw [List.getD_eq_getElem?_getD, List.getD_eq_getElem?_getD, List.getElem?_drop]
theorem row_cons (x : TmV) (L : List TmV) : row (x :: L) 0 = x := rfl
/-- Cancelling a timer and setting it again. -/
theorem wo_set {L : List TmV} {id : Int} (hs : Srt L) (hk : (keys L).Nodup) (hi : id ∈ keys L) : setL (woL L id) (getL L id) = L ∧ (getL L id).k ∉ keys (woL L id) ∧ (woL L id).length + 1 = L.length := by
  obtain ⟨hm, e⟩ := get_some hi
  have hn : (getL L id).k ∉ keys (woL L id) := by
    rw [e]
    intro h
    obtain ⟨y, hy, e2⟩ := List.mem_map.1 h
    have := (List.mem_filter.1 hy).2
    rw [decide_eq_true_eq] at this
    exact this e2
  have hp : (getL L id :: woL L id).Perm L := by
    have key : ∀ {M : List TmV} {x : TmV}, (keys M).Nodup → x ∈ M → x.k = id → (x :: woL M id).Perm M := by
      intro M
      induction M with
      | nil => intro x _ h; cases h
      | cons y M ih =>
        intro x hk hx e
        have hk' := hk
        unfold keys at hk'
        rw [List.map_cons, List.nodup_cons] at hk'
        rcases List.mem_cons.1 hx with rfl | hx
        · have e2 : woL (x :: M) id = woL M id := List.filter_cons_of_neg (by simp [e])
          rw [e2, wo_none (by unfold keys; rw [← e]; exact hk'.1)]
        · have hy : y.k ≠ id := fun e2 => hk'.1 (by rw [e2, ← e]; exact List.mem_map_of_mem hx)
          have e2 : woL (y :: M) id = y :: woL M id := List.filter_cons_of_pos (by simpa using hy)
          rw [e2]
          exact (List.Perm.swap _ _ _).trans ((ih hk'.2 hx e).cons y)
    exact key hk hm e
  refine ⟨?_, hn, ?_⟩
  · refine srt_unique ?_ (set_sorted (wo_sorted hs)) hs
    unfold setL
    rw [if_neg hn]
    exact (ins_perm _ _).trans hp
  · have := hp.length_eq
    simpa using this
end Go.Proofs.Ytdjakljkcjadhaa.T9
