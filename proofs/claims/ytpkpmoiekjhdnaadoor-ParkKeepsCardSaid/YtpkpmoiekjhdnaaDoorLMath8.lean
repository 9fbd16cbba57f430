/-
  Lists of pods side by side. No condition, no walk.
-/
import Derived.Test.YtpkpmoiekjhdnaaDoorRPush8
namespace Go.Proofs.YtpkpmoiekjhdnaaDoor
open Go.RowKit Go.Sort Go.Lib Go.Shelf
open Go.ChangeMaps (setBlock)

theorem own_is {w : World} {base : Nat} {x : PodV} (h : Req w base x) (o : PodOk x) : PodIs w x := h.is o
theorem lst_same {T R : Nat → PodV} {n m : Nat} (h : (lst T n).map nm = (lst R m).map nm) : n = m ∧ ∀ j, j < n → SameV (T j) (R j) := by
  have hl := congrArg List.length h
  rw [List.length_map, List.length_map, lst_len, lst_len] at hl
  subst hl
  refine ⟨rfl, fun j hj => same_nm ?_⟩
  have := congrArg (fun l : List PodV => l[j]?) h
  simp only [List.getElem?_map, lst_get hj, Option.map_some, Option.some.injEq] at this
  exact this
theorem drop_list {L M : List PodV} {x : PodV} {id : Int} (h : L.Perm (nm x :: M)) (hk : (L.map (·.k)).Nodup) (hx : x.k = id) : id ∉ M.map (·.k) ∧ (L.filter (fun y => decide (y.k ≠ id))).Perm M := by
  have hk2 : ((nm x :: M).map (·.k)).Nodup := ((h.map _).nodup_iff).1 hk
  rw [List.map_cons, List.nodup_cons] at hk2
  have e : (nm x).k = id := hx
  rw [e] at hk2
  refine ⟨hk2.1, (h.filter _).trans ?_⟩
  rw [List.filter_cons_of_neg (by simp [e])]
  rw [List.filter_eq_self.2 fun y hy => ?_]
  refine decide_eq_true fun e2 => hk2.1 ?_
  rw [← e2]
  exact List.mem_map_of_mem hy
theorem drop_none {L : List PodV} {id : Int} (h : id ∉ L.map (·.k)) : L.filter (fun y => decide (y.k ≠ id)) = L :=
  List.filter_eq_self.2 fun y hy => decide_eq_true fun e => h (by rw [← e]; exact List.mem_map_of_mem hy)
theorem map_filter_nm (L : List PodV) (id : Int) : (L.filter (fun y => decide (y.k ≠ id))).map nm = (L.map nm).filter (fun y => decide (y.k ≠ id)) := by
  rw [List.filter_map]
  rfl
theorem wo_list {S T : Nat → PodV} {m k : Nat} {L : List PodV} {id : Int} (h : lst T k = (lst S m).filter (fun x => decide (x.k ≠ id))) (hp : ((lst S m).map nm).Perm L) (hs : ((lst S m).map nm).Pairwise leP) :
    ((lst T k).map nm).Perm (L.filter (fun y => decide (y.k ≠ id))) ∧ ((lst T k).map nm).Pairwise leP := by
  rw [h, map_filter_nm]
  exact ⟨hp.filter _, hs.sublist List.filter_sublist⟩
theorem both_same {T R : Nat → PodV} {n m : Nat} {L : List PodV} (p1 : ((lst T n).map nm).Perm L) (s1 : ((lst T n).map nm).Pairwise leP) (p2 : ((lst R m).map nm).Perm L) (s2 : ((lst R m).map nm).Pairwise leP) (hk : (L.map (·.k)).Nodup) : n = m ∧ ∀ j, j < n → SameV (T j) (R j) :=
  lst_same (sorted_unique (p1.trans p2.symm) s1 s2 (((p1.map _).nodup_iff).2 hk))
theorem find_keys {S : Nat → PodV} {m : Nat} {L : List PodV} {id : Int} (hp : ((lst S m).map nm).Perm L) : 0 ≤ findN S id m ↔ id ∈ L.map (·.k) := by
  rw [find_iff, ← (hp.map (·.k)).mem_iff, List.map_map]
  simp [lst, nm, PodV.at]
/-- The reference's list lies apart from the queue. -/
theorem src_ref {w0 w w' : World} {D : Nat → Prop} {L : List PodV} {B : Option Addr} {m : Nat} {S X Y : Nat → PodV} {n k : Nat} (h : RList w w' L B m S X Y n k) (hlt : ∀ i, D i → i < w.heap.size)
    (hX : ∀ t, t < n → ∀ a, (X t).A = some a → 0 < (X t).m → ¬ D a.block) (hY : ∀ t, t < k → ∀ a, (Y t).A = some a → 0 < (Y t).m → ¬ D a.block) (_ : Keep w0 w) : Src w' D B m S := by
  refine ⟨h.rd, fun b off e _ hd => ?_, fun j hj a ha hm => ?_⟩
  · have := h.low b off e
    have := hlt b hd
    omega
  · rcases h.from_ j hj with ⟨t, ht, e⟩ | ⟨t, ht, e⟩
    · rw [e] at ha hm; exact hX t ht a ha hm
    · rw [e] at ha hm; exact hY t ht a ha hm
theorem old_req {w0 : World} {D : Nat → Prop} {A : Option Addr} {n : Nat} {P : Nat → PodV} (h : RdPods w0 A n P) (hD : ∀ i, D i → w0.heap.size ≤ i) : ∀ t, t < n → ∀ a, (P t).A = some a → 0 < (P t).m → ¬ D a.block := (src_old h (Keep.refl _) hD).req
end Go.Proofs.YtpkpmoiekjhdnaaDoor
