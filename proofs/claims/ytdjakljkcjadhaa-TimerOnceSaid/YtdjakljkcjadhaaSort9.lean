/-
  All timers of a list: a copy, sorted by slices.SortFunc. Condition: at most 1000 timers with different numbers.
-/
import Derived.Test.YtdjakljkcjadhaaLess9
import Derived.Test.YtdjakljkcjadhaaLay9
namespace Go.Proofs.Ytdjakljkcjadhaa.T9
open Go.RowKit Go.Sort Go.Lib Go.Shelf

instance : Inhabited TmV := ⟨zt⟩
theorem ltOf_bef (x y : TmV) : ltOf cmpT x y = befT x y := cmp_bef x y
theorem cmpT_swo : SWO (ltOf cmpT) where
  irrefl := fun x => by rw [ltOf_bef]; exact bef_irrefl x
  trans := fun x y z h1 h2 => by rw [ltOf_bef] at *; exact bef_trans h1 h2
  ntrans := fun x y z h1 h2 => by
    rw [ltOf_bef] at *
    rw [bef_no] at *
    omega
/-- A row of the call's own, behind the sort. -/
theorem own_put {α : Type} [Inhabited α] {enc : α → List Value} {w W : World} {base n g cap z : Nat} {e : TypeId} {xs : List Value} {d' : Array α} (h : w.ownsRow base e z (.slice (some ⟨g, 0, none⟩) n cap) n xs) (hd : d'.size = n)
    (hW : W.heap[g]? = (w.heap[g]?).map (onCells (putCells id 0 (flatK enc z d')))) : W.ownsRow base e z (.slice (some ⟨g, 0, none⟩) n cap) n (flatK enc z d').toList := by
  rcases h with ⟨h1, ⟨h2, _⟩ | ⟨g', cap', cur, h3, h4, h5, h6, h7, h8, h9⟩⟩
  · cases h2
  · simp only [Value.slice.injEq, Option.some.injEq, Addr.mk.injEq, and_true, true_and] at h3
    obtain ⟨rfl, rfl⟩ := h3
    rw [h5, Option.map_some, onCells] at hW
    have hz : (flatK enc z d').size = n * z := by rw [size_flatK, hd]
    refine ⟨by rw [Array.length_toList, hz], .inr ⟨g, cap, _, rfl, h4, hW, h6, h7, by simp [putCells, h8], ?_⟩⟩
    have hle : n * z ≤ cap * z := Nat.mul_le_mul_right z h6
    refine List.ext_getElem? fun t => ?_
    by_cases ht : t < n * z
    · rw [List.getElem?_take_of_lt ht, Array.getElem?_toList, Array.getElem?_toList]
      unfold putCells
      rw [Array.getElem?_mapIdx, Array.getElem?_eq_getElem (by rw [h8]; omega), Option.map_some, if_pos ⟨Nat.zero_le _, by rw [hz]; omega⟩, Nat.sub_zero]
      rw [Array.getElem?_eq_getElem (by rw [hz]; exact ht), getElem!_pos _ _ (by rw [hz]; exact ht)]
      rfl
    · rw [List.getElem?_eq_none (by simp; omega), List.getElem?_eq_none (by rw [Array.length_toList, hz]; omega)]
theorem sortK_grown {α : Type} [Inhabited α] {enc : α → List Value} {k : Nat} {w : World} {blk off m : Nat} {dk : Array α} {os : Array Obj} : w.grownBy (sortWorldK enc k w blk off m dk os) (some blk) := by
  unfold sortWorldK
  refine ⟨rfl, rfl, rfl, by rw [size_grow, size_putRowK]; exact Nat.le_add_right _ _, fun j hj hne => ?_⟩
  rw [heap_grow_old _ _ (by rw [size_putRowK]; exact hj)]
  unfold putRowK putRow mapBlock
  have : j ≠ blk := fun e => hne (by rw [e])
  rw [Array.getElem?_modify, if_neg (fun e => this e.symm)]
  rfl
theorem sortK_block {α : Type} [Inhabited α] {enc : α → List Value} {k : Nat} {w : World} {g m : Nat} {dk : Array α} {os : Array Obj} (hg : g < w.heap.size) : (sortWorldK enc k w g 0 m dk os).heap[g]? = (w.heap[g]?).map (onCells (putCells id 0 (flatK enc k dk))) := by
  unfold sortWorldK
  rw [heap_grow_old _ _ (by rw [size_putRowK]; exact hg)]
  unfold putRowK putRow mapBlock
  rw [Array.getElem?_modify, if_pos rfl]
  rfl
theorem flat_tm (L : List TmV) : (flatK TmV.cells 3 L.toArray).toList = tmCs (row L) L.length := by
  refine List.ext_getElem? fun t => ?_
  by_cases ht : t < L.length * 3
  · have h1 : t / 3 < L.length := by omega
    have h2 : t % 3 < 3 := Nat.mod_lt _ (by omega)
    have hg := tmCs_get (row L) L.length (t / 3) (t % 3) h1 h2
    rw [show t / 3 * 3 + t % 3 = t by omega] at hg
    rw [hg, Array.getElem?_toList, Array.getElem?_eq_getElem (by simpa using ht), ← getElem!_pos (flatK TmV.cells 3 L.toArray) t (by simpa using ht), get_flatK _ _ _ _ (by simpa using ht)]
    have e : L.toArray[t / 3]! = row L (t / 3) := by
      rw [getElem!_pos L.toArray (t / 3) (by simpa using h1)]
      unfold row
      rw [List.getD_eq_getElem?_getD, List.getElem?_eq_getElem h1]
      simp
    rw [e]
    generalize row L (t / 3) = x
    obtain h | h | h : t % 3 = 0 ∨ t % 3 = 1 ∨ t % 3 = 2 := by omega
    all_goals rw [h]; rfl
  · rw [List.getElem?_eq_none (by simp; omega), List.getElem?_eq_none (by rw [tmCs_len]; omega)]
theorem own_holds {w : World} {base g n cap : Nat} {Q : Nat → TmV} (h : w.ownsRow base 33 3 (.slice (some ⟨g, 0, none⟩) n cap) n (tmCs Q n)) : HoldsK TmV.cells 3 w g 0 (lst Q n).toArray := by
  intro t ht
  have e := flat_tm (lst Q n)
  rw [lst_len, tmCs_congr n (fun j hj => row_lst hj)] at e
  have ht2 : t < n * 3 := by rw [size_flatK] at ht; simpa [lst_len] using ht
  rw [Nat.zero_add]
  refine ⟨?_, h.frozenAt t⟩
  rw [h.cellAt t ht2, ← e, Array.getElem?_toList, Array.getElem?_eq_getElem ht, getElem!_pos (flatK TmV.cells 3 (lst Q n).toArray) t ht]
  rfl
/-- The sorted permutation is the list itself. -/
theorem sorted_is {Q : Nat → TmV} {n : Nat} {L : List TmV} {d' : Array TmV} (hp : (lst Q n).Perm L) (hs : Srt L) (hk : (keys L).Nodup) (h1 : PermIn 0 n (lst Q n).toArray d') (h2 : SortedIn (ltOf cmpT) 0 n d') : d'.toList = L := by
  obtain ⟨hz, _, pp⟩ := h1
  have hz' : d'.size = n := by rw [hz]; simp [lst_len]
  have e1 : (d'.extract 0 n).toList = d'.toList := by rw [Array.extract_eq_self_of_le (by omega)]
  have e2 : ((lst Q n).toArray.extract 0 n).toList = lst Q n := by rw [Array.extract_eq_self_of_le (by simp [lst_len])]
  rw [e1, e2] at pp
  have pL := pp.trans hp
  have nd : (d'.toList.map (·.k)).Nodup := by
    have : (d'.toList.map (·.k)).Perm (keys L) := pL.map _
    rw [this.nodup_iff]; exact hk
  refine srt_unique pL ?_ hs
  unfold Srt
  rw [List.pairwise_iff_getElem]
  intro i j hi hj hij
  have hj' : j < d'.size := by simpa using hj
  have hi' : i < d'.size := by simpa using hi
  have := h2 i j (Nat.zero_le _) hij (by omega)
  rw [ltOf_bef, getElem!_pos d' j hj', getElem!_pos d' i hi'] at this
  rw [Array.getElem_toList, Array.getElem_toList]
  unfold List.Nodup at nd
  rw [List.pairwise_map] at nd
  exact bef_total (fun e => List.pairwise_iff_getElem.1 nd i j hi hj hij (by rw [Array.getElem_toList, Array.getElem_toList]; exact e.symm)) this

theorem Try.eqNilT (w : World) : (binOp .eql 37 (.slice none 0 0) (.slice none 0 0)).run Try.prog w = .ok (.bool true) w := by kernel_rfl
theorem Try.eqSomeT (a : Addr) (n c : Nat) (w : World) : (binOp .eql 37 (.slice (some a) n c) (.slice none 0 0)).run Try.prog w = .ok (.bool false) w := by kernel_rfl
set_option maxHeartbeats 1000000 in
theorem tclone_own (A : Option Addr) (n c : Nat) (Q : Nat → TmV) (w : World) (hA : RdT w A n Q) (h0 : A = none → n = 0 ∧ c = 0) (hn : n ≤ 1048576) :
    Calls Try.prog 23 #[.slice A n c] w fun e w' => ∃ A' cap, e = .returned (.slice A' n cap) ∧ Keep w w' ∧ w'.ownsRow w.heap.size 33 3 (.slice A' n cap) n (tmCs Q n) := by
  cases A with
  | none =>
    obtain ⟨rfl, rfl⟩ := h0 rfl
    clear h0 hA
    have q1 := Try.eqNilT
    go_enter Try.func23, Try.ntmps23
    go_wp2
    go_ret
    exact ⟨none, 0, rfl, Keep.refl _, World.ownsRow_nil _ _ _ _⟩
  | some a =>
    clear h0
    have hsrc := Lib.hid (src_rd (c := c) (hA.keep (Keep.one w (.cells #[] 33))) (fun h => by cases h))
    have hown := World.ownsRow_made (base := w.heap.size) (e := 33) (size := 3) w #[] 0 (Nat.le_refl _) (Nat.zero_le _) rfl
    have hown := Lib.hid hown
    clear hA
    have q1 := Try.eqSomeT
    go_enter Try.func23, Try.ntmps23
    go_wp2_with (at_builtin; refine wpl_own Try.tyT9 rfl _ _ rfl w.heap.size _ 0 _ rfl hown.out _ n _ rfl hsrc.out (tmCs_one Q n) (by omega) (by simp) n (Nat.zero_add n) ?_; intro v' w2 hown2 hgrow)
    go_ret
    obtain ⟨A', cap, rfl, _⟩ := own_form hown2
    simp only [List.nil_append] at hown2
    exact ⟨A', cap, by simp, keep_grown (Keep.one w _) hgrow (fun q hq => (hown.out.lt q hq).1), hown2⟩

/-! ### The sort -/
theorem tlays (g size : Nat) (w : World) : CmpLays Try.prog 25 #[] TmV.cells 3 cmpT g 0 size w := fun _ _ _ _ x y => tcompare_fn x y _
set_option maxHeartbeats 1000000 in
theorem tsort_fn (Q : Nat → TmV) (base g n cap : Nat) (w : World) (hn : n ≤ 1048576) (h : w.ownsRow base 33 3 (.slice (some ⟨g, 0, none⟩) n cap) n (tmCs Q n)) :
    Calls Try.prog 24 #[.slice (some ⟨g, 0, none⟩) n cap, .func (.func 25) #[] #[]] w fun e w' => e = .returned (.tuple #[]) ∧ ∃ d' : Array TmV, PermIn 0 n (lst Q n).toArray d' ∧ SortedIn (ltOf cmpT) 0 n d' ∧ w.grownBy w' (some g) ∧ w'.ownsRow base 33 3 (.slice (some ⟨g, 0, none⟩) n cap) n (tmCs (row d'.toList) n) := by
  have eg : ∀ args w, (callFunc 25 args).run Try.prog w = .ok (.enter 25 args) w := enters_of Try.func25 (by kernel_rfl) rfl
  have hs : (lst Q n).toArray.size = n := by simp [lst_len]
  have hlt := (h.lt g rfl).2
  have hcon := AnyQ.slices_SortFunc Try.sortTm 3 Try.isAgg33 Try.sizeOf33 TmV.cells (fun _ => rfl) cells_one cmpT cmpT_swo 25 #[] g 0 cap (lst Q n).toArray w eg (tlays g _ w) (own_holds h) hlt (by omega)
  rw [hs] at hcon
  refine hcon.mono ?_
  rintro e w' ⟨rfl, d', m, os, hp, hsd, rfl⟩
  refine ⟨rfl, d', hp, hsd, sortK_grown, ?_⟩
  have hd : d'.size = n := by rw [hp.1, hs]
  have := own_put (enc := TmV.cells) (d' := d') h hd (sortK_block (m := m) (os := os) hlt)
  have e : (flatK TmV.cells 3 d').toList = tmCs (row d'.toList) n := by
    have := flat_tm d'.toList
    rwa [Array.toArray_toList, Array.length_toList, hd] at this
  rwa [e] at this
end Go.Proofs.Ytdjakljkcjadhaa.T9
