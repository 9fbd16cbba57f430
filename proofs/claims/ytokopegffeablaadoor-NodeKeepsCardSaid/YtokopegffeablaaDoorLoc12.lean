/-
  The store: New, Dims, IDs, find, located. Condition for the last: errors.errorType holds its own.
-/
import Derived.Test.YtokopegffeablaaDoorEnt12
import Derived.Test.YtokopegffeablaaDoorIDs12
namespace Go.Proofs.YtokopegffeablaaDoor.T12
open Go.RowKit Go.Sort Go.Lib V12 Go.Maps Go.Shelf

theorem located_nil (w : World) : Calls Tryd.prog 21 #[.nilIface] w fun e w' => e = .returned .nilIface ∧ Keep w w' := by
  have hA := Lib.hid (fun W => code_nil W)
  go_enter Tryd.func21, Tryd.ntmps21
  go_wp2_with fail
  refine (hA.out _).mono ?_
  rintro e w1 ⟨rfl, k⟩
  have k := Lib.hid k
  go_wp2
  go_ret
  exact ⟨rfl, k.out⟩
theorem located_code (c : Int) (w : World) (hg : ErrT w) : Calls Tryd.prog 21 #[err c] w fun e w' => e = .returned (flt c 0) ∧ Keep w w' := by
  have hA := Lib.hid (code_yes c [] (.code c) _ w (.base _) (Or.inl rfl) hg)
  have hn := Lib.hid (fun W => new_fn c 0 W)
  clear hg
  unfold err
  unfold flt
  go_enter Tryd.func21, Tryd.ntmps21
  go_wp2_with fail
  refine hA.out.mono ?_
  rintro e w1 ⟨rfl, k⟩
  have k := Lib.hid k
  go_wp2_with fail
  refine (hn.out _).mono ?_
  rintro e w2 ⟨rfl, rfl⟩
  go_wp2
  go_ret
  exact ⟨rfl, k.out⟩
def errC (c : Int) : Value := if c = 0 then .nilIface else err c
theorem located_fn (c : Int) (w : World) (hg : ErrT w) : Calls Tryd.prog 21 #[errC c] w fun e w' => e = .returned (fltC c 0) ∧ Keep w w' := by
  unfold errC fltC
  by_cases h : c = 0
  · rw [if_pos h, if_pos h]; exact located_nil w
  · rw [if_neg h, if_neg h]; exact located_code c w hg
section
variable {w w' : World} {d : Nat} {s : Int} {q t m : Nat} {E : List EnV}
theorem find_in (h : SC w d s q t m E) {id : Int} (hk : id ∈ ekeys E) : Calls Tryd.prog 29 #[.pointer (some ⟨q, 0, none⟩), .int .i64 id] w fun e w' => e = .returned (.tuple #[.pointer (some ⟨(eget E id).p, 0, none⟩), .bool true]) ∧ w = w' := by
  have c1 := h.c1
  have hG := Lib.hid (tget_in h hk)
  obtain ⟨p, hp⟩ : ∃ p, p = (eget E id).p := ⟨_, rfl⟩
  rw [← hp] at hG ⊢
  replace hp := Lib.hid hp
  clear h hk
  go_enter Tryd.func29, Tryd.ntmps29
  go_wp2_with fail
  refine hG.out.mono ?_
  rintro e w1 ⟨rfl, rfl⟩
  go_wp2
  go_ret2
  exact ⟨rfl, rfl⟩
theorem find_out (h : SC w d s q t m E) {id : Int} (hk : id ∉ ekeys E) : Calls Tryd.prog 29 #[.pointer (some ⟨q, 0, none⟩), .int .i64 id] w fun e w' => e = .returned (.tuple #[.pointer none, .bool false]) ∧ w = w' := by
  have c1 := h.c1
  have hG := Lib.hid (tget_out h hk)
  clear h hk
  go_enter Tryd.func29, Tryd.ntmps29
  go_wp2_with fail
  refine hG.out.mono ?_
  rintro e w1 ⟨rfl, rfl⟩
  go_wp2
  go_ret2
  exact ⟨rfl, rfl⟩
theorem find_nil (w : World) (id : Int) : Calls Tryd.prog 29 #[.pointer none, .int .i64 id] w fun e w' => e = .returned (.tuple #[.pointer none, .bool false]) ∧ w = w' := by
  go_enter Tryd.func29, Tryd.ntmps29
  go_wp2
  go_ret2
  exact ⟨rfl, rfl⟩
theorem ndims_fn (h : SC w d s q t m E) : Calls Tryd.prog 18 #[.pointer (some ⟨q, 0, none⟩)] w fun e w' => e = .returned (.int .i64 d) ∧ Keep w w' := by
  have c0 := h.c0
  clear h
  go_enter Tryd.func18, Tryd.ntmps18
  go_wp2
  go_ret
  exact ⟨rfl, Keep.refl _⟩
theorem nnew_fn (d : Nat) (s : Int) (w : World) (hd : d ≤ 64) (h0 : 0 ≤ s) (hs : I64 s) : Calls Tryd.prog 5 #[.int .i64 d, .int .i64 s] w fun e w' => ∃ q, e = .returned (.pointer (some ⟨q, 0, none⟩)) ∧ ∃ t m, SC w' d s q t m [] ∧ Keep w w' ∧ w.heap.size ≤ q ∧ w.heap.size ≤ t ∧ w.heap.size ≤ m := by
  have h := tnnew_fn s hs w
  rw [if_pos h0] at h
  have hm : max (d : Int) 0 = (d : Int) := by omega
  have hb1 : decide ((0 : Int) ≤ (d : Int)) = true := decide_eq_true (by omega)
  have hb2 : decide ((d : Int) < 0) = false := decide_eq_false (by omega)
  replace h := Lib.hid h
  clear hs
  go_enter Tryd.func5, Tryd.ntmps5
  go_wp2_with fail
  refine h.out.mono ?_
  rintro e w1 ⟨t, rfl, m, T, k, h1, h2⟩
  have hn := heap_alloc_new w1 (.cells #[.int .i64 d, .pointer (some ⟨t, 0, none⟩)] 45)
  have K := k.alloc (.cells #[.int .i64 d, .pointer (some ⟨t, 0, none⟩)] 45)
  have T2 := T.keep (Keep.one w1 (.cells #[.int .i64 d, .pointer (some ⟨t, 0, none⟩)] 45))
  have hsz := k.size
  replace hn := Lib.hid hn
  replace K := Lib.hid K
  replace T2 := Lib.hid T2
  replace T := Lib.hid T
  replace k := Lib.hid k
  go_wp2
  try simp only [hm]
  go_ret
  exact ⟨_, rfl, t, m, ⟨hn.out, ⟨[], T2.out, List.Perm.nil⟩, List.Pairwise.nil, fun x h => by cases h⟩, K.out, hsz, h1, h2⟩
theorem nids_nil (w : World) : Calls Tryd.prog 14 #[.pointer none] w fun e w' => e = .returned (.slice none 0 0) ∧ Keep w w' := by
  go_enter Tryd.func14, Tryd.ntmps14
  go_wp2
  go_ret
  exact ⟨rfl, Keep.refl _⟩
theorem nrow_at {L : List NodeV} {j : Nat} {y : NodeV} (h : L[j]? = some y) : nrow L j = y := by
  unfold nrow
  rw [List.getD_eq_getElem?_getD, h]
  rfl
theorem keys_merge {l : List (Int × Value)} (hp : l.Perm (E.map EnV.kv)) (hs : G.Srt EnV.k E) : ((l.map (·.1)).mergeSort fun x y => decide (x ≤ y)) = ekeys E := by
  have e : ((l.map (·.1)).mergeSort fun x y => decide (x ≤ y)) = (ekeys E).mergeSort fun x y => decide (x ≤ y) := mergeSort_of_perm_i (by rw [← kv_keys]; exact hp.map _)
  rw [e]
  refine List.mergeSort_of_pairwise ?_
  refine (G.srt_keys.1 hs).imp fun h => ?_
  simpa using Int.le_of_lt h
theorem nids_fn (h : SC w d s q t m E) (hl : E.length ≤ 1000) : Calls Tryd.prog 14 #[.pointer (some ⟨q, 0, none⟩)] w fun e w' => ∃ A c, e = .returned (.slice A E.length c) ∧ Rd w' A E.length (fun j => (nrow (E.map EnV.nv) j).k) ∧ Keep w w' := by
  obtain ⟨l, a, b⟩ := h.ex
  have el : l.length = E.length := by rw [b.length_eq, List.length_map]
  have hI := tnids_fn a (by omega)
  have hm := keys_merge b h.srt
  rw [hm, el] at hI
  have fin : Hid (∀ w' v, w'.ownsRow w.heap.size 3 1 v E.length ((ekeys E).map encZ) → ∃ A c, v = .slice A E.length c ∧ Rd w' A E.length (fun j => (nrow (E.map EnV.nv) j).k)) := fun w' v ho => by
    obtain ⟨A, c, rfl, _⟩ := own_form ho
    refine ⟨A, c, rfl, ⟨by omega, fun j hj => ?_, fun hp => ?_⟩⟩
    · have e1 : (E.map EnV.nv)[j]? = some (E[j]).nv := by rw [List.getElem?_map, List.getElem?_eq_getElem hj]; rfl
      rw [nrow_at e1]
      exact (h.is _ (List.getElem_mem hj)).ok.k
    · obtain ⟨g, cap, e, _, _⟩ := ho.form hp
      have e' := e
      simp only [Value.slice.injEq] at e'
      obtain ⟨rfl, _, rfl⟩ := e'
      refine ⟨g, 0, rfl, fun j hj => ?_⟩
      have e1 : (E.map EnV.nv)[j]? = some (E[j]).nv := by rw [List.getElem?_map, List.getElem?_eq_getElem hj]; rfl
      rw [Nat.zero_add, ho.cellAt j (by omega), nrow_at e1]
      unfold ekeys G.keys
      rw [List.getElem?_map, List.getElem?_map, List.getElem?_eq_getElem hj]
      rfl
  have c1 := h.c1
  obtain ⟨n, hn⟩ : ∃ n, n = E.length := ⟨_, rfl⟩
  rw [← hn] at hI fin ⊢
  replace hn := Lib.hid hn
  replace hI := Lib.hid hI
  replace hm := Lib.hid hm
  clear h a b el hl
  go_enter Tryd.func14, Tryd.ntmps14
  go_wp2_with fail
  refine hI.out.mono ?_
  rintro e w1 ⟨v, rfl, ho, k⟩
  obtain ⟨A, c, rfl, hr⟩ := fin.out w1 v ho
  replace hr := Lib.hid hr
  have k : Hid (Keep w w1) := k
  clear ho fin
  go_wp2
  go_ret
  exact ⟨A, c, rfl, hr.out, k.out⟩
end
end Go.Proofs.YtokopegffeablaaDoor.T12
