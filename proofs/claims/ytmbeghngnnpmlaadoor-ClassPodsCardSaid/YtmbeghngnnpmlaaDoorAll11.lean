/-
  The store of classes: All, Highest. Condition: at most 1000 classes.
-/
import Derived.Test.YtmbeghngnnpmlaaDoorCls11
import Derived.Test.YtmbeghngnnpmlaaDoorRAdd11
namespace Go.Proofs.YtmbeghngnnpmlaaDoor.T11
open Go.RowKit Go.Sort Go.Lib Go.Shelf

theorem srt_at {L : List ClV} (h : Srt L) {i j : Nat} (hij : i < j) (hj : j < L.length) : (row L i).k < (row L j).k := by
  have h1 := srt_keys.1 h
  unfold keys at h1
  rw [List.pairwise_map] at h1
  have := List.pairwise_iff_getElem.1 h1 i j (by omega) hj hij
  unfold row
  rw [List.getD_eq_getElem?_getD, List.getD_eq_getElem?_getD, List.getElem?_eq_getElem hj, List.getElem?_eq_getElem (by omega)]
  exact this
theorem get_row {L : List ClV} (h : Srt L) {j : Nat} (hj : j < L.length) : getL L (row L j).k = row L j := by
  have hm := row_mem hj
  obtain ⟨h1, h2⟩ := get_some (List.mem_map_of_mem (f := (·.k)) hm : (row L j).k ∈ keys L)
  obtain ⟨i, hi, e⟩ := List.getElem_of_mem h1
  have e2 : row L i = getL L (row L j).k := by
    unfold row
    rw [List.getD_eq_getElem?_getD, List.getElem?_eq_getElem hi]
    exact e
  rcases Nat.lt_trichotomy i j with h3 | h3 | h3
  · have := srt_at h h3 hj; rw [e2, h2] at this; omega
  · rw [← e2, h3]
  · have := srt_at h h3 hi; rw [e2, h2] at this; omega
theorem in_keys {L : List ClV} {j : Nat} (hj : j < L.length) : (row L j).k ∈ keys L := List.mem_map_of_mem (row_mem hj)
theorem atI (b off n cp j : Nat) (hj : j < n) (W : World) : (Instr.indexAt 67 (.slice (some ⟨b, off, none⟩) n cp) (.int .i64 j)).run Tryd.prog W = .ok (.pointer (some ⟨b, off + j, none⟩)) W := by
  go_simp
/-- Rows of different elements lie apart. -/
theorem own_apart {w w' : World} {b1 b2 n1 n2 z1 z2 : Nat} {e1 e2 : TypeId} {v1 v2 : Value} {xs ys : List Value} (h1 : w.ownsRow b1 e1 z1 v1 n1 xs) (h2 : w.ownsRow b2 e2 z2 v2 n2 ys) (he : e1 ≠ e2) (hg : w.grownBy w' v1.ownBlock) : w'.ownsRow b2 e2 z2 v2 n2 ys :=
  own_blocks1 h2 fun g hg2 => by
    refine hg.block g (h2.lt g hg2).2 ?_
    intro e
    rcases h1.2 with ⟨rfl, _⟩ | ⟨g1, c1, u1, rfl, _, k1, _⟩
    · simp [Value.ownBlock] at e
    · rcases h2.2 with ⟨rfl, _⟩ | ⟨g2, c2, u2, rfl, _, k2, _⟩
      · simp [Value.ownBlock] at hg2
      · simp [Value.ownBlock] at e hg2
        subst e hg2
        rw [k1] at k2
        simp at k2
        exact he k2.2
section
variable {w w' : World} {s : Int} {q p m : Nat} {L : List ClV}
theorem csall_nil (w : World) : Calls Tryd.prog 14 #[.pointer none] w fun e w' => e = .returned (.slice none 0 0) ∧ w = w' := by
  go_enter Tryd.func14, Tryd.ntmps14
  go_wp2
  go_ret
  exact ⟨rfl, rfl⟩
set_option maxRecDepth 100000 in
set_option maxHeartbeats 8000000 in
theorem csall_fn (h : SI w s q p m L) (hl : L.length ≤ 1000) : Calls Tryd.prog 14 #[.pointer (some ⟨q, 0, none⟩)] w fun e w' => ∃ B d, e = .returned (.slice B L.length d) ∧ Keep w w' ∧ w'.ownsRow w.heap.size 30 3 (.slice B L.length d) L.length (clCs (row L) L.length) := by
  obtain ⟨i0, hi0, hz0, hz1, hz2⟩ := info_parts Tryd.tyC11.info
  obtain ⟨wm, hmk, hown, hgm⟩ := Go.run_makeSlice_owned (P := Tryd.prog) (w := w) w.heap.size 22 30 i0 _ 3 Tryd.underlying22 hi0 hz0 hz1 .i64 .i64 L.length (by omega) (by rw [hz2]; omega) (by unfold maxLen; omega) (Nat.le_refl _)
  have km : Hid (Keep w wm) := keep_grown (Keep.refl w) hgm (fun g h => by cases h)
  have cL := Lib.hid (tlen_fn h.t)
  have cI := Lib.hid (tids_fn (h.t.keep km.out) hl)
  have cG : Hid (∀ W, Keep w W → ∀ j, j < L.length → Calls Tryd.prog 30 #[.pointer (some ⟨p, 0, none⟩), .int .i64 (row L j).k] W fun e w' => e = .returned (.tuple #[(row L j).val, .bool true]) ∧ Gr W w') := fun W k j hj => by
    have := tget_fn (h.t.keep k) (row L j).k
    rw [get_row h.t.srt hj, decide_eq_true (in_keys hj)] at this
    exact this
  have okL : Hid (∀ j, j < L.length → ClOk (row L j)) := fun j hj => h.t.ok _ (row_mem hj)
  have c0 := h.c0
  obtain ⟨n, hn⟩ : ∃ n, n = L.length := ⟨_, rfl⟩
  rw [← hn] at cL cI cG hmk hown okL hl ⊢
  replace hn := Lib.hid hn
  replace hgm := Lib.hid hgm
  replace hown := Lib.hid hown
  clear h
  go_enter Tryd.func14, Tryd.ntmps14
  go_wp2_with fail
  refine cL.out.mono ?_
  rintro e w1 ⟨rfl, rfl⟩
  have c1 := km.out.cell c0
  go_wp2_with fail
  refine cI.out.mono ?_
  rintro e w2 ⟨B, d, rfl, k2, O2⟩
  have K2 : Hid (Keep w w2) := km.out.trans k2
  have W2 : Hid (w2.ownsRow w.heap.size 30 3 (.slice (some ⟨w.heap.size, 0, none⟩) 0 n) 0 []) := own_keep hown.out k2
  have k2 := Lib.hid k2
  replace O2 := Lib.hid O2
  generalize wm.heap.size = b2 at O2
  clear cL cI c1 hmk
  obtain ⟨g, hg⟩ : ∃ g, g = w.heap.size := ⟨_, rfl⟩
  rw [← hg] at W2 ⊢
  have hg' := Lib.hid hg
  clear hg
  go_wp2
  go_loopg [3, 22] n (fun gx s3 s22 wr => ∃ (j : Nat) (B3 : Option Addr) (d3 : Nat), j ≤ n ∧ gx = n - j ∧ s22 = .int .i64 j ∧ s3 = .slice B3 j d3 ∧ Hid (Keep w wr) ∧ Hid (wr.ownsRow b2 3 1 (.slice B n d) n (zl (row L) n)) ∧ Hid (wr.ownsRow g 30 3 (.slice B3 j d3) j (clCs (row L) j)))
  case atStart => exact ⟨0, _, n, Nat.zero_le _, rfl, rfl, rfl, K2, O2, W2⟩
  case round =>
    clear W2 O2
    obtain ⟨j, B3, d3, hj, rfl, rfl, rfl, KR, OR, RW⟩ := hrel
    by_cases hlt : j < n
    · obtain ⟨b, off, hA, ca⟩ := (ids_rd OR.out (by omega) okL.out).adr (by omega)
      subst hA
      have q1 := atI b off n d j hlt
      have x0 := ca j hlt
      clear ca
      have c0 := KR.out.cell c0
      have cg := cG.out wr KR.out j hlt
      have hs : Hid (clCs (row L) (j + 1) = clCs (row L) j ++ (row L j).cells) := rfl
      have ho := okL.out j hlt
      obtain ⟨x, hx⟩ : ∃ x, x = row L j := ⟨_, rfl⟩
      rw [← hx] at x0 cg hs ho
      unfold ClV.val at cg
      replace hx := Lib.hid hx
      replace ho := Lib.hid ho
      replace cg := Lib.hid cg
      go_wp2_with fail
      refine cg.out.mono ?_
      rintro e w5 ⟨rfl, g5⟩
      have K5 : Hid (Keep w w5) := KR.out.trans g5.keep
      have O5 : Hid (w5.ownsRow b2 3 1 (.slice (some ⟨b, off, none⟩) n d) n (zl (row L) n)) := own_keep OR.out g5.keep
      have RW5 : Hid (w5.ownsRow g 30 3 (.slice B3 j d3) j (clCs (row L) j)) := own_keep RW.out g5.keep
      have sz : Hid (g ≤ w5.heap.size) := by show _ ≤ _; rw [hg'.out]; exact K5.out.size
      replace g5 := Lib.hid g5
      clear x0 q1 c0
      go_wp2_with (at_builtin; refine wpl_own Tryd.tyC11 rfl _ _ rfl g (.slice B3 j d3) j (clCs (row L) j) (by simp [Act.eval]) (own_keep RW5.out ((Keep.one _ _).alloc _)) (.slice (some ⟨w5.heap.size + 1, 0, none⟩) 1 1) 1 x.cells (by simp [Act.eval]) (src_one (hp2 _ _ _ _)) (cells_one _) (by omega) (by have := sz.out; simp; omega) (j + 1) rfl ?_; intro v6 w6 hr6 hg6)
      have O6 : Hid (w6.ownsRow b2 3 1 (.slice (some ⟨b, off, none⟩) n d) n (zl (row L) n)) := own_apart (own_keep RW5.out ((Keep.one _ _).alloc _)) (own_keep O5.out ((Keep.one _ _).alloc _)) (by decide) hg6
      have K6 : Hid (Keep w w6) := keep_grown (K5.out.trans ((Keep.one _ _).alloc _)) hg6 (fun y hy => by have := (RW5.out.lt y hy).1; rw [hg'.out] at this; exact this)
      obtain ⟨B6, d6, hB6, _⟩ := own_form hr6
      subst hB6
      rw [← hs.out] at hr6
      replace hr6 := Lib.hid hr6
      replace hg6 := Lib.hid hg6
      go_roundg (n - (j + 1))
      case measure => omega
      case rel => exact ⟨j + 1, B6, d6, hlt, rfl, by go_num, rfl, K6, O6, hr6⟩
    · obtain rfl : j = n := by omega
      go_wp2
      go_ret
      exact ⟨B3, d3, rfl, KR.out, by rw [← hg'.out]; exact RW.out⟩
end
end Go.Proofs.YtmbeghngnnpmlaaDoor.T11
