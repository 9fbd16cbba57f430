/-
  The reference's Read says what the lines say. Condition: at most 1048576 bytes.
-/
import Derived.Test.YtnaeabfmgfipoaaGreatDoorTRParse4
import Derived.Test.YtnaeabfmgfipoaaGreatDoorBase5
namespace Go.Proofs.YtnaeabfmgfipoaaGreatDoor
open Go.RowKit Go.Extern.Stop Go.Stop Go.Extern

/-- What the reference's Read hands back. -/
def RRef (w : World) (r : List OpD ⊕ Nat) (e : Ending) (w' : World) : Prop := Keep w w' ∧ match r with
  | .inr q => e = .returned (.tuple #[.slice none 0 0, .int .i64 q])
  | .inl ds => ∃ v L, e = .returned (.tuple #[v, .int .i64 (-1)]) ∧ L.map (·.1) = ds ∧ OpsAt w' w.heap.size v L ∧ ∀ d ∈ ds, inRangeD d ∧ d.amounts.length ≤ 1048577
theorem RRef.bad {w w' : World} {r : List OpD ⊕ Nat} {q : Nat} (hr : r = .inr q) (k : Keep w w') : RRef w r (.returned (.tuple #[.slice none 0 0, .int .i64 q])) w' := by
  subst hr; exact ⟨k, rfl⟩
theorem RRef.good {w w' : World} {r : List OpD ⊕ Nat} {v : Value} {L : List (OpD × Value)} (hr : r = .inl (L.map (·.1))) (k : Keep w w') (h : OpsAt w' w.heap.size v L) (hd : ∀ d ∈ L.map (·.1), inRangeD d ∧ d.amounts.length ≤ 1048577) : RRef w r (.returned (.tuple #[v, .int .i64 (-1)])) w' := by
  subst hr; exact ⟨k, v, L, rfl, rfl, h, hd⟩
/-- The parts from the i-th place on, the current one begun at its place. -/
def prtFrom (c : Int) (s : ByteArray) : Nat → Nat → List ByteArray
  | 0, _ => []
  | g + 1, i => if cutC c s i then s.extract (frmC c s i) i :: prtFrom c s g (i + 1) else prtFrom c s g (i + 1)
theorem prt_split (c : Int) (s : ByteArray) : ∀ (g i : Nat), prtC c s (i + g) = prtC c s i ++ prtFrom c s g i
  | 0, i => by show prtC c s i = _; rw [prtFrom, List.append_nil]
  | g + 1, i => by
    have h := prt_split c s g (i + 1)
    rw [show i + (g + 1) = i + 1 + g by omega, h, prtFrom]
    cases hc : cutC c s i
    · rw [prtC_not hc]; rfl
    · rw [prtC_cut hc, List.append_assoc]; rfl
theorem splitC_from (c : Int) (s : ByteArray) : splitC c s = prtFrom c s (s.size + 1) 0 := by
  have h := prt_split c s (s.size + 1) 0
  rw [Nat.zero_add] at h
  exact h
theorem prtFrom_cut {c : Int} {s : ByteArray} {g i : Nat} (h : cutC c s i = true) : prtFrom c s (g + 1) i = s.extract (frmC c s i) i :: prtFrom c s g (i + 1) := by rw [prtFrom, if_pos h]
theorem prtFrom_not {c : Int} {s : ByteArray} {g i : Nat} (h : cutC c s i = false) : prtFrom c s (g + 1) i = prtFrom c s g (i + 1) := by rw [prtFrom, if_neg (by rw [h]; exact Bool.noConfusion)]
set_option maxRecDepth 100000 in
set_option maxHeartbeats 16000000 in
theorem rread_fn (s : ByteArray) (w : World) (hs : s.size ≤ 1048576) :
    Calls Tryz.prog 10 #[.string s] w (RRef w (readOf s)) := by
  obtain ⟨res, hres⟩ : ∃ res, res = readOf s := ⟨_, rfl⟩
  rw [← hres]
  have h0 : Hid (res = comb [] (readFrom 0 (prtFrom 10 s (s.size + 1) 0))) := by rw [comb_nil, ← splitC_from]; exact hres
  clear hres
  obtain ⟨i0, hi0, hz0, hz1, hz2⟩ := info_parts Tryz.infoOp
  go_enter Tryz.func10, Tryz.ntmps10
  go_wp2
  go_loopg [4, 5, 6, 7] (s.size + 1) (fun g ov nv fv iv wr => ∃ (j q : Nat) (v : Value) (L : List (OpD × Value)), j ≤ s.size + 1 ∧ g = s.size + 1 - j ∧ ov = v ∧ nv = .int .i64 q ∧ fv = .int .i64 (frmC 10 s j) ∧ iv = .int .i64 j ∧ Hid (Keep w wr) ∧ Hid (OpsAt wr w.heap.size v L) ∧ Hid (res = comb (L.map (·.1)) (readFrom q (prtFrom 10 s (s.size + 1 - j) j))) ∧ Hid (L.length ≤ q ∧ q ≤ j) ∧ Hid (∀ d ∈ L.map (·.1), inRangeD d ∧ d.amounts.length ≤ 1048577))
  case atStart => exact ⟨0, 0, .slice none 0 0, [], Nat.zero_le _, rfl, rfl, rfl, rfl, rfl, Keep.refl _, OpsAt.nil _ _, h0, ⟨Nat.le_refl _, Nat.le_refl _⟩, fun d hd => by cases hd⟩
  case round =>
    obtain ⟨j, q, v, L, hj, rfl, rfl, rfl, rfl, rfl, hk, hO, hR, hl, hD⟩ := hrel
    obtain ⟨wq, hwq⟩ : ∃ x, x = wr := ⟨_, rfl⟩
    subst hwq
    obtain ⟨A, cap, rfl⟩ := own_shape hO.out.row
    by_cases hle : j ≤ s.size
    · obtain ⟨G, hG⟩ : ∃ G, s.size + 1 - j = G + 1 := ⟨s.size - j, by omega⟩
      have hG2 : s.size + 1 - (j + 1) = G := by omega
      have hql := hl.out.2
      have hll := hl.out.1
      have hfl := frmC_le 10 s j
      cases hc : cutC 10 s j
      · have hn : ¬ (j = s.size ∨ byteAt s j = 10) := of_decide_eq_false hc
        have hjs : j < s.size := by omega
        have hix := index_at s j hjs
        have hb : (byteAt s j == 10) = false := beq_eq_false_iff_ne.2 (fun e => hn (Or.inr e))
        rw [hG, prtFrom_not hc] at hR
        have hR2 : Hid (res = comb (L.map (·.1)) (readFrom q (prtFrom 10 s (s.size + 1 - (j + 1)) (j + 1)))) := by rw [hG2]; exact hR
        have hfr := frmC_not hc
        replace hc := Lib.hid hc
        replace hn := Lib.hid hn
        replace hG := Lib.hid hG
        replace hG2 := Lib.hid hG2
        go_wp2
        go_roundg (s.size + 1 - (j + 1))
        case measure => omega
        case rel => exact ⟨j + 1, q, _, L, by omega, rfl, rfl, rfl, by rw [hfr], by go_num, hk, hO, hR2, ⟨hll, Nat.le_succ_of_le hql⟩, hD⟩
      · rw [hG, prtFrom_cut hc] at hR
        have hfr := frmC_cut hc
        have hcc : j = s.size ∨ byteAt s j = 10 := of_decide_eq_true hc
        have hsl := slice_mid s (frmC 10 s j) j hfl hle
        have hXs : (s.extract (frmC 10 s j) j).size ≤ s.size := by rw [ByteArray.size_extract]; omega
        obtain ⟨F, hF⟩ : ∃ F, F = frmC 10 s j := ⟨_, rfl⟩
        obtain ⟨X, hX⟩ : ∃ X, X = s.extract F j := ⟨_, rfl⟩
        rw [← hF] at hR hsl hXs hfl ⊢
        rw [← hX] at hR hsl hXs
        replace hF := Lib.hid hF
        replace hX := Lib.hid hX
        replace hc := Lib.hid hc
        replace hfr := Lib.hid hfr
        have hcond : (j < s.size ∧ byteAt s j = 10 ∧ ∀ W, (Instr.index 9 (.string s) (.int .i64 j)).run Tryz.prog W = .ok (.int .u8 10) W) ∨ (((j : Int) == (s.size : Int)) = true ∧ (j == s.size) = true ∧ decide (j = s.size) = true) := by
          have hend : j = s.size → (((j : Int) == (s.size : Int)) = true ∧ (j == s.size) = true ∧ decide (j = s.size) = true) := fun e => by
            rw [← e]
            exact ⟨beq_self_eq_true _, beq_self_eq_true _, decide_eq_true rfl⟩
          rcases hcc with h | h
          · exact Or.inr (hend h)
          · by_cases h2 : j = s.size
            · exact Or.inr (hend h2)
            · have h3 := index_at s j (by omega)
              rw [h] at h3
              exact Or.inl ⟨by omega, h, h3⟩
        have he := empty_iff X
        replace hcc := Lib.hid hcc
        by_cases hx0 : X.size = 0
        · have hsk : skipL X = true := decide_eq_true (Or.inl hx0)
          rw [comb_skip hsk] at hR
          have hR2 : Hid (res = comb (L.map (·.1)) (readFrom (q + 1) (prtFrom 10 s (s.size + 1 - (j + 1)) (j + 1)))) := by rw [hG2]; exact hR
          rw [decide_eq_true hx0] at he
          replace hG := Lib.hid hG
          replace hG2 := Lib.hid hG2
          rcases hcond with ⟨hjs, hbj, hix⟩ | ⟨hje, hje2, hje3⟩
          all_goals
            go_wp2
            go_roundg (s.size + 1 - (j + 1))
            case measure => omega
            case rel => exact ⟨j + 1, q + 1, _, L, by omega, rfl, rfl, by go_num, by rw [hfr.out]; go_num, by go_num, hk, hO, hR2, ⟨Nat.le_succ_of_le hll, Nat.succ_le_succ hql⟩, hD⟩
        · rw [decide_eq_false hx0] at he
          have hix0 : ∀ w, (Instr.index 9 (.string X) (.int .i64 0)).run Tryz.prog w = .ok (.int .u8 (byteAt X 0)) w := index_at X 0 (by omega)
          by_cases h35 : byteAt X 0 = 35
          · have hsk : skipL X = true := decide_eq_true (Or.inr h35)
            rw [comb_skip hsk] at hR
            have hR2 : Hid (res = comb (L.map (·.1)) (readFrom (q + 1) (prtFrom 10 s (s.size + 1 - (j + 1)) (j + 1)))) := by rw [hG2]; exact hR
            rw [h35] at hix0
            replace hG := Lib.hid hG
            replace hG2 := Lib.hid hG2
            rcases hcond with ⟨hjs, hbj, hix⟩ | ⟨hje, hje2, hje3⟩
            all_goals
              go_wp2
              go_roundg (s.size + 1 - (j + 1))
              case measure => omega
              case rel => exact ⟨j + 1, q + 1, _, L, by omega, rfl, rfl, by go_num, by rw [hfr.out]; go_num, by go_num, hk, hO, hR2, ⟨Nat.le_succ_of_le hll, Nat.succ_le_succ hql⟩, hD⟩
          · have hsk : skipL X = false := decide_eq_false (by rintro (e | e); exact hx0 e; exact h35 e)
            have hb35 : (byteAt X 0 == 35) = false := beq_eq_false_iff_ne.2 h35
            have hP := Lib.hid (rparse_fn X wq (by omega))
            cases hp : parseOf (wordsOf X) with
            | none =>
              rw [comb_bad hsk hp] at hR
              rw [hp] at hP
              clear hp
              replace hG := Lib.hid hG
              replace hG2 := Lib.hid hG2
              rcases hcond with ⟨hjs, hbj, hix⟩ | ⟨hje, hje2, hje3⟩
              all_goals
                go_wp2_with fail
                refine hP.out.mono ?_
                rintro e w2 ⟨k2, rfl⟩
                replace k2 := Lib.hid k2
                go_wp2
                go_ret2
                exact RRef.bad hR.out ((hk.out.trans k2.out).alloc _)
            | some d =>
              rw [comb_good hsk hp] at hR
              have hdr := parse_range hp
              have hwl : (wordsOf X).length ≤ X.size + 1 := wds_len X _
              rw [hp] at hP
              clear hp
              rcases hcond with ⟨hjs, hbj, hix⟩ | ⟨hje, hje2, hje3⟩
              all_goals
                go_wp2_with fail
                refine hP.out.mono ?_
                rintro e w2 ⟨k2, av, rfl, hav⟩
                obtain ⟨A2, cap2, rfl⟩ := own_shape hav
                have k3 := Lib.hid (hk.out.trans k2)
                have O3 := Lib.hid (hO.out.keep k2)
                have hav3 := Lib.hid (base_le hav hk.out.size)
                replace k2 := Lib.hid k2
                replace hav := Lib.hid hav
                have X0 := Box.new w2 (.int .i64 d.kind) (.int .i64 d.id) (.int .i64 d.cls) (.int .i64 d.n) (.bool d.flag) (.slice A2 d.amounts.length cap2)
                have e0 := X0.ce0
                have e1 := X0.ce1
                have e2 := X0.ce2
                have e3 := X0.ce3
                have e4 := X0.ce4
                have e5 := X0.ce5
                have kk : Keep w2 ((w2.alloc (.cells #[.int .i64 d.kind, .int .i64 d.id, .int .i64 d.cls, .int .i64 d.n, .bool d.flag, .slice A2 d.amounts.length cap2] 34)).alloc (.cells #[.int .i64 d.kind, .int .i64 d.id, .int .i64 d.cls, .int .i64 d.n, .bool d.flag, .slice A2 d.amounts.length cap2] 34)) := (Keep.one _ _).alloc _
                have O4 := Lib.hid (O3.out.keep kk)
                have hav4 := Lib.hid (own_keep hav3.out kk)
                have k4 := Lib.hid (k3.out.trans kk)
                have N1 := World.news_of_block (w := (w2.alloc (.cells #[.int .i64 d.kind, .int .i64 d.id, .int .i64 d.cls, .int .i64 d.n, .bool d.flag, .slice A2 d.amounts.length cap2] 34)).alloc (.cells #[.int .i64 d.kind, .int .i64 d.id, .int .i64 d.cls, .int .i64 d.n, .bool d.flag, .slice A2 d.amounts.length cap2] 34)) (heap_alloc_new (w2.alloc (.cells #[.int .i64 d.kind, .int .i64 d.id, .int .i64 d.cls, .int .i64 d.n, .bool d.flag, .slice A2 d.amounts.length cap2] 34)) _)
                rw [World.size_alloc] at N1
                replace N1 := Lib.hid N1
                have hsz := k3.out.size
                replace X0 := Lib.hid X0
                replace kk := Lib.hid kk
                go_wp2_with (at_builtin; refine wpList_append_lies _ rfl (.tmp 46) (.tmp 48) 23 rfl w.heap.size 34 i0 (.agg #[.int .i64 0, .int .i64 0, .int .i64 0, .int .i64 0, .bool false, .slice none 0 0]) 6 64 Tryz.underlying23 hi0 hz0 hz1 hz2 rfl (by decide) (.slice A L.length cap) L.length (opCs L) (by simp [Act.eval]) O4.out.row ⟨w2.heap.size + 1, 0, none⟩ 1 1 (opC (d, .slice A2 d.amounts.length cap2)) (by simp [Act.eval]) rfl N1.out (by intro u hu; simp [opC] at hu; rcases hu with rfl | rfl | rfl | rfl | rfl | rfl <;> rfl) (by omega) (by unfold maxLen; omega) (by omega) (by simp; omega) _ rfl ?_; intro g5 cap5 w5 hown5 hgrow5 hat5 hlt5; have O5 := Lib.hid (O4.out.more (p := (d, .slice A2 d.amounts.length cap2)) hav4.out hown5 hgrow5); have k5 := Lib.hid (keep_grown k4.out hgrow5 (fun g hg => (O4.out.row.lt g hg).1)); replace hown5 := Lib.hid hown5; replace hgrow5 := Lib.hid hgrow5; replace hat5 := Lib.hid hat5; replace hlt5 := Lib.hid hlt5)
                have hD2 : Hid (∀ d' ∈ (L ++ [(d, Value.slice A2 d.amounts.length cap2)]).map (·.1), inRangeD d' ∧ d'.amounts.length ≤ 1048577) := by
                  intro d' hd'
                  rw [List.map_append] at hd'
                  rcases List.mem_append.1 hd' with h | h
                  · exact hD.out d' h
                  · obtain rfl : d' = d := by simpa using h
                    exact ⟨hdr.1, by omega⟩
                have hR2 : Hid (res = comb ((L ++ [(d, Value.slice A2 d.amounts.length cap2)]).map (·.1)) (readFrom (q + 1) (prtFrom 10 s G (j + 1)))) := by
                  rw [List.map_append]
                  exact hR
                have hR3 : Hid (res = comb ((L ++ [(d, Value.slice A2 d.amounts.length cap2)]).map (·.1)) (readFrom (q + 1) (prtFrom 10 s (s.size + 1 - (j + 1)) (j + 1)))) := by rw [hG2]; exact hR2
                clear e0 e1 e2 e3 e4 e5
                go_roundg (s.size + 1 - (j + 1))
                case measure => omega
                case rel => exact ⟨j + 1, q + 1, _, L ++ [(d, .slice A2 d.amounts.length cap2)], by omega, rfl, rfl, by go_num, by rw [hfr.out]; go_num, by go_num, k5, O5, hR3, ⟨by rw [List.length_append]; exact Nat.succ_le_succ hll, Nat.succ_le_succ hql⟩, hD2⟩
    · obtain rfl : j = s.size + 1 := by omega
      have hgt : ¬ ((s.size + 1 : Nat) : Int) ≤ (s.size : Int) := by omega
      have hfin : Hid (res = .inl (L.map (·.1))) := by
        rw [hR.out, Nat.sub_self]
        show Sum.inl (L.map (·.1) ++ []) = _
        rw [List.append_nil]
      clear hj hle
      go_wp2
      go_ret2
      exact RRef.good hfin.out hk.out hO.out hD.out
end Go.Proofs.YtnaeabfmgfipoaaGreatDoor
