/-
  The reference's Parse says what the words say. Condition: at most 1048576 bytes.
-/
import Derived.Test.YtnaeabfmgfipoaaGreatDoorTRState4
import Derived.WalkMore
import Derived.Deep.LoopGhost
import Derived.Deep.AppendLies
import Derived.Deep.RegionLaw
import Derived.Deep.RegionHeld3
namespace Go.Proofs.YtnaeabfmgfipoaaGreatDoor
open Go.RowKit

theorem vals_snoc (l : List ByteArray) (y : ByteArray) : vals (l ++ [y]) = vals l ++ [valO (numOf y)] := by unfold vals; rw [List.map_append]; rfl
theorem oks_snoc (l : List ByteArray) (y : ByteArray) : oks (l ++ [y]) = (oks l && (numOf y).isSome) := by unfold oks; rw [List.all_append]; simp
theorem take_next {l : List ByteArray} {j : Nat} (h : j < l.length) : l.take (j + 1) = l.take j ++ [l[j]] := by rw [List.take_add_one, List.getElem?_eq_getElem h]; rfl
theorem oks_mem {l : List ByteArray} {y : ByteArray} (h : y ∈ l) (hn : numOf y = none) : oks l = false := by
  unfold oks
  rw [List.all_eq_false]
  exact ⟨y, h, by rw [hn]; decide⟩
theorem bind_none {l : List ByteArray} {g : List Int → Option OpD} (h : oks l = false) : (numsRead l).bind g = none := by rw [numsRead_eq, h]; rfl
theorem bind_some {l : List ByteArray} {g : List Int → Option OpD} (h : oks l = true) : (numsRead l).bind g = g (vals l) := by rw [numsRead_eq, h]; rfl
theorem build_no {k : Int} {f : Bool} {l : List Int} (h : l.length < need k ∨ (need k < l.length ∧ k ≠ 2 ∧ k ≠ 4)) : buildOp k f l = none := if_pos h
theorem build_yes {k : Int} {f : Bool} {l : List Int} (h : ¬ (l.length < need k ∨ (need k < l.length ∧ k ≠ 2 ∧ k ≠ 4))) : buildOp k f l = some ⟨k, if k ≤ 5 then l.getD 0 0 else 0, if k = 4 then l.getD 1 0 else 0, if k = 1 then l.getD 1 0 else if k = 4 then l.getD 2 0 else if k = 6 then l.getD 0 0 else 0, f, l.drop (need k)⟩ := if_neg h
theorem vals_getD (l : List ByteArray) (j : Nat) (h : j < l.length) : (vals l)[j]? = some ((vals l).getD j 0) := by
  rw [List.getD_eq_getElem?_getD, List.getElem?_eq_getElem (by rw [vals_len]; exact h)]
  rfl
theorem row_cap {w : World} {base n : Nat} {e : TypeId} {A : Option Addr} {cap : Nat} {xs : List Value} (h : w.ownsRow base e 1 (.slice A n cap) n xs) (hn : 0 < n) : n ≤ cap := by
  obtain ⟨_, h2⟩ := h
  rcases h2 with ⟨h0, h1⟩ | ⟨g, cap', cur, hv, hg, hh, hn2, hcap, _⟩
  · omega
  · injection hv with e1 e2 e3
    omega
theorem str_to3 (g cp : Nat) (h : 4 ≤ cp) (W : World) : (Instr.slice 49 (.slice (some ⟨g, 0, none⟩) 4 cp) none (some (.int .i64 3)) none).run Tryz.prog W = .ok (.slice (some ⟨g, 0, none⟩) 3 cp) W := by
  have hi : (Tryz.prog.info? 9).map (·.size) = some 1 := by kernel_rfl
  obtain ⟨i, hj, hz⟩ := Option.map_eq_some_iff.1 hi
  have he : Tryz.prog.elem 49 = 9 := by simp [Program.elem, Tryz.underlying49]
  rw [run_slice_h (ht := by rw [he]; exact Tryz.underlying49) (h0 := by decide) (h2 := by omega), he]
  have h0 : ¬ cp = 0 := by omega
  simp [sizeOf, typeInfo, hj, hz, Result.andThen, sliced, h0, Addr.add]
theorem yes_toList : yesW.toList = [121, 101, 115] := by decide +kernel
theorem no_toList : noW.toList = [110, 111] := by decide +kernel
def zeroD : OpD := ⟨0, 0, 0, 0, false, []⟩
/-- Which kind has been found among the first. -/
def Found (x : ByteArray) (j : Nat) (kv : Int) : Prop := (kv = 0 ∧ ∀ i : Nat, 1 ≤ i → i < j → kindNm i ≠ x) ∨ (1 ≤ kv ∧ kv < j ∧ kindNm kv = x)
theorem found_no {x : ByteArray} {j : Nat} {kv : Int} (h : Found x j kv) (hn : kindNm j ≠ x) : Found x (j + 1) kv := by
  rcases h with ⟨h1, h2⟩ | ⟨h1, h2, h3⟩
  · exact Or.inl ⟨h1, fun i a b => by
      by_cases he : i = j
      · rw [he]; exact hn
      · exact h2 i a (by omega)⟩
  · exact Or.inr ⟨h1, by omega, h3⟩
theorem found_yes {x : ByteArray} {j : Nat} (h1 : 1 ≤ j) (hn : kindNm j = x) : Found x (j + 1) j := Or.inr ⟨by omega, by omega, hn⟩
theorem found_end {x : ByteArray} {kv : Int} (h : Found x 8 kv) : kindOf x = kv := by
  rcases h with ⟨h1, h2⟩ | ⟨h1, h2, h3⟩
  · rw [h1]; exact kindOf_none h2
  · rw [← h3]; exact kindOf_name (by omega)

set_option maxRecDepth 100000 in
set_option maxHeartbeats 16000000 in
theorem rparse_fn (s : ByteArray) (w : World) (hs : s.size ≤ 1048576) :
    Calls Tryz.prog 27 #[.string s] w (PRes w (parseOf (wordsOf s))) := by
  obtain ⟨x, L, hw0⟩ : ∃ x L, wordsOf s = x :: L := by
    rw [words_split]
    exact ⟨_, _, split_take 32 s⟩
  have hwl : (wordsOf s).length ≤ s.size + 1 := wds_len s _
  have hwords := words_fn s
  rw [hw0] at hwords hwl
  rw [List.length_cons] at hwl
  have hwz : ∀ y ∈ x :: L, y.size ≤ 1048576 := by rw [← hw0]; exact fun y hy => Nat.le_trans (word_size s y hy) hs
  obtain ⟨res, hres⟩ : ∃ res, res = parseOf (wordsOf s) := ⟨_, rfl⟩
  rw [← hres]
  rw [hw0] at hres
  obtain ⟨i0, hi0, hz0, hz1, hz2⟩ := info_parts Tryz.infoI64
  obtain ⟨j0, hj0, hy0, hy1, hy2⟩ := info_parts Tryz.infoInt
  have hnum := fun y (hy : y ∈ x :: L) w' => rnumber_fn y w' (by have := hwz y hy; omega)
  replace hres := Lib.hid hres
  replace hw0 := Lib.hid hw0
  replace hwords := Lib.hid hwords
  replace hwz := Lib.hid hwz
  replace hnum := Lib.hid hnum
  go_enter Tryz.func27, Tryz.ntmps27
  go_wp2_with fail
  refine (hwords.out _ hs).mono ?_
  rintro e w1 ⟨v, rfl, k1, hown⟩
  obtain ⟨WA, wc, rfl⟩ := own_shape hown
  have hown2 := base_le (base' := w.heap.size) hown (by rw [World.size_alloc]; omega)
  have hsz1 := k1.size
  rw [World.size_alloc] at hsz1
  have K1 := (Keep.one w (.cells #[.int .i64 0, .int .i64 0, .int .i64 0, .int .i64 0, .bool false, .slice none 0 0] 34)).trans k1
  have R1 := (Box.new w (.int .i64 0) (.int .i64 0) (.int .i64 0) (.int .i64 0) (.bool false) (.slice none 0 0)).keep k1
  have O2 := Box.new w1 (.int .i64 0) (.int .i64 0) (.int .i64 0) (.int .i64 0) (.bool false) (.slice none 0 0)
  have k2 : Keep w1 (w1.alloc (.cells #[.int .i64 0, .int .i64 0, .int .i64 0, .int .i64 0, .bool false, .slice none 0 0] 34)) := Keep.one _ _
  have R2 := R1.keep k2
  have K2 := K1.trans k2
  have W2 := own_keep hown2 k2
  obtain ⟨w2, hw2⟩ : ∃ w2, w2 = w1.alloc (.cells #[.int .i64 0, .int .i64 0, .int .i64 0, .int .i64 0, .bool false, .slice none 0 0] 34) := ⟨_, rfl⟩
  obtain ⟨bo, hbo⟩ : ∃ bo, bo = w1.heap.size := ⟨_, rfl⟩
  obtain ⟨br, hbr⟩ : ∃ br, br = w.heap.size := ⟨_, rfl⟩
  rw [← hw2] at O2 R2 K2 W2
  rw [← hbo] at O2
  rw [← hbr] at R2 ⊢
  have P2 : Hid (RB w bo br zeroD (.slice none 0 0) w2) := ⟨O2, R2, World.ownsRow_nil _ _ _ _, K2, ⟨by omega, by omega⟩, by omega⟩
  have W2 : Hid (w2.ownsRow w.heap.size 9 1 (.slice WA (L.length + 1) wc) (L.length + 1) ((x :: L).map .string)) := W2
  replace hown := Lib.hid hown
  replace hown2 := Lib.hid hown2
  replace k1 := Lib.hid k1
  replace k2 := Lib.hid k2
  replace K1 := Lib.hid K1
  replace K2 := Lib.hid K2
  replace R1 := Lib.hid R1
  replace R2 := Lib.hid R2
  replace O2 := Lib.hid O2
  replace hw2 := Lib.hid hw2
  replace hbo := Lib.hid hbo
  replace hbr := Lib.hid hbr
  clear hsz1
  go_wp2_with fail
  rw [← hw2.out, ← hbo.out]
  go_loopg [6] (8) (fun g kv wr => ∃ (j : Nat) (kn : Int), 1 ≤ j ∧ j ≤ 8 ∧ g = 9 - j ∧ kv = .int .i64 j ∧ Hid (Found x j kn) ∧ Hid (RB w bo br { zeroD with kind := kn } (.slice none 0 0) wr) ∧ Hid (wr.ownsRow w.heap.size 9 1 (.slice WA (L.length + 1) wc) (L.length + 1) ((x :: L).map .string)))
  case atStart => exact ⟨1, 0, by omega, by omega, rfl, rfl, Or.inl ⟨rfl, fun i a b => by omega⟩, P2, W2⟩
  case round =>
    obtain ⟨j, kn, hj1, hj8, rfl, rfl, hF, hP, hW⟩ := hrel
    obtain ⟨wq, hwq⟩ : ∃ x, x = wr := ⟨_, rfl⟩
    subst hwq
    obtain ⟨gW, hgW, cw⟩ := row_at hW.out (j := 0) (u := .string x) rfl
    have hia : ∀ W : World, (Instr.indexAt 49 (.slice WA (L.length + 1) wc) (.int .i64 0)).run Tryz.prog W = .ok (.pointer (some ⟨gW, 0, none⟩)) W := str_at WA (L.length + 1) wc 0 gW hgW (by omega)
    by_cases hlt : j < 8
    · have hbe := bytes_eq (kindNm j) x
      by_cases hq : kindNm j = x
      · rw [decide_eq_true hq] at hbe
        have hF2 := Lib.hid (found_yes hj1 hq)
        replace hq := Lib.hid hq
        replace hgW := Lib.hid hgW
        go_wp2_with fail
        go_region_held3 (fun w' => w'.cell? ⟨gW, 0, none⟩ = some (.string x))
          (first | assumption | exact cw | exact M1.out.cell cw)
          (first
            | (go_at_call 36; refine (kind_rname j _).mono ?_; rintro e w5 ⟨rfl, k5⟩; have M1 : Hid (Keep wq w5) := (Keep.refl wq).drew.trans k5; replace k5 := Lib.hid k5))
        have P5 := Lib.hid (hP.out.kept M1.out)
        have W5 := Lib.hid (own_keep hW.out M1.out)
        have fr := P5.out.box.fr0
        have ce := P5.out.box.ce0
        have PN := Lib.hid (P5.out.kind (j : Int))
        have WN := Lib.hid (row_field W5.out P5.out (by decide) 0 (.int .i64 j))
        go_wp2
        go_roundg (9 - (j + 1))
        case measure => omega
        case rel => exact ⟨j + 1, j, by omega, by omega, rfl, by go_num, hF2, PN, WN⟩
      · rw [decide_eq_false hq] at hbe
        have hF2 := Lib.hid (found_no hF.out hq)
        replace hq := Lib.hid hq
        replace hgW := Lib.hid hgW
        go_wp2_with fail
        go_region_held3 (fun w' => w'.cell? ⟨gW, 0, none⟩ = some (.string x))
          (first | assumption | exact cw | exact M1.out.cell cw)
          (first
            | (go_at_call 36; refine (kind_rname j _).mono ?_; rintro e w5 ⟨rfl, k5⟩; have M1 : Hid (Keep wq w5) := (Keep.refl wq).drew.trans k5; replace k5 := Lib.hid k5))
        have P5 := Lib.hid (hP.out.kept M1.out)
        have W5 := Lib.hid (own_keep hW.out M1.out)
        go_wp2
        go_roundg (9 - (j + 1))
        case measure => omega
        case rel => exact ⟨j + 1, kn, by omega, by omega, rfl, by go_num, hF2, P5, W5⟩
    · obtain rfl : j = 8 := by omega
      have hκ := found_end hF.out
      clear cw hia hgW

      replace hF := Lib.hid hF
      have hrg := kindOf_range x
      rcases (show kn = 0 ∨ kn = 1 ∨ kn = 2 ∨ kn = 3 ∨ kn = 4 ∨ kn = 5 ∨ kn = 6 ∨ kn = 7 by omega) with rfl | rfl | rfl | rfl | rfl | rfl | rfl | rfl
      · have hn : Hid (res = none) := by rw [hres.out, parseOf, hκ, if_pos rfl]; rfl
        replace hκ := Lib.hid hκ
        have b0 := hP.out.box.ce0
        have r0 := hP.out.res.fr0
        have g0 := hP.out.res.ce0
        have r1 := hP.out.res.fr1
        have g1 := hP.out.res.ce1
        have r2 := hP.out.res.fr2
        have g2 := hP.out.res.ce2
        have r3 := hP.out.res.fr3
        have g3 := hP.out.res.ce3
        have r4 := hP.out.res.fr4
        have g4 := hP.out.res.ce4
        have r5 := hP.out.res.fr5
        have g5 := hP.out.res.ce5
        go_wp2
        obtain ⟨wE, hwE⟩ : ∃ wE, wE = set6 wq br (.int .i64 0) (.int .i64 0) (.int .i64 0) (.int .i64 0) (.bool false) (.slice none 0 0) := ⟨_, rfl⟩
        have E := hP.out.res.set6 (.int .i64 0) (.int .i64 0) (.int .i64 0) (.int .i64 0) (.bool false) (.slice none 0 0)
        have F := off_set6 wq br (.int .i64 0) (.int .i64 0) (.int .i64 0) (.int .i64 0) (.bool false) (.slice none 0 0)
        rw [← hwE] at E F
        unfold Go.Proofs.YtnaeabfmgfipoaaGreatDoor.set6 at hwE
        rw [← hwE]
        have e0 := E.ce0
        have e1 := E.ce1
        have e2 := E.ce2
        have e3 := E.ce3
        have e4 := E.ce4
        have e5 := E.ce5
        have KE := F.keep hP.out.keep (by have := hP.out.ge; rintro i rfl; exact this.2)
        refine bodyPost_ret (v := .tuple #[.agg #[.int .i64 0, .int .i64 0, .int .i64 0, .int .i64 0, .bool false, .slice none 0 0], .bool false]) (by simp [results, Tryz.results27, go_sem, e0, e1, e2, e3, e4, e5]) rfl (PRes.none hn.out KE)
      · have hres1 : Hid (res = if L.length ≠ 3 ∨ (L.getD 2 ⟨#[]⟩ ≠ yesW ∧ L.getD 2 ⟨#[]⟩ ≠ noW) then none else (numsRead (L.take 2)).bind (buildOp 1 (decide (L.getD 2 ⟨#[]⟩ = yesW)))) := by rw [hres.out, parseOf, hκ, if_neg (by decide), if_pos rfl]; rfl
        replace hκ := Lib.hid hκ
        obtain ⟨y, hy⟩ : ∃ y, (x :: L)[L.length]? = some y := ⟨_, List.getElem?_eq_getElem (by simp)⟩
        obtain ⟨gW, hgW, cw⟩ := row_at hW.out (j := L.length) (u := .string y) (by rw [List.getElem?_map, hy]; rfl)
        have hgo := hP.out.box.ce0
        by_cases h3 : L.length = 3
        · have e4 : L.length + 1 = 4 := by omega
          have hcap : 4 ≤ wc := by have := row_cap hW.out (by omega); omega
          have hyd : L.getD 2 ⟨#[]⟩ = y := by
            rw [h3, List.getElem?_cons_succ] at hy
            rw [List.getD_eq_getElem?_getD, hy]; rfl
          rw [hyd] at hres1
          rw [h3] at cw
          have hia : ∀ W : World, (Instr.indexAt 49 (.slice WA 4 wc) (.int .i64 3)).run Tryz.prog W = .ok (.pointer (some ⟨gW, 3, none⟩)) W := str_at WA 4 wc 3 gW hgW (by omega)
          have hsl : ∀ W : World, (Instr.slice 49 (.slice WA 4 wc) none (some (.int .i64 3)) none).run Tryz.prog W = .ok (.slice WA 3 wc) W := by
            rw [hgW]
            exact fun W => str_to3 gW wc hcap W
          rw [e4]
          obtain ⟨b1, hb1⟩ : ∃ b, b = decide (y = yesW) := ⟨_, rfl⟩
          obtain ⟨b2, hb2⟩ : ∃ b, b = decide (y = noW) := ⟨_, rfl⟩
          have q1 : (y.toList == [121, 101, 115]) = b1 := by rw [hb1, ← yes_toList]; exact bytes_eq y yesW
          have q2 : (y.toList == [110, 111]) = b2 := by rw [hb2, ← no_toList]; exact bytes_eq y noW
          replace hy := Lib.hid hy
          replace hyd := Lib.hid hyd
          replace hgW := Lib.hid hgW
          have hL2 : (L.take 2).length = 2 := by rw [List.length_take]; omega
          have two : b1 = true → b2 = false := by
            rintro rfl
            have e := of_decide_eq_true hb1.symm
            rw [hb2, e]
            decide +kernel
          by_cases hbb : b1 = false ∧ b2 = false
          · have hn : Hid (res = none) := hres1.out.trans (if_pos (Or.inr ⟨of_decide_eq_false (hb1.symm.trans hbb.1), of_decide_eq_false (hb2.symm.trans hbb.2)⟩))
            obtain ⟨rfl, rfl⟩ := hbb
            replace hb1 := Lib.hid hb1
            replace hb2 := Lib.hid hb2
            clear two
            have r0 := hP.out.res.fr0
            have g0 := hP.out.res.ce0
            have r1 := hP.out.res.fr1
            have g1 := hP.out.res.ce1
            have r2 := hP.out.res.fr2
            have g2 := hP.out.res.ce2
            have r3 := hP.out.res.fr3
            have g3 := hP.out.res.ce3
            have r4 := hP.out.res.fr4
            have g4 := hP.out.res.ce4
            have r5 := hP.out.res.fr5
            have g5 := hP.out.res.ce5
            go_wp2
            obtain ⟨wE, hwE⟩ : ∃ wE, wE = set6 wq br (.int .i64 0) (.int .i64 0) (.int .i64 0) (.int .i64 0) (.bool false) (.slice none 0 0) := ⟨_, rfl⟩
            have E := hP.out.res.set6 (.int .i64 0) (.int .i64 0) (.int .i64 0) (.int .i64 0) (.bool false) (.slice none 0 0)
            have F := off_set6 wq br (.int .i64 0) (.int .i64 0) (.int .i64 0) (.int .i64 0) (.bool false) (.slice none 0 0)
            rw [← hwE] at E F
            unfold Go.Proofs.YtnaeabfmgfipoaaGreatDoor.set6 at hwE
            rw [← hwE]
            have e0 := E.ce0
            have e1 := E.ce1
            have e2 := E.ce2
            have e3 := E.ce3
            have e4 := E.ce4
            have e5 := E.ce5
            have KE := F.keep hP.out.keep (by have := hP.out.ge; rintro i rfl; exact this.2)
            refine bodyPost_ret (v := .tuple #[.agg #[.int .i64 0, .int .i64 0, .int .i64 0, .int .i64 0, .bool false, .slice none 0 0], .bool false]) (by simp [results, Tryz.results27, go_sem, e0, e1, e2, e3, e4, e5]) rfl (PRes.none hn.out KE)
          · have hor : (b1 = true ∧ b2 = false) ∨ (b1 = false ∧ b2 = true) := by
              cases b1 <;> cases b2 <;> simp_all
            obtain ⟨fl, hfl⟩ : ∃ fl, fl = b1 := ⟨_, rfl⟩
            obtain ⟨Lp, hLpe⟩ : ∃ Lp, Lp = L.take 2 := ⟨_, rfl⟩
            have hres2 : Hid (res = (numsRead Lp).bind (buildOp 1 fl)) := by
              rw [hLpe, hfl, hb1]
              refine hres1.out.trans (if_neg ?_)
              rintro (e | ⟨ea, eb⟩)
              · exact e h3
              · rw [decide_eq_false ea] at hb1
                rw [decide_eq_false eb] at hb2
                exact hbb ⟨hb1, hb2⟩
            have hLp : Hid (∀ j (h : j < Lp.length), L[j]? = some Lp[j]) := by
              subst hLpe
              intro j h
              have hj2 : j < 2 := by rw [hL2] at h; exact h
              rw [← List.getElem?_eq_getElem h, List.getElem?_take, if_pos hj2]
            have hLl : Lp.length ≤ L.length ∧ Lp.length ≤ 1048577 ∧ Lp.length + 1 = 3 := by rw [hLpe, hL2]; omega
            replace hLpe := Lib.hid hLpe
            have PF := Lib.hid (hP.out.flag fl)
            have WF := Lib.hid (row_field hW.out hP.out (by decide) 4 (.bool fl))
            have f4 := hP.out.box.fr4
            have c4 := hP.out.box.ce4
            clear hP hW
            replace hb1 := Lib.hid hb1
            replace hb2 := Lib.hid hb2
            replace hbb := Lib.hid hbb
            replace e4 := Lib.hid e4
            replace hL2 := Lib.hid hL2
            clear two
            replace h3 := Lib.hid h3
            rw [← hfl] at q1
            rcases hor with ⟨ha, hb⟩ | ⟨ha, hb⟩
            · rw [← hfl] at ha
              rw [ha] at q1
              subst hb
              have hP : Hid (RB w bo br { zeroD with kind := 1, flag := fl } (.slice none 0 0) (wq.setCell ⟨bo, 4, none⟩ (.bool true))) := by rw [ha] at PF ⊢; exact PF
              have hW : Hid ((wq.setCell ⟨bo, 4, none⟩ (.bool true)).ownsRow w.heap.size 9 1 (.slice WA (L.length + 1) wc) (L.length + 1) ((x :: L).map .string)) := by rw [ha] at WF; exact WF
              clear PF WF
              replace ha := Lib.hid ha
              replace hfl := Lib.hid hfl
              go_wp2_with fail
              go_loopg [8, 9] (Lp.length) (fun g lv iv wr => ∃ (j : Nat) (v8 : Value), j ≤ Lp.length ∧ g = Lp.length - j ∧ lv = v8 ∧ iv = .int .i64 (j + 1) ∧ Hid (oks (Lp.take j) = true) ∧ Hid (RB w bo br { zeroD with kind := 1, flag := fl } (.slice none 0 0) wr) ∧ Hid (wr.ownsRow w.heap.size 9 1 (.slice WA (L.length + 1) wc) (L.length + 1) ((x :: L).map .string)) ∧ Hid (wr.ownsRow w.heap.size 3 1 v8 j ((vals (Lp.take j)).map (.int .i64))))
              case atStart => exact ⟨0, .slice none 0 0, Nat.zero_le _, rfl, rfl, rfl, rfl, hP, hW, World.ownsRow_nil _ _ _ _⟩
              case round =>
                obtain ⟨j, v8, hj, rfl, rfl, rfl, hok, hP2, hW2, hI⟩ := hrel
                obtain ⟨wx, hwx⟩ : ∃ x, x = wr := ⟨_, rfl⟩
                subst hwx
                obtain ⟨IA, ic, rfl⟩ := own_shape hI.out
                by_cases hlt : j < Lp.length
                · have hLj := hLp.out j hlt
                  have hjL : j < L.length := by have := hLl; have := h3.out; omega
                  obtain ⟨gW, hgW, cw⟩ := row_at hW2.out (j := j + 1) (u := .string Lp[j]) (by rw [List.map_cons, List.getElem?_cons_succ, List.getElem?_map, hLj]; rfl)
                  have hia : ∀ W : World, (Instr.indexAt 49 (.slice WA (3) wc) (.int .i64 (j + 1))).run Tryz.prog W = .ok (.pointer (some ⟨gW, j + 1, none⟩)) W := fun W => str_at WA (3) wc (j + 1) gW hgW (by omega) W
                  have hmem : Lp[j] ∈ x :: L := List.mem_cons_of_mem _ (List.mem_of_getElem? hLj)
                  have hnm := Lib.hid (hnum.out Lp[j] hmem wx)
                  have hmem2 := List.getElem_mem hlt
                  obtain ⟨y, hy⟩ : ∃ y, y = Lp[j] := ⟨_, rfl⟩
                  have hcur : ((j : Int) + 1 < (3 : Nat)) := by omega
                  have htk := take_next hlt
                  rw [← hy] at cw hnm hmem2 htk
                  replace hy := Lib.hid hy
                  replace hLj := Lib.hid hLj
                  replace hgW := Lib.hid hgW
                  obtain ⟨o, ho⟩ : ∃ o, o = numOf y := ⟨_, rfl⟩
                  rw [← ho] at hnm
                  go_wp2_with fail
                  refine hnm.out.mono ?_
                  rintro e w5 ⟨rfl, rfl⟩
                  cases o with
                  | none =>
                    have hn : Hid (res = none) := hres2.out.trans (bind_none (oks_mem hmem2 ho.symm))
                    replace hmem2 := Lib.hid hmem2
                    replace ho := Lib.hid ho
                    have r0 := hP2.out.res.fr0
                    have g0 := hP2.out.res.ce0
                    have r1 := hP2.out.res.fr1
                    have g1 := hP2.out.res.ce1
                    have r2 := hP2.out.res.fr2
                    have g2 := hP2.out.res.ce2
                    have r3 := hP2.out.res.fr3
                    have g3 := hP2.out.res.ce3
                    have r4 := hP2.out.res.fr4
                    have g4 := hP2.out.res.ce4
                    have r5 := hP2.out.res.fr5
                    have g5 := hP2.out.res.ce5
                    go_wp2
                    obtain ⟨wE, hwE⟩ : ∃ wE, wE = set6 wx br (.int .i64 0) (.int .i64 0) (.int .i64 0) (.int .i64 0) (.bool false) (.slice none 0 0) := ⟨_, rfl⟩
                    have E := hP2.out.res.set6 (.int .i64 0) (.int .i64 0) (.int .i64 0) (.int .i64 0) (.bool false) (.slice none 0 0)
                    have F := off_set6 wx br (.int .i64 0) (.int .i64 0) (.int .i64 0) (.int .i64 0) (.bool false) (.slice none 0 0)
                    rw [← hwE] at E F
                    unfold Go.Proofs.YtnaeabfmgfipoaaGreatDoor.set6 at hwE
                    rw [← hwE]
                    have e0 := E.ce0
                    have e1 := E.ce1
                    have e2 := E.ce2
                    have e3 := E.ce3
                    have e4 := E.ce4
                    have e5 := E.ce5
                    have KE := F.keep hP2.out.keep (by have := hP2.out.ge; rintro i rfl; exact this.2)
                    refine bodyPost_ret (v := .tuple #[.agg #[.int .i64 0, .int .i64 0, .int .i64 0, .int .i64 0, .bool false, .slice none 0 0], .bool false]) (by simp [results, Tryz.results27, go_sem, e0, e1, e2, e3, e4, e5]) rfl (PRes.none hn.out KE)
                  | some u =>
                    have hok2 : Hid (oks (Lp.take (j + 1)) = true) := by rw [htk, oks_snoc, hok.out, ← ho]; rfl
                    have hv2 : Hid (vals (Lp.take (j + 1)) = vals (Lp.take j) ++ [u]) := by rw [htk, vals_snoc, ← ho]; rfl
                    replace hmem2 := Lib.hid hmem2
                    replace ho := Lib.hid ho
                    replace htk := Lib.hid htk
                    have hIk := Lib.hid (own_keep hI.out (Keep.one wx (.cells #[.int .i64 u] 3)))
                    have hPk := Lib.hid (hP2.out.kept (Keep.one wx (.cells #[.int .i64 u] 3)))
                    have hWk := Lib.hid (own_keep hW2.out (Keep.one wx (.cells #[.int .i64 u] 3)))
                    have hsz := hP2.out.keep.size
                    have hjb : j ≤ 1048577 := by have := hLl; have := h3.out; omega
                    go_wp2_with (at_builtin; refine wpList_append_lies _ rfl (.tmp 76) (.tmp 78) 71 rfl w.heap.size 3 j0 (.int .i64 0) 1 8 Tryz.underlying71 hj0 hy0 hy1 hy2 rfl (by decide) (.slice IA j ic) j ((vals (Lp.take j)).map (.int .i64)) (by simp [Act.eval]) hIk.out ⟨wx.heap.size, 0, none⟩ 1 1 [.int .i64 u] (by simp [Act.eval]) rfl (cell_one_new _ _ _) (by intro q hq; simp at hq; subst hq; rfl) (by omega) (by unfold maxLen; omega) (by omega) (by simp; omega) _ rfl ?_; intro g6 cap6 w6 h6 hg6 ha6 hl6; have P6 := Lib.hid (hPk.out.grown hIk.out (Nat.le_refl _) (by decide) (by decide) hg6); have W6 := Lib.hid (hWk.out.kept hg6 (rows_apart hWk.out hIk.out (by decide))); replace h6 := Lib.hid h6; replace hg6 := Lib.hid hg6; replace ha6 := Lib.hid ha6; replace hl6 := Lib.hid hl6)
                    have I6 : Hid (w6.ownsRow w.heap.size 3 1 (.slice (some ⟨g6, 0, none⟩) (j + 1) cap6) (j + 1) ((vals (Lp.take (j + 1))).map (.int .i64))) := by rw [hv2.out, List.map_append]; exact h6.out
                    clear cw hia
                    go_roundg (Lp.length - (j + 1))
                    case measure => omega
                    case rel => exact ⟨j + 1, _, by omega, rfl, rfl, by go_num, hok2, P6, W6, I6⟩
                · obtain rfl : j = Lp.length := by omega
                  have hcur : ¬ ((Lp.length : Int) + 1 < (3 : Nat)) := by omega
                  rw [List.take_length] at hok hI
                  rw [bind_some hok.out] at hres2
                  clear hlt
                  have ka : Keep wx (wx.alloc (.cells #[.int .i64 0, .int .i64 2, .int .i64 1, .int .i64 1, .int .i64 3, .int .i64 1, .int .i64 1, .int .i64 0] 3)) := Keep.one _ _
                  have PA := Lib.hid (hP2.out.kept ka)
                  have IA0 := Lib.hid (own_keep hI.out ka)
                  have ckind : (wx.alloc (.cells #[.int .i64 0, .int .i64 2, .int .i64 1, .int .i64 1, .int .i64 3, .int .i64 1, .int .i64 1, .int .i64 0] 3)).cell? ⟨bo, 0, none⟩ = some (.int .i64 1) := PA.out.box.ce0
                  have cneed : (wx.alloc (.cells #[.int .i64 0, .int .i64 2, .int .i64 1, .int .i64 1, .int .i64 3, .int .i64 1, .int .i64 1, .int .i64 0] 3)).cell? ⟨wx.heap.size, 1, none⟩ = some (.int .i64 2) := by rw [cell_of_row _ wx.heap.size _ _ _ _ (heap_alloc_new wx _)]; rfl
                  have c00 := hP2.out.box.ce0
                  obtain ⟨wa, hwa⟩ : ∃ wa, wa = wx.alloc (.cells #[.int .i64 0, .int .i64 2, .int .i64 1, .int .i64 1, .int .i64 3, .int .i64 1, .int .i64 1, .int .i64 0] 3) := ⟨_, rfl⟩
                  replace ka := Lib.hid ka
                  have hml := hLl.2.1
                  by_cases h1 : Lp.length < 2
                  · exact absurd h1 (by have := hLl.2.2; omega)
                  · have hd1 : decide ((Lp.length : Int) < 2) = false := decide_eq_false (by omega)
                    by_cases h2 : 2 < Lp.length
                    · exact absurd h2 (by have := hLl.2.2; omega)
                    · have hd2 : decide ((Lp.length : Int) > 2) = false := decide_eq_false (by omega)
                      have hcond : ¬ ((vals Lp).length < need 1 ∨ (need 1 < (vals Lp).length ∧ (1 : Int) ≠ 2 ∧ (1 : Int) ≠ 4)) := by rw [vals_len]; show ¬ (Lp.length < 2 ∨ (2 < Lp.length ∧ _)); omega
                      obtain ⟨V0, hV0⟩ : ∃ V, V = (vals Lp).getD 0 0 := ⟨_, rfl⟩
                      have hvv0 := vals_getD Lp 0 (by omega)
                      rw [← hV0] at hvv0
                      obtain ⟨V1, hV1⟩ : ∃ V, V = (vals Lp).getD 1 0 := ⟨_, rfl⟩
                      have hvv1 := vals_getD Lp 1 (by omega)
                      rw [← hV1] at hvv1
                      have hres3 : Hid (res = some ⟨1, V0, 0, V1, fl, (vals Lp).drop 2⟩) := by
                        rw [hV0, hV1]
                        exact (hres2.out.trans (build_yes hcond)).trans rfl
                      replace hcond := Lib.hid hcond
                      replace hV0 := Lib.hid hV0
                      replace hvv0 := Lib.hid hvv0
                      replace hV1 := Lib.hid hV1
                      replace hvv1 := Lib.hid hvv1
                      obtain ⟨gI, hgI, _⟩ := row_at IA0.out (j := 0) (u := .int .i64 V0) (by rw [List.getElem?_map, hvv0.out]; rfl)
                      rw [← hwa] at PA IA0 ckind cneed
                      have pf0 := PA.out.box.fr1
                      have hix0 : ∀ W : World, (Instr.indexAt 71 (.slice IA Lp.length ic) (.int .i64 0)).run Tryz.prog W = .ok (.pointer (some ⟨gI, 0, none⟩)) W := int_at IA Lp.length ic 0 gI hgI (by omega)
                      have hix1 : ∀ W : World, (Instr.indexAt 71 (.slice IA Lp.length ic) (.int .i64 1)).run Tryz.prog W = .ok (.pointer (some ⟨gI, 1, none⟩)) W := int_at IA Lp.length ic 1 gI hgI (by omega)
                      have cv0 : (wa).cell? ⟨gI, 0, none⟩ = some (.int .i64 V0) := by
                        obtain ⟨g', e', c'⟩ := row_at IA0.out (j := 0) (u := .int .i64 V0) (by rw [List.getElem?_map, hvv0.out]; rfl)
                        rw [hgI] at e'
                        injection e' with e'
                        injection e' with e'
                        rw [e']
                        exact c'
                      have fz0 := PA.out.box.fr1
                      have gz0 := PA.out.box.ce1
                      have P_id := Lib.hid (PA.out.id V0)
                      have I_id := Lib.hid (row_field IA0.out PA.out (by decide) 1 (.int .i64 V0))
                      have k_id := P_id.out.box.ce0
                      have cv1 : ((wa).setCell ⟨bo, 1, none⟩ (.int .i64 V0)).cell? ⟨gI, 1, none⟩ = some (.int .i64 V1) := by
                        obtain ⟨g', e', c'⟩ := row_at I_id.out (j := 1) (u := .int .i64 V1) (by rw [List.getElem?_map, hvv1.out]; rfl)
                        rw [hgI] at e'
                        injection e' with e'
                        injection e' with e'
                        rw [e']
                        exact c'
                      have fz1 := P_id.out.box.fr3
                      have gz1 := P_id.out.box.ce3
                      have P_n := Lib.hid (P_id.out.n V1)
                      have I_n := Lib.hid (row_field I_id.out P_id.out (by decide) 3 (.int .i64 V1))
                      have k_n := P_n.out.box.ce0
                      have P9 : Hid (RB w bo br ⟨1, V0, 0, V1, fl, []⟩ (.slice none 0 0) (((wa).setCell ⟨bo, 1, none⟩ (.int .i64 V0)).setCell ⟨bo, 3, none⟩ (.int .i64 V1))) := P_n
                      rw [hwa] at ckind cneed pf0 cv0 fz0 gz0 k_id cv1 fz1 gz1 k_n
                      replace hgI := Lib.hid hgI
                      go_wp2_with fail
                      rw [← hwa]
                      clear ckind cneed pf0 c00 cv0 fz0 gz0 k_id cv1 fz1 gz1 k_n
                      obtain ⟨w9, hw9⟩ : ∃ w9, w9 = ((wa).setCell ⟨bo, 1, none⟩ (.int .i64 V0)).setCell ⟨bo, 3, none⟩ (.int .i64 V1) := ⟨_, rfl⟩
                      have I9 := I_n
                      rw [← hw9] at P9 I9 ⊢
                      replace hw9 := Lib.hid hw9
                      go_loopg [13] (Lp.length - 2) (fun g iv wr => ∃ (i : Nat) (av : Value), 2 ≤ i ∧ i ≤ Lp.length ∧ g = Lp.length - i ∧ iv = .int .i64 i ∧ Hid (RB w bo br ⟨1, V0, 0, V1, fl, ((vals Lp).take i).drop 2⟩ av wr) ∧ Hid (wr.ownsRow w.heap.size 3 1 (.slice IA Lp.length ic) Lp.length ((vals Lp).map (.int .i64))))
                      case atStart => exact ⟨2, .slice none 0 0, by omega, by omega, by omega, rfl, by
                        have e0 : ((vals Lp).take 2).drop 2 = [] := by rw [List.drop_eq_nil_iff]; rw [List.length_take]; omega
                        rw [e0]
                        exact P9, I9⟩
                      case round =>
                        obtain ⟨i, av, hi1, hi2, rfl, rfl, hP9, hI9⟩ := hrel
                        obtain ⟨wz, hwz'⟩ : ∃ x, x = wr := ⟨_, rfl⟩
                        subst hwz'
                        have hlenA : (((vals Lp).take i).drop 2).length = i - 2 := by rw [List.length_drop, List.length_take, vals_len]; omega
                        obtain ⟨A9, c9, rfl⟩ := own_shape hP9.out.own
                        by_cases hlt9 : i < Lp.length
                        · obtain ⟨g9, hg9, cv⟩ := row_at hI9.out (j := i) (u := .int .i64 ((vals Lp).getD i 0)) (by rw [List.getElem?_map, vals_getD Lp i hlt9]; rfl)
                          have hia := int_at IA Lp.length ic i g9 hg9 hlt9
                          have c5 := hP9.out.box.ce5
                          obtain ⟨V, hV⟩ : ∃ V, V = (vals Lp).getD i 0 := ⟨_, rfl⟩
                          rw [← hV] at cv
                          have hsnoc : Hid (((vals Lp).take (i + 1)).drop 2 = ((vals Lp).take i).drop 2 ++ [V]) := by
                            have h1 : (vals Lp).take (i + 1) = (vals Lp).take i ++ [V] := by
                              rw [List.take_add_one, vals_getD Lp i hlt9, ← hV]; rfl
                            rw [h1, List.drop_append_of_le_length (by rw [List.length_take, vals_len]; omega)]
                            rfl
                          obtain ⟨am, ham⟩ : ∃ am, am = ((vals Lp).take i).drop 2 := ⟨_, rfl⟩
                          rw [← ham] at hP9 hlenA c5 hsnoc
                          have hal : am.length ≤ 1048577 := by omega
                          replace hV := Lib.hid hV
                          replace ham := Lib.hid ham
                          replace hg9 := Lib.hid hg9
                          replace hlenA := Lib.hid hlenA
                          have hPk := Lib.hid ((hP9.out.kept (Keep.refl _).drew).kept (Keep.one _ (.cells #[.int .i64 V] 2)))
                          have c6 := (hP9.out.kept (Keep.one wz (.cells #[.int .i64 V] 2))).box.ce5
                          have hsz := hPk.out.keep.size
                          go_wp2_with fail
                          go_region_law (first
                            | (refine step_append_lies _ rfl (.tmp 146) (.tmp 151) 32 rfl w.heap.size 2 i0 (.int .i64 0) 1 8 Tryz.underlying32 hi0 hz0 hz1 hz2 rfl (by decide) (.slice A9 am.length c9) am.length (ints am) (by simp [Act.eval]) hPk.out.own ⟨wz.heap.size, 0, none⟩ 1 1 [.int .i64 V] (by simp [Act.eval]) rfl (cell_one_new _ _ _) (by intro u hu; simp at hu; subst hu; rfl) (by omega) (by unfold maxLen; omega) (by omega) hsz _ rfl ?_; intro g7 cap7 w7 hown7 hgrow7 hat7 hlt7; have fr7 := (hPk.out.grown_box hgrow7).fr5; have ce7 := (hPk.out.grown_box hgrow7).ce5; have P7 := Lib.hid (hPk.out.more hown7 hgrow7); have I7 := Lib.hid (row_box ((own_keep (own_keep hI9.out (Keep.refl _).drew) (Keep.one _ (.cells #[.int .i64 V] 2))).kept hgrow7 (rows_apart (own_keep (own_keep hI9.out (Keep.refl _).drew) (Keep.one _ (.cells #[.int .i64 V] 2))) hPk.out.own (by decide))) (hPk.out.grown_box hgrow7) (by decide) 5 (.slice (some ⟨g7, 0, none⟩) (am.length + 1) cap7)); replace hown7 := Lib.hid hown7; replace hgrow7 := Lib.hid hgrow7; replace hat7 := Lib.hid hat7; replace hlt7 := Lib.hid hlt7))
                          all_goals
                            go_wp2
                            go_roundg (Lp.length - (i + 1))
                            case measure => omega
                            case rel => exact ⟨i + 1, _, by omega, by omega, rfl, by go_num, by rw [hsnoc.out]; exact P7, I7⟩
                        · obtain rfl : i = Lp.length := by omega
                          have hall : (vals Lp).take Lp.length = vals Lp := List.take_of_length_le (by rw [vals_len]; omega)
                          rw [hall] at hP9 hlenA
                          replace hlenA := Lib.hid hlenA
                          obtain ⟨am, ham⟩ : ∃ am, am = (vals Lp).drop 2 := ⟨_, rfl⟩
                          rw [← ham] at hP9 hres3
                          replace ham := Lib.hid ham
                          have q0 := hP9.out.box.ce0
                          have q1 := hP9.out.box.ce1
                          have q2 := hP9.out.box.ce2
                          have q3 := hP9.out.box.ce3
                          have q4 := hP9.out.box.ce4
                          have q5 := hP9.out.box.ce5
                          have r0 := hP9.out.res.fr0
                          have g0 := hP9.out.res.ce0
                          have r1 := hP9.out.res.fr1
                          have g1 := hP9.out.res.ce1
                          have r2 := hP9.out.res.fr2
                          have g2 := hP9.out.res.ce2
                          have r3 := hP9.out.res.fr3
                          have g3 := hP9.out.res.ce3
                          have r4 := hP9.out.res.fr4
                          have g4 := hP9.out.res.ce4
                          have r5 := hP9.out.res.fr5
                          have g5 := hP9.out.res.ce5
                          go_wp2
                          obtain ⟨wE, hwE⟩ : ∃ wE, wE = set6 wz br (.int .i64 1) (.int .i64 V0) (.int .i64 0) (.int .i64 V1) (.bool fl) (.slice A9 am.length c9) := ⟨_, rfl⟩
                          have E := hP9.out.res.set6 (.int .i64 1) (.int .i64 V0) (.int .i64 0) (.int .i64 V1) (.bool fl) (.slice A9 am.length c9)
                          have F := off_set6 wz br (.int .i64 1) (.int .i64 V0) (.int .i64 0) (.int .i64 V1) (.bool fl) (.slice A9 am.length c9)
                          rw [← hwE] at E F
                          unfold Go.Proofs.YtnaeabfmgfipoaaGreatDoor.set6 at hwE
                          rw [← hwE]
                          have e0 := E.ce0
                          have e1 := E.ce1
                          have e2 := E.ce2
                          have e3 := E.ce3
                          have e4 := E.ce4
                          have e5 := E.ce5
                          have KE := F.keep hP9.out.keep (by have := hP9.out.ge; rintro i rfl; exact this.2)
                          refine bodyPost_ret (v := .tuple #[.agg #[.int .i64 1, .int .i64 V0, .int .i64 0, .int .i64 V1, .bool fl, .slice A9 am.length c9], .bool true]) (by simp [results, Tryz.results27, go_sem, e0, e1, e2, e3, e4, e5]) rfl (PRes.some hres3.out KE (F.own hP9.out.own (fun k hk e => hP9.out.notl k hk (Or.inr e))))
            · rw [← hfl] at ha
              rw [ha] at q1
              subst hb
              have hP : Hid (RB w bo br { zeroD with kind := 1, flag := fl } (.slice none 0 0) (wq.setCell ⟨bo, 4, none⟩ (.bool false))) := by rw [ha] at PF ⊢; exact PF
              have hW : Hid ((wq.setCell ⟨bo, 4, none⟩ (.bool false)).ownsRow w.heap.size 9 1 (.slice WA (L.length + 1) wc) (L.length + 1) ((x :: L).map .string)) := by rw [ha] at WF; exact WF
              clear PF WF
              replace ha := Lib.hid ha
              replace hfl := Lib.hid hfl
              go_wp2_with fail
              go_loopg [8, 9] (Lp.length) (fun g lv iv wr => ∃ (j : Nat) (v8 : Value), j ≤ Lp.length ∧ g = Lp.length - j ∧ lv = v8 ∧ iv = .int .i64 (j + 1) ∧ Hid (oks (Lp.take j) = true) ∧ Hid (RB w bo br { zeroD with kind := 1, flag := fl } (.slice none 0 0) wr) ∧ Hid (wr.ownsRow w.heap.size 9 1 (.slice WA (L.length + 1) wc) (L.length + 1) ((x :: L).map .string)) ∧ Hid (wr.ownsRow w.heap.size 3 1 v8 j ((vals (Lp.take j)).map (.int .i64))))
              case atStart => exact ⟨0, .slice none 0 0, Nat.zero_le _, rfl, rfl, rfl, rfl, hP, hW, World.ownsRow_nil _ _ _ _⟩
              case round =>
                obtain ⟨j, v8, hj, rfl, rfl, rfl, hok, hP2, hW2, hI⟩ := hrel
                obtain ⟨wx, hwx⟩ : ∃ x, x = wr := ⟨_, rfl⟩
                subst hwx
                obtain ⟨IA, ic, rfl⟩ := own_shape hI.out
                by_cases hlt : j < Lp.length
                · have hLj := hLp.out j hlt
                  have hjL : j < L.length := by have := hLl; have := h3.out; omega
                  obtain ⟨gW, hgW, cw⟩ := row_at hW2.out (j := j + 1) (u := .string Lp[j]) (by rw [List.map_cons, List.getElem?_cons_succ, List.getElem?_map, hLj]; rfl)
                  have hia : ∀ W : World, (Instr.indexAt 49 (.slice WA (3) wc) (.int .i64 (j + 1))).run Tryz.prog W = .ok (.pointer (some ⟨gW, j + 1, none⟩)) W := fun W => str_at WA (3) wc (j + 1) gW hgW (by omega) W
                  have hmem : Lp[j] ∈ x :: L := List.mem_cons_of_mem _ (List.mem_of_getElem? hLj)
                  have hnm := Lib.hid (hnum.out Lp[j] hmem wx)
                  have hmem2 := List.getElem_mem hlt
                  obtain ⟨y, hy⟩ : ∃ y, y = Lp[j] := ⟨_, rfl⟩
                  have hcur : ((j : Int) + 1 < (3 : Nat)) := by omega
                  have htk := take_next hlt
                  rw [← hy] at cw hnm hmem2 htk
                  replace hy := Lib.hid hy
                  replace hLj := Lib.hid hLj
                  replace hgW := Lib.hid hgW
                  obtain ⟨o, ho⟩ : ∃ o, o = numOf y := ⟨_, rfl⟩
                  rw [← ho] at hnm
                  go_wp2_with fail
                  refine hnm.out.mono ?_
                  rintro e w5 ⟨rfl, rfl⟩
                  cases o with
                  | none =>
                    have hn : Hid (res = none) := hres2.out.trans (bind_none (oks_mem hmem2 ho.symm))
                    replace hmem2 := Lib.hid hmem2
                    replace ho := Lib.hid ho
                    have r0 := hP2.out.res.fr0
                    have g0 := hP2.out.res.ce0
                    have r1 := hP2.out.res.fr1
                    have g1 := hP2.out.res.ce1
                    have r2 := hP2.out.res.fr2
                    have g2 := hP2.out.res.ce2
                    have r3 := hP2.out.res.fr3
                    have g3 := hP2.out.res.ce3
                    have r4 := hP2.out.res.fr4
                    have g4 := hP2.out.res.ce4
                    have r5 := hP2.out.res.fr5
                    have g5 := hP2.out.res.ce5
                    go_wp2
                    obtain ⟨wE, hwE⟩ : ∃ wE, wE = set6 wx br (.int .i64 0) (.int .i64 0) (.int .i64 0) (.int .i64 0) (.bool false) (.slice none 0 0) := ⟨_, rfl⟩
                    have E := hP2.out.res.set6 (.int .i64 0) (.int .i64 0) (.int .i64 0) (.int .i64 0) (.bool false) (.slice none 0 0)
                    have F := off_set6 wx br (.int .i64 0) (.int .i64 0) (.int .i64 0) (.int .i64 0) (.bool false) (.slice none 0 0)
                    rw [← hwE] at E F
                    unfold Go.Proofs.YtnaeabfmgfipoaaGreatDoor.set6 at hwE
                    rw [← hwE]
                    have e0 := E.ce0
                    have e1 := E.ce1
                    have e2 := E.ce2
                    have e3 := E.ce3
                    have e4 := E.ce4
                    have e5 := E.ce5
                    have KE := F.keep hP2.out.keep (by have := hP2.out.ge; rintro i rfl; exact this.2)
                    refine bodyPost_ret (v := .tuple #[.agg #[.int .i64 0, .int .i64 0, .int .i64 0, .int .i64 0, .bool false, .slice none 0 0], .bool false]) (by simp [results, Tryz.results27, go_sem, e0, e1, e2, e3, e4, e5]) rfl (PRes.none hn.out KE)
                  | some u =>
                    have hok2 : Hid (oks (Lp.take (j + 1)) = true) := by rw [htk, oks_snoc, hok.out, ← ho]; rfl
                    have hv2 : Hid (vals (Lp.take (j + 1)) = vals (Lp.take j) ++ [u]) := by rw [htk, vals_snoc, ← ho]; rfl
                    replace hmem2 := Lib.hid hmem2
                    replace ho := Lib.hid ho
                    replace htk := Lib.hid htk
                    have hIk := Lib.hid (own_keep hI.out (Keep.one wx (.cells #[.int .i64 u] 3)))
                    have hPk := Lib.hid (hP2.out.kept (Keep.one wx (.cells #[.int .i64 u] 3)))
                    have hWk := Lib.hid (own_keep hW2.out (Keep.one wx (.cells #[.int .i64 u] 3)))
                    have hsz := hP2.out.keep.size
                    have hjb : j ≤ 1048577 := by have := hLl; have := h3.out; omega
                    go_wp2_with (at_builtin; refine wpList_append_lies _ rfl (.tmp 76) (.tmp 78) 71 rfl w.heap.size 3 j0 (.int .i64 0) 1 8 Tryz.underlying71 hj0 hy0 hy1 hy2 rfl (by decide) (.slice IA j ic) j ((vals (Lp.take j)).map (.int .i64)) (by simp [Act.eval]) hIk.out ⟨wx.heap.size, 0, none⟩ 1 1 [.int .i64 u] (by simp [Act.eval]) rfl (cell_one_new _ _ _) (by intro q hq; simp at hq; subst hq; rfl) (by omega) (by unfold maxLen; omega) (by omega) (by simp; omega) _ rfl ?_; intro g6 cap6 w6 h6 hg6 ha6 hl6; have P6 := Lib.hid (hPk.out.grown hIk.out (Nat.le_refl _) (by decide) (by decide) hg6); have W6 := Lib.hid (hWk.out.kept hg6 (rows_apart hWk.out hIk.out (by decide))); replace h6 := Lib.hid h6; replace hg6 := Lib.hid hg6; replace ha6 := Lib.hid ha6; replace hl6 := Lib.hid hl6)
                    have I6 : Hid (w6.ownsRow w.heap.size 3 1 (.slice (some ⟨g6, 0, none⟩) (j + 1) cap6) (j + 1) ((vals (Lp.take (j + 1))).map (.int .i64))) := by rw [hv2.out, List.map_append]; exact h6.out
                    clear cw hia
                    go_roundg (Lp.length - (j + 1))
                    case measure => omega
                    case rel => exact ⟨j + 1, _, by omega, rfl, rfl, by go_num, hok2, P6, W6, I6⟩
                · obtain rfl : j = Lp.length := by omega
                  have hcur : ¬ ((Lp.length : Int) + 1 < (3 : Nat)) := by omega
                  rw [List.take_length] at hok hI
                  rw [bind_some hok.out] at hres2
                  clear hlt
                  have ka : Keep wx (wx.alloc (.cells #[.int .i64 0, .int .i64 2, .int .i64 1, .int .i64 1, .int .i64 3, .int .i64 1, .int .i64 1, .int .i64 0] 3)) := Keep.one _ _
                  have PA := Lib.hid (hP2.out.kept ka)
                  have IA0 := Lib.hid (own_keep hI.out ka)
                  have ckind : (wx.alloc (.cells #[.int .i64 0, .int .i64 2, .int .i64 1, .int .i64 1, .int .i64 3, .int .i64 1, .int .i64 1, .int .i64 0] 3)).cell? ⟨bo, 0, none⟩ = some (.int .i64 1) := PA.out.box.ce0
                  have cneed : (wx.alloc (.cells #[.int .i64 0, .int .i64 2, .int .i64 1, .int .i64 1, .int .i64 3, .int .i64 1, .int .i64 1, .int .i64 0] 3)).cell? ⟨wx.heap.size, 1, none⟩ = some (.int .i64 2) := by rw [cell_of_row _ wx.heap.size _ _ _ _ (heap_alloc_new wx _)]; rfl
                  have c00 := hP2.out.box.ce0
                  obtain ⟨wa, hwa⟩ : ∃ wa, wa = wx.alloc (.cells #[.int .i64 0, .int .i64 2, .int .i64 1, .int .i64 1, .int .i64 3, .int .i64 1, .int .i64 1, .int .i64 0] 3) := ⟨_, rfl⟩
                  replace ka := Lib.hid ka
                  have hml := hLl.2.1
                  by_cases h1 : Lp.length < 2
                  · exact absurd h1 (by have := hLl.2.2; omega)
                  · have hd1 : decide ((Lp.length : Int) < 2) = false := decide_eq_false (by omega)
                    by_cases h2 : 2 < Lp.length
                    · exact absurd h2 (by have := hLl.2.2; omega)
                    · have hd2 : decide ((Lp.length : Int) > 2) = false := decide_eq_false (by omega)
                      have hcond : ¬ ((vals Lp).length < need 1 ∨ (need 1 < (vals Lp).length ∧ (1 : Int) ≠ 2 ∧ (1 : Int) ≠ 4)) := by rw [vals_len]; show ¬ (Lp.length < 2 ∨ (2 < Lp.length ∧ _)); omega
                      obtain ⟨V0, hV0⟩ : ∃ V, V = (vals Lp).getD 0 0 := ⟨_, rfl⟩
                      have hvv0 := vals_getD Lp 0 (by omega)
                      rw [← hV0] at hvv0
                      obtain ⟨V1, hV1⟩ : ∃ V, V = (vals Lp).getD 1 0 := ⟨_, rfl⟩
                      have hvv1 := vals_getD Lp 1 (by omega)
                      rw [← hV1] at hvv1
                      have hres3 : Hid (res = some ⟨1, V0, 0, V1, fl, (vals Lp).drop 2⟩) := by
                        rw [hV0, hV1]
                        exact (hres2.out.trans (build_yes hcond)).trans rfl
                      replace hcond := Lib.hid hcond
                      replace hV0 := Lib.hid hV0
                      replace hvv0 := Lib.hid hvv0
                      replace hV1 := Lib.hid hV1
                      replace hvv1 := Lib.hid hvv1
                      obtain ⟨gI, hgI, _⟩ := row_at IA0.out (j := 0) (u := .int .i64 V0) (by rw [List.getElem?_map, hvv0.out]; rfl)
                      rw [← hwa] at PA IA0 ckind cneed
                      have pf0 := PA.out.box.fr1
                      have hix0 : ∀ W : World, (Instr.indexAt 71 (.slice IA Lp.length ic) (.int .i64 0)).run Tryz.prog W = .ok (.pointer (some ⟨gI, 0, none⟩)) W := int_at IA Lp.length ic 0 gI hgI (by omega)
                      have hix1 : ∀ W : World, (Instr.indexAt 71 (.slice IA Lp.length ic) (.int .i64 1)).run Tryz.prog W = .ok (.pointer (some ⟨gI, 1, none⟩)) W := int_at IA Lp.length ic 1 gI hgI (by omega)
                      have cv0 : (wa).cell? ⟨gI, 0, none⟩ = some (.int .i64 V0) := by
                        obtain ⟨g', e', c'⟩ := row_at IA0.out (j := 0) (u := .int .i64 V0) (by rw [List.getElem?_map, hvv0.out]; rfl)
                        rw [hgI] at e'
                        injection e' with e'
                        injection e' with e'
                        rw [e']
                        exact c'
                      have fz0 := PA.out.box.fr1
                      have gz0 := PA.out.box.ce1
                      have P_id := Lib.hid (PA.out.id V0)
                      have I_id := Lib.hid (row_field IA0.out PA.out (by decide) 1 (.int .i64 V0))
                      have k_id := P_id.out.box.ce0
                      have cv1 : ((wa).setCell ⟨bo, 1, none⟩ (.int .i64 V0)).cell? ⟨gI, 1, none⟩ = some (.int .i64 V1) := by
                        obtain ⟨g', e', c'⟩ := row_at I_id.out (j := 1) (u := .int .i64 V1) (by rw [List.getElem?_map, hvv1.out]; rfl)
                        rw [hgI] at e'
                        injection e' with e'
                        injection e' with e'
                        rw [e']
                        exact c'
                      have fz1 := P_id.out.box.fr3
                      have gz1 := P_id.out.box.ce3
                      have P_n := Lib.hid (P_id.out.n V1)
                      have I_n := Lib.hid (row_field I_id.out P_id.out (by decide) 3 (.int .i64 V1))
                      have k_n := P_n.out.box.ce0
                      have P9 : Hid (RB w bo br ⟨1, V0, 0, V1, fl, []⟩ (.slice none 0 0) (((wa).setCell ⟨bo, 1, none⟩ (.int .i64 V0)).setCell ⟨bo, 3, none⟩ (.int .i64 V1))) := P_n
                      rw [hwa] at ckind cneed pf0 cv0 fz0 gz0 k_id cv1 fz1 gz1 k_n
                      replace hgI := Lib.hid hgI
                      go_wp2_with fail
                      rw [← hwa]
                      clear ckind cneed pf0 c00 cv0 fz0 gz0 k_id cv1 fz1 gz1 k_n
                      obtain ⟨w9, hw9⟩ : ∃ w9, w9 = ((wa).setCell ⟨bo, 1, none⟩ (.int .i64 V0)).setCell ⟨bo, 3, none⟩ (.int .i64 V1) := ⟨_, rfl⟩
                      have I9 := I_n
                      rw [← hw9] at P9 I9 ⊢
                      replace hw9 := Lib.hid hw9
                      go_loopg [13] (Lp.length - 2) (fun g iv wr => ∃ (i : Nat) (av : Value), 2 ≤ i ∧ i ≤ Lp.length ∧ g = Lp.length - i ∧ iv = .int .i64 i ∧ Hid (RB w bo br ⟨1, V0, 0, V1, fl, ((vals Lp).take i).drop 2⟩ av wr) ∧ Hid (wr.ownsRow w.heap.size 3 1 (.slice IA Lp.length ic) Lp.length ((vals Lp).map (.int .i64))))
                      case atStart => exact ⟨2, .slice none 0 0, by omega, by omega, by omega, rfl, by
                        have e0 : ((vals Lp).take 2).drop 2 = [] := by rw [List.drop_eq_nil_iff]; rw [List.length_take]; omega
                        rw [e0]
                        exact P9, I9⟩
                      case round =>
                        obtain ⟨i, av, hi1, hi2, rfl, rfl, hP9, hI9⟩ := hrel
                        obtain ⟨wz, hwz'⟩ : ∃ x, x = wr := ⟨_, rfl⟩
                        subst hwz'
                        have hlenA : (((vals Lp).take i).drop 2).length = i - 2 := by rw [List.length_drop, List.length_take, vals_len]; omega
                        obtain ⟨A9, c9, rfl⟩ := own_shape hP9.out.own
                        by_cases hlt9 : i < Lp.length
                        · obtain ⟨g9, hg9, cv⟩ := row_at hI9.out (j := i) (u := .int .i64 ((vals Lp).getD i 0)) (by rw [List.getElem?_map, vals_getD Lp i hlt9]; rfl)
                          have hia := int_at IA Lp.length ic i g9 hg9 hlt9
                          have c5 := hP9.out.box.ce5
                          obtain ⟨V, hV⟩ : ∃ V, V = (vals Lp).getD i 0 := ⟨_, rfl⟩
                          rw [← hV] at cv
                          have hsnoc : Hid (((vals Lp).take (i + 1)).drop 2 = ((vals Lp).take i).drop 2 ++ [V]) := by
                            have h1 : (vals Lp).take (i + 1) = (vals Lp).take i ++ [V] := by
                              rw [List.take_add_one, vals_getD Lp i hlt9, ← hV]; rfl
                            rw [h1, List.drop_append_of_le_length (by rw [List.length_take, vals_len]; omega)]
                            rfl
                          obtain ⟨am, ham⟩ : ∃ am, am = ((vals Lp).take i).drop 2 := ⟨_, rfl⟩
                          rw [← ham] at hP9 hlenA c5 hsnoc
                          have hal : am.length ≤ 1048577 := by omega
                          replace hV := Lib.hid hV
                          replace ham := Lib.hid ham
                          replace hg9 := Lib.hid hg9
                          replace hlenA := Lib.hid hlenA
                          have hPk := Lib.hid ((hP9.out.kept (Keep.refl _).drew).kept (Keep.one _ (.cells #[.int .i64 V] 2)))
                          have c6 := (hP9.out.kept (Keep.one wz (.cells #[.int .i64 V] 2))).box.ce5
                          have hsz := hPk.out.keep.size
                          go_wp2_with fail
                          go_region_law (first
                            | (refine step_append_lies _ rfl (.tmp 146) (.tmp 151) 32 rfl w.heap.size 2 i0 (.int .i64 0) 1 8 Tryz.underlying32 hi0 hz0 hz1 hz2 rfl (by decide) (.slice A9 am.length c9) am.length (ints am) (by simp [Act.eval]) hPk.out.own ⟨wz.heap.size, 0, none⟩ 1 1 [.int .i64 V] (by simp [Act.eval]) rfl (cell_one_new _ _ _) (by intro u hu; simp at hu; subst hu; rfl) (by omega) (by unfold maxLen; omega) (by omega) hsz _ rfl ?_; intro g7 cap7 w7 hown7 hgrow7 hat7 hlt7; have fr7 := (hPk.out.grown_box hgrow7).fr5; have ce7 := (hPk.out.grown_box hgrow7).ce5; have P7 := Lib.hid (hPk.out.more hown7 hgrow7); have I7 := Lib.hid (row_box ((own_keep (own_keep hI9.out (Keep.refl _).drew) (Keep.one _ (.cells #[.int .i64 V] 2))).kept hgrow7 (rows_apart (own_keep (own_keep hI9.out (Keep.refl _).drew) (Keep.one _ (.cells #[.int .i64 V] 2))) hPk.out.own (by decide))) (hPk.out.grown_box hgrow7) (by decide) 5 (.slice (some ⟨g7, 0, none⟩) (am.length + 1) cap7)); replace hown7 := Lib.hid hown7; replace hgrow7 := Lib.hid hgrow7; replace hat7 := Lib.hid hat7; replace hlt7 := Lib.hid hlt7))
                          all_goals
                            go_wp2
                            go_roundg (Lp.length - (i + 1))
                            case measure => omega
                            case rel => exact ⟨i + 1, _, by omega, by omega, rfl, by go_num, by rw [hsnoc.out]; exact P7, I7⟩
                        · obtain rfl : i = Lp.length := by omega
                          have hall : (vals Lp).take Lp.length = vals Lp := List.take_of_length_le (by rw [vals_len]; omega)
                          rw [hall] at hP9 hlenA
                          replace hlenA := Lib.hid hlenA
                          obtain ⟨am, ham⟩ : ∃ am, am = (vals Lp).drop 2 := ⟨_, rfl⟩
                          rw [← ham] at hP9 hres3
                          replace ham := Lib.hid ham
                          have q0 := hP9.out.box.ce0
                          have q1 := hP9.out.box.ce1
                          have q2 := hP9.out.box.ce2
                          have q3 := hP9.out.box.ce3
                          have q4 := hP9.out.box.ce4
                          have q5 := hP9.out.box.ce5
                          have r0 := hP9.out.res.fr0
                          have g0 := hP9.out.res.ce0
                          have r1 := hP9.out.res.fr1
                          have g1 := hP9.out.res.ce1
                          have r2 := hP9.out.res.fr2
                          have g2 := hP9.out.res.ce2
                          have r3 := hP9.out.res.fr3
                          have g3 := hP9.out.res.ce3
                          have r4 := hP9.out.res.fr4
                          have g4 := hP9.out.res.ce4
                          have r5 := hP9.out.res.fr5
                          have g5 := hP9.out.res.ce5
                          go_wp2
                          obtain ⟨wE, hwE⟩ : ∃ wE, wE = set6 wz br (.int .i64 1) (.int .i64 V0) (.int .i64 0) (.int .i64 V1) (.bool fl) (.slice A9 am.length c9) := ⟨_, rfl⟩
                          have E := hP9.out.res.set6 (.int .i64 1) (.int .i64 V0) (.int .i64 0) (.int .i64 V1) (.bool fl) (.slice A9 am.length c9)
                          have F := off_set6 wz br (.int .i64 1) (.int .i64 V0) (.int .i64 0) (.int .i64 V1) (.bool fl) (.slice A9 am.length c9)
                          rw [← hwE] at E F
                          unfold Go.Proofs.YtnaeabfmgfipoaaGreatDoor.set6 at hwE
                          rw [← hwE]
                          have e0 := E.ce0
                          have e1 := E.ce1
                          have e2 := E.ce2
                          have e3 := E.ce3
                          have e4 := E.ce4
                          have e5 := E.ce5
                          have KE := F.keep hP9.out.keep (by have := hP9.out.ge; rintro i rfl; exact this.2)
                          refine bodyPost_ret (v := .tuple #[.agg #[.int .i64 1, .int .i64 V0, .int .i64 0, .int .i64 V1, .bool fl, .slice A9 am.length c9], .bool true]) (by simp [results, Tryz.results27, go_sem, e0, e1, e2, e3, e4, e5]) rfl (PRes.some hres3.out KE (F.own hP9.out.own (fun k hk e => hP9.out.notl k hk (Or.inr e))))
        · have hn : Hid (res = none) := hres1.out.trans (if_pos (Or.inl h3))
          obtain ⟨NL, hNL⟩ : ∃ n : Nat, n = L.length + 1 := ⟨_, rfl⟩
          have hN1 : 1 ≤ NL := by omega
          have hNm : NL ≤ 1048577 := by omega
          have hcs : ((L.length : Nat) : Int) = (NL : Int) - 1 := by omega
          have hia : ∀ W : World, (Instr.indexAt 49 (.slice WA NL wc) (.int .i64 ((NL : Int) - 1))).run Tryz.prog W = .ok (.pointer (some ⟨gW, L.length, none⟩)) W := by
            rw [← hcs]
            exact str_at WA NL wc L.length gW hgW (by omega)
          have hne : ((NL : Int) != 4) = true := bne_iff_ne.2 (by omega)
          rw [← hNL]
          replace hcs := Lib.hid hcs
          replace hNL := Lib.hid hNL
          replace hy := Lib.hid hy
          replace hgW := Lib.hid hgW
          have r0 := hP.out.res.fr0
          have g0 := hP.out.res.ce0
          have r1 := hP.out.res.fr1
          have g1 := hP.out.res.ce1
          have r2 := hP.out.res.fr2
          have g2 := hP.out.res.ce2
          have r3 := hP.out.res.fr3
          have g3 := hP.out.res.ce3
          have r4 := hP.out.res.fr4
          have g4 := hP.out.res.ce4
          have r5 := hP.out.res.fr5
          have g5 := hP.out.res.ce5
          go_wp2
          obtain ⟨wE, hwE⟩ : ∃ wE, wE = set6 wq br (.int .i64 0) (.int .i64 0) (.int .i64 0) (.int .i64 0) (.bool false) (.slice none 0 0) := ⟨_, rfl⟩
          have E := hP.out.res.set6 (.int .i64 0) (.int .i64 0) (.int .i64 0) (.int .i64 0) (.bool false) (.slice none 0 0)
          have F := off_set6 wq br (.int .i64 0) (.int .i64 0) (.int .i64 0) (.int .i64 0) (.bool false) (.slice none 0 0)
          rw [← hwE] at E F
          unfold Go.Proofs.YtnaeabfmgfipoaaGreatDoor.set6 at hwE
          rw [← hwE]
          have e0 := E.ce0
          have e1 := E.ce1
          have e2 := E.ce2
          have e3 := E.ce3
          have e4 := E.ce4
          have e5 := E.ce5
          have KE := F.keep hP.out.keep (by have := hP.out.ge; rintro i rfl; exact this.2)
          refine bodyPost_ret (v := .tuple #[.agg #[.int .i64 0, .int .i64 0, .int .i64 0, .int .i64 0, .bool false, .slice none 0 0], .bool false]) (by simp [results, Tryz.results27, go_sem, e0, e1, e2, e3, e4, e5]) rfl (PRes.none hn.out KE)
      · obtain ⟨Lp, hLpe⟩ : ∃ Lp, Lp = L := ⟨_, rfl⟩
        obtain ⟨fl, hfl⟩ : ∃ fl, fl = false := ⟨_, rfl⟩
        have hres2 : Hid (res = (numsRead Lp).bind (buildOp 2 fl)) := by rw [hres.out, parseOf, hκ, if_neg (by omega), if_neg (by omega), hLpe, hfl]; rfl
        have hLp : Hid (∀ j (h : j < Lp.length), L[j]? = some Lp[j]) := by subst hLpe; exact fun j h => List.getElem?_eq_getElem h
        have hLl : Lp.length ≤ L.length ∧ Lp.length ≤ 1048577 ∧ Lp.length + 1 = L.length + 1 := by subst hLpe; exact ⟨Nat.le_refl _, by omega, rfl⟩
        replace hκ := Lib.hid hκ
        replace hLpe := Lib.hid hLpe
        have hP : Hid (RB w bo br { zeroD with kind := 2, flag := fl } (.slice none 0 0) wq) := by rw [hfl]; exact hP
        replace hfl := Lib.hid hfl
        have b0 := hP.out.box.ce0

        go_wp2_with fail
        go_loopg [8, 9] (Lp.length) (fun g lv iv wr => ∃ (j : Nat) (v8 : Value), j ≤ Lp.length ∧ g = Lp.length - j ∧ lv = v8 ∧ iv = .int .i64 (j + 1) ∧ Hid (oks (Lp.take j) = true) ∧ Hid (RB w bo br { zeroD with kind := 2, flag := fl } (.slice none 0 0) wr) ∧ Hid (wr.ownsRow w.heap.size 9 1 (.slice WA (L.length + 1) wc) (L.length + 1) ((x :: L).map .string)) ∧ Hid (wr.ownsRow w.heap.size 3 1 v8 j ((vals (Lp.take j)).map (.int .i64))))
        case atStart => exact ⟨0, .slice none 0 0, Nat.zero_le _, rfl, rfl, rfl, rfl, hP, hW, World.ownsRow_nil _ _ _ _⟩
        case round =>
          obtain ⟨j, v8, hj, rfl, rfl, rfl, hok, hP2, hW2, hI⟩ := hrel
          obtain ⟨wx, hwx⟩ : ∃ x, x = wr := ⟨_, rfl⟩
          subst hwx
          obtain ⟨IA, ic, rfl⟩ := own_shape hI.out
          by_cases hlt : j < Lp.length
          · have hLj := hLp.out j hlt
            have hjL : j < L.length := by have := hLl; omega
            obtain ⟨gW, hgW, cw⟩ := row_at hW2.out (j := j + 1) (u := .string Lp[j]) (by rw [List.map_cons, List.getElem?_cons_succ, List.getElem?_map, hLj]; rfl)
            have hia : ∀ W : World, (Instr.indexAt 49 (.slice WA (L.length + 1) wc) (.int .i64 (j + 1))).run Tryz.prog W = .ok (.pointer (some ⟨gW, j + 1, none⟩)) W := fun W => str_at WA (L.length + 1) wc (j + 1) gW hgW (by omega) W
            have hmem : Lp[j] ∈ x :: L := List.mem_cons_of_mem _ (List.mem_of_getElem? hLj)
            have hnm := Lib.hid (hnum.out Lp[j] hmem wx)
            have hmem2 := List.getElem_mem hlt
            obtain ⟨y, hy⟩ : ∃ y, y = Lp[j] := ⟨_, rfl⟩
            have hcur : ((j : Int) + 1 < (L.length + 1 : Nat)) := by omega
            have htk := take_next hlt
            rw [← hy] at cw hnm hmem2 htk
            replace hy := Lib.hid hy
            replace hLj := Lib.hid hLj
            replace hgW := Lib.hid hgW
            obtain ⟨o, ho⟩ : ∃ o, o = numOf y := ⟨_, rfl⟩
            rw [← ho] at hnm
            go_wp2_with fail
            refine hnm.out.mono ?_
            rintro e w5 ⟨rfl, rfl⟩
            cases o with
            | none =>
              have hn : Hid (res = none) := hres2.out.trans (bind_none (oks_mem hmem2 ho.symm))
              replace hmem2 := Lib.hid hmem2
              replace ho := Lib.hid ho
              have r0 := hP2.out.res.fr0
              have g0 := hP2.out.res.ce0
              have r1 := hP2.out.res.fr1
              have g1 := hP2.out.res.ce1
              have r2 := hP2.out.res.fr2
              have g2 := hP2.out.res.ce2
              have r3 := hP2.out.res.fr3
              have g3 := hP2.out.res.ce3
              have r4 := hP2.out.res.fr4
              have g4 := hP2.out.res.ce4
              have r5 := hP2.out.res.fr5
              have g5 := hP2.out.res.ce5
              go_wp2
              obtain ⟨wE, hwE⟩ : ∃ wE, wE = set6 wx br (.int .i64 0) (.int .i64 0) (.int .i64 0) (.int .i64 0) (.bool false) (.slice none 0 0) := ⟨_, rfl⟩
              have E := hP2.out.res.set6 (.int .i64 0) (.int .i64 0) (.int .i64 0) (.int .i64 0) (.bool false) (.slice none 0 0)
              have F := off_set6 wx br (.int .i64 0) (.int .i64 0) (.int .i64 0) (.int .i64 0) (.bool false) (.slice none 0 0)
              rw [← hwE] at E F
              unfold Go.Proofs.YtnaeabfmgfipoaaGreatDoor.set6 at hwE
              rw [← hwE]
              have e0 := E.ce0
              have e1 := E.ce1
              have e2 := E.ce2
              have e3 := E.ce3
              have e4 := E.ce4
              have e5 := E.ce5
              have KE := F.keep hP2.out.keep (by have := hP2.out.ge; rintro i rfl; exact this.2)
              refine bodyPost_ret (v := .tuple #[.agg #[.int .i64 0, .int .i64 0, .int .i64 0, .int .i64 0, .bool false, .slice none 0 0], .bool false]) (by simp [results, Tryz.results27, go_sem, e0, e1, e2, e3, e4, e5]) rfl (PRes.none hn.out KE)
            | some u =>
              have hok2 : Hid (oks (Lp.take (j + 1)) = true) := by rw [htk, oks_snoc, hok.out, ← ho]; rfl
              have hv2 : Hid (vals (Lp.take (j + 1)) = vals (Lp.take j) ++ [u]) := by rw [htk, vals_snoc, ← ho]; rfl
              replace hmem2 := Lib.hid hmem2
              replace ho := Lib.hid ho
              replace htk := Lib.hid htk
              have hIk := Lib.hid (own_keep hI.out (Keep.one wx (.cells #[.int .i64 u] 3)))
              have hPk := Lib.hid (hP2.out.kept (Keep.one wx (.cells #[.int .i64 u] 3)))
              have hWk := Lib.hid (own_keep hW2.out (Keep.one wx (.cells #[.int .i64 u] 3)))
              have hsz := hP2.out.keep.size
              have hjb : j ≤ 1048577 := by have := hLl; omega
              go_wp2_with (at_builtin; refine wpList_append_lies _ rfl (.tmp 76) (.tmp 78) 71 rfl w.heap.size 3 j0 (.int .i64 0) 1 8 Tryz.underlying71 hj0 hy0 hy1 hy2 rfl (by decide) (.slice IA j ic) j ((vals (Lp.take j)).map (.int .i64)) (by simp [Act.eval]) hIk.out ⟨wx.heap.size, 0, none⟩ 1 1 [.int .i64 u] (by simp [Act.eval]) rfl (cell_one_new _ _ _) (by intro q hq; simp at hq; subst hq; rfl) (by omega) (by unfold maxLen; omega) (by omega) (by simp; omega) _ rfl ?_; intro g6 cap6 w6 h6 hg6 ha6 hl6; have P6 := Lib.hid (hPk.out.grown hIk.out (Nat.le_refl _) (by decide) (by decide) hg6); have W6 := Lib.hid (hWk.out.kept hg6 (rows_apart hWk.out hIk.out (by decide))); replace h6 := Lib.hid h6; replace hg6 := Lib.hid hg6; replace ha6 := Lib.hid ha6; replace hl6 := Lib.hid hl6)
              have I6 : Hid (w6.ownsRow w.heap.size 3 1 (.slice (some ⟨g6, 0, none⟩) (j + 1) cap6) (j + 1) ((vals (Lp.take (j + 1))).map (.int .i64))) := by rw [hv2.out, List.map_append]; exact h6.out
              clear cw hia
              go_roundg (Lp.length - (j + 1))
              case measure => omega
              case rel => exact ⟨j + 1, _, by omega, rfl, rfl, by go_num, hok2, P6, W6, I6⟩
          · obtain rfl : j = Lp.length := by omega
            have hcur : ¬ ((Lp.length : Int) + 1 < (L.length + 1 : Nat)) := by omega
            rw [List.take_length] at hok hI
            rw [bind_some hok.out] at hres2
            clear hlt
            have ka : Keep wx (wx.alloc (.cells #[.int .i64 0, .int .i64 2, .int .i64 1, .int .i64 1, .int .i64 3, .int .i64 1, .int .i64 1, .int .i64 0] 3)) := Keep.one _ _
            have PA := Lib.hid (hP2.out.kept ka)
            have IA0 := Lib.hid (own_keep hI.out ka)
            have ckind : (wx.alloc (.cells #[.int .i64 0, .int .i64 2, .int .i64 1, .int .i64 1, .int .i64 3, .int .i64 1, .int .i64 1, .int .i64 0] 3)).cell? ⟨bo, 0, none⟩ = some (.int .i64 2) := PA.out.box.ce0
            have cneed : (wx.alloc (.cells #[.int .i64 0, .int .i64 2, .int .i64 1, .int .i64 1, .int .i64 3, .int .i64 1, .int .i64 1, .int .i64 0] 3)).cell? ⟨wx.heap.size, 2, none⟩ = some (.int .i64 1) := by rw [cell_of_row _ wx.heap.size _ _ _ _ (heap_alloc_new wx _)]; rfl
            have c00 := hP2.out.box.ce0
            obtain ⟨wa, hwa⟩ : ∃ wa, wa = wx.alloc (.cells #[.int .i64 0, .int .i64 2, .int .i64 1, .int .i64 1, .int .i64 3, .int .i64 1, .int .i64 1, .int .i64 0] 3) := ⟨_, rfl⟩
            replace ka := Lib.hid ka
            have hml := hLl.2.1
            by_cases h1 : Lp.length < 1
            · have hn : Hid (res = none) := hres2.out.trans (build_no (by rw [vals_len]; left; show Lp.length < 1; exact h1))
              have hd1 : decide ((Lp.length : Int) < 1) = true := decide_eq_true (by omega)
              have r0 := PA.out.res.fr0
              have g0 := PA.out.res.ce0
              have r1 := PA.out.res.fr1
              have g1 := PA.out.res.ce1
              have r2 := PA.out.res.fr2
              have g2 := PA.out.res.ce2
              have r3 := PA.out.res.fr3
              have g3 := PA.out.res.ce3
              have r4 := PA.out.res.fr4
              have g4 := PA.out.res.ce4
              have r5 := PA.out.res.fr5
              have g5 := PA.out.res.ce5
              go_wp2
              obtain ⟨wE, hwE⟩ : ∃ wE, wE = set6 (wx.alloc (.cells #[.int .i64 0, .int .i64 2, .int .i64 1, .int .i64 1, .int .i64 3, .int .i64 1, .int .i64 1, .int .i64 0] 3)) br (.int .i64 0) (.int .i64 0) (.int .i64 0) (.int .i64 0) (.bool false) (.slice none 0 0) := ⟨_, rfl⟩
              have E := PA.out.res.set6 (.int .i64 0) (.int .i64 0) (.int .i64 0) (.int .i64 0) (.bool false) (.slice none 0 0)
              have F := off_set6 (wx.alloc (.cells #[.int .i64 0, .int .i64 2, .int .i64 1, .int .i64 1, .int .i64 3, .int .i64 1, .int .i64 1, .int .i64 0] 3)) br (.int .i64 0) (.int .i64 0) (.int .i64 0) (.int .i64 0) (.bool false) (.slice none 0 0)
              rw [← hwE] at E F
              unfold Go.Proofs.YtnaeabfmgfipoaaGreatDoor.set6 at hwE
              rw [← hwE]
              have e0 := E.ce0
              have e1 := E.ce1
              have e2 := E.ce2
              have e3 := E.ce3
              have e4 := E.ce4
              have e5 := E.ce5
              have KE := F.keep PA.out.keep (by have := PA.out.ge; rintro i rfl; exact this.2)
              refine bodyPost_ret (v := .tuple #[.agg #[.int .i64 0, .int .i64 0, .int .i64 0, .int .i64 0, .bool false, .slice none 0 0], .bool false]) (by simp [results, Tryz.results27, go_sem, e0, e1, e2, e3, e4, e5]) rfl (PRes.none hn.out KE)
            · have hd1 : decide ((Lp.length : Int) < 1) = false := decide_eq_false (by omega)
              have hcond : ¬ ((vals Lp).length < need 2 ∨ (need 2 < (vals Lp).length ∧ (2 : Int) ≠ 2 ∧ (2 : Int) ≠ 4)) := by rw [vals_len]; show ¬ (Lp.length < 1 ∨ (1 < Lp.length ∧ _)); omega
              rcases Nat.lt_or_ge 1 Lp.length with h2 | h2
              case' inl => have hd2 : decide ((Lp.length : Int) > 1) = true := decide_eq_true (by omega)
              case' inr => have hd2 : decide ((Lp.length : Int) > 1) = false := decide_eq_false (by omega)
              all_goals
                obtain ⟨V0, hV0⟩ : ∃ V, V = (vals Lp).getD 0 0 := ⟨_, rfl⟩
                have hvv0 := vals_getD Lp 0 (by omega)
                rw [← hV0] at hvv0
                have hres3 : Hid (res = some ⟨2, V0, 0, 0, fl, (vals Lp).drop 1⟩) := by
                  rw [hV0]
                  exact (hres2.out.trans (build_yes hcond)).trans rfl
                replace hcond := Lib.hid hcond
                replace hV0 := Lib.hid hV0
                replace hvv0 := Lib.hid hvv0
                obtain ⟨gI, hgI, _⟩ := row_at IA0.out (j := 0) (u := .int .i64 V0) (by rw [List.getElem?_map, hvv0.out]; rfl)
                rw [← hwa] at PA IA0 ckind cneed
                have pf0 := PA.out.box.fr1
                have hix0 : ∀ W : World, (Instr.indexAt 71 (.slice IA Lp.length ic) (.int .i64 0)).run Tryz.prog W = .ok (.pointer (some ⟨gI, 0, none⟩)) W := int_at IA Lp.length ic 0 gI hgI (by omega)
                have cv0 : (wa).cell? ⟨gI, 0, none⟩ = some (.int .i64 V0) := by
                  obtain ⟨g', e', c'⟩ := row_at IA0.out (j := 0) (u := .int .i64 V0) (by rw [List.getElem?_map, hvv0.out]; rfl)
                  rw [hgI] at e'
                  injection e' with e'
                  injection e' with e'
                  rw [e']
                  exact c'
                have fz0 := PA.out.box.fr1
                have gz0 := PA.out.box.ce1
                have P_id := Lib.hid (PA.out.id V0)
                have I_id := Lib.hid (row_field IA0.out PA.out (by decide) 1 (.int .i64 V0))
                have k_id := P_id.out.box.ce0
                have P9 : Hid (RB w bo br ⟨2, V0, 0, 0, fl, []⟩ (.slice none 0 0) ((wa).setCell ⟨bo, 1, none⟩ (.int .i64 V0))) := P_id
                rw [hwa] at ckind cneed pf0 cv0 fz0 gz0 k_id
                replace hgI := Lib.hid hgI
                go_wp2_with fail
                rw [← hwa]
                clear ckind cneed pf0 c00 cv0 fz0 gz0 k_id
                obtain ⟨w9, hw9⟩ : ∃ w9, w9 = (wa).setCell ⟨bo, 1, none⟩ (.int .i64 V0) := ⟨_, rfl⟩
                have I9 := I_id
                rw [← hw9] at P9 I9 ⊢
                replace hw9 := Lib.hid hw9
                go_loopg [13] (Lp.length - 1) (fun g iv wr => ∃ (i : Nat) (av : Value), 1 ≤ i ∧ i ≤ Lp.length ∧ g = Lp.length - i ∧ iv = .int .i64 i ∧ Hid (RB w bo br ⟨2, V0, 0, 0, fl, ((vals Lp).take i).drop 1⟩ av wr) ∧ Hid (wr.ownsRow w.heap.size 3 1 (.slice IA Lp.length ic) Lp.length ((vals Lp).map (.int .i64))))
                case atStart => exact ⟨1, .slice none 0 0, by omega, by omega, by omega, rfl, by
                  have e0 : ((vals Lp).take 1).drop 1 = [] := by rw [List.drop_eq_nil_iff]; rw [List.length_take]; omega
                  rw [e0]
                  exact P9, I9⟩
                case round =>
                  obtain ⟨i, av, hi1, hi2, rfl, rfl, hP9, hI9⟩ := hrel
                  obtain ⟨wz, hwz'⟩ : ∃ x, x = wr := ⟨_, rfl⟩
                  subst hwz'
                  have hlenA : (((vals Lp).take i).drop 1).length = i - 1 := by rw [List.length_drop, List.length_take, vals_len]; omega
                  obtain ⟨A9, c9, rfl⟩ := own_shape hP9.out.own
                  by_cases hlt9 : i < Lp.length
                  · obtain ⟨g9, hg9, cv⟩ := row_at hI9.out (j := i) (u := .int .i64 ((vals Lp).getD i 0)) (by rw [List.getElem?_map, vals_getD Lp i hlt9]; rfl)
                    have hia := int_at IA Lp.length ic i g9 hg9 hlt9
                    have c5 := hP9.out.box.ce5
                    obtain ⟨V, hV⟩ : ∃ V, V = (vals Lp).getD i 0 := ⟨_, rfl⟩
                    rw [← hV] at cv
                    have hsnoc : Hid (((vals Lp).take (i + 1)).drop 1 = ((vals Lp).take i).drop 1 ++ [V]) := by
                      have h1 : (vals Lp).take (i + 1) = (vals Lp).take i ++ [V] := by
                        rw [List.take_add_one, vals_getD Lp i hlt9, ← hV]; rfl
                      rw [h1, List.drop_append_of_le_length (by rw [List.length_take, vals_len]; omega)]
                      rfl
                    obtain ⟨am, ham⟩ : ∃ am, am = ((vals Lp).take i).drop 1 := ⟨_, rfl⟩
                    rw [← ham] at hP9 hlenA c5 hsnoc
                    have hal : am.length ≤ 1048577 := by omega
                    replace hV := Lib.hid hV
                    replace ham := Lib.hid ham
                    replace hg9 := Lib.hid hg9
                    replace hlenA := Lib.hid hlenA
                    have hPk := Lib.hid ((hP9.out.kept (Keep.refl _).drew).kept (Keep.one _ (.cells #[.int .i64 V] 2)))
                    have c6 := (hP9.out.kept (Keep.one wz (.cells #[.int .i64 V] 2))).box.ce5
                    have hsz := hPk.out.keep.size
                    go_wp2_with fail
                    go_region_law (first
                      | (refine step_append_lies _ rfl (.tmp 146) (.tmp 151) 32 rfl w.heap.size 2 i0 (.int .i64 0) 1 8 Tryz.underlying32 hi0 hz0 hz1 hz2 rfl (by decide) (.slice A9 am.length c9) am.length (ints am) (by simp [Act.eval]) hPk.out.own ⟨wz.heap.size, 0, none⟩ 1 1 [.int .i64 V] (by simp [Act.eval]) rfl (cell_one_new _ _ _) (by intro u hu; simp at hu; subst hu; rfl) (by omega) (by unfold maxLen; omega) (by omega) hsz _ rfl ?_; intro g7 cap7 w7 hown7 hgrow7 hat7 hlt7; have fr7 := (hPk.out.grown_box hgrow7).fr5; have ce7 := (hPk.out.grown_box hgrow7).ce5; have P7 := Lib.hid (hPk.out.more hown7 hgrow7); have I7 := Lib.hid (row_box ((own_keep (own_keep hI9.out (Keep.refl _).drew) (Keep.one _ (.cells #[.int .i64 V] 2))).kept hgrow7 (rows_apart (own_keep (own_keep hI9.out (Keep.refl _).drew) (Keep.one _ (.cells #[.int .i64 V] 2))) hPk.out.own (by decide))) (hPk.out.grown_box hgrow7) (by decide) 5 (.slice (some ⟨g7, 0, none⟩) (am.length + 1) cap7)); replace hown7 := Lib.hid hown7; replace hgrow7 := Lib.hid hgrow7; replace hat7 := Lib.hid hat7; replace hlt7 := Lib.hid hlt7))
                    all_goals
                      go_wp2
                      go_roundg (Lp.length - (i + 1))
                      case measure => omega
                      case rel => exact ⟨i + 1, _, by omega, by omega, rfl, by go_num, by rw [hsnoc.out]; exact P7, I7⟩
                  · obtain rfl : i = Lp.length := by omega
                    have hall : (vals Lp).take Lp.length = vals Lp := List.take_of_length_le (by rw [vals_len]; omega)
                    rw [hall] at hP9 hlenA
                    replace hlenA := Lib.hid hlenA
                    obtain ⟨am, ham⟩ : ∃ am, am = (vals Lp).drop 1 := ⟨_, rfl⟩
                    rw [← ham] at hP9 hres3
                    replace ham := Lib.hid ham
                    have q0 := hP9.out.box.ce0
                    have q1 := hP9.out.box.ce1
                    have q2 := hP9.out.box.ce2
                    have q3 := hP9.out.box.ce3
                    have q4 := hP9.out.box.ce4
                    have q5 := hP9.out.box.ce5
                    have r0 := hP9.out.res.fr0
                    have g0 := hP9.out.res.ce0
                    have r1 := hP9.out.res.fr1
                    have g1 := hP9.out.res.ce1
                    have r2 := hP9.out.res.fr2
                    have g2 := hP9.out.res.ce2
                    have r3 := hP9.out.res.fr3
                    have g3 := hP9.out.res.ce3
                    have r4 := hP9.out.res.fr4
                    have g4 := hP9.out.res.ce4
                    have r5 := hP9.out.res.fr5
                    have g5 := hP9.out.res.ce5
                    go_wp2
                    obtain ⟨wE, hwE⟩ : ∃ wE, wE = set6 wz br (.int .i64 2) (.int .i64 V0) (.int .i64 0) (.int .i64 0) (.bool fl) (.slice A9 am.length c9) := ⟨_, rfl⟩
                    have E := hP9.out.res.set6 (.int .i64 2) (.int .i64 V0) (.int .i64 0) (.int .i64 0) (.bool fl) (.slice A9 am.length c9)
                    have F := off_set6 wz br (.int .i64 2) (.int .i64 V0) (.int .i64 0) (.int .i64 0) (.bool fl) (.slice A9 am.length c9)
                    rw [← hwE] at E F
                    unfold Go.Proofs.YtnaeabfmgfipoaaGreatDoor.set6 at hwE
                    rw [← hwE]
                    have e0 := E.ce0
                    have e1 := E.ce1
                    have e2 := E.ce2
                    have e3 := E.ce3
                    have e4 := E.ce4
                    have e5 := E.ce5
                    have KE := F.keep hP9.out.keep (by have := hP9.out.ge; rintro i rfl; exact this.2)
                    refine bodyPost_ret (v := .tuple #[.agg #[.int .i64 2, .int .i64 V0, .int .i64 0, .int .i64 0, .bool fl, .slice A9 am.length c9], .bool true]) (by simp [results, Tryz.results27, go_sem, e0, e1, e2, e3, e4, e5]) rfl (PRes.some hres3.out KE (F.own hP9.out.own (fun k hk e => hP9.out.notl k hk (Or.inr e))))
      · obtain ⟨Lp, hLpe⟩ : ∃ Lp, Lp = L := ⟨_, rfl⟩
        obtain ⟨fl, hfl⟩ : ∃ fl, fl = false := ⟨_, rfl⟩
        have hres2 : Hid (res = (numsRead Lp).bind (buildOp 3 fl)) := by rw [hres.out, parseOf, hκ, if_neg (by omega), if_neg (by omega), hLpe, hfl]; rfl
        have hLp : Hid (∀ j (h : j < Lp.length), L[j]? = some Lp[j]) := by subst hLpe; exact fun j h => List.getElem?_eq_getElem h
        have hLl : Lp.length ≤ L.length ∧ Lp.length ≤ 1048577 ∧ Lp.length + 1 = L.length + 1 := by subst hLpe; exact ⟨Nat.le_refl _, by omega, rfl⟩
        replace hκ := Lib.hid hκ
        replace hLpe := Lib.hid hLpe
        have hP : Hid (RB w bo br { zeroD with kind := 3, flag := fl } (.slice none 0 0) wq) := by rw [hfl]; exact hP
        replace hfl := Lib.hid hfl
        have b0 := hP.out.box.ce0

        go_wp2_with fail
        go_loopg [8, 9] (Lp.length) (fun g lv iv wr => ∃ (j : Nat) (v8 : Value), j ≤ Lp.length ∧ g = Lp.length - j ∧ lv = v8 ∧ iv = .int .i64 (j + 1) ∧ Hid (oks (Lp.take j) = true) ∧ Hid (RB w bo br { zeroD with kind := 3, flag := fl } (.slice none 0 0) wr) ∧ Hid (wr.ownsRow w.heap.size 9 1 (.slice WA (L.length + 1) wc) (L.length + 1) ((x :: L).map .string)) ∧ Hid (wr.ownsRow w.heap.size 3 1 v8 j ((vals (Lp.take j)).map (.int .i64))))
        case atStart => exact ⟨0, .slice none 0 0, Nat.zero_le _, rfl, rfl, rfl, rfl, hP, hW, World.ownsRow_nil _ _ _ _⟩
        case round =>
          obtain ⟨j, v8, hj, rfl, rfl, rfl, hok, hP2, hW2, hI⟩ := hrel
          obtain ⟨wx, hwx⟩ : ∃ x, x = wr := ⟨_, rfl⟩
          subst hwx
          obtain ⟨IA, ic, rfl⟩ := own_shape hI.out
          by_cases hlt : j < Lp.length
          · have hLj := hLp.out j hlt
            have hjL : j < L.length := by have := hLl; omega
            obtain ⟨gW, hgW, cw⟩ := row_at hW2.out (j := j + 1) (u := .string Lp[j]) (by rw [List.map_cons, List.getElem?_cons_succ, List.getElem?_map, hLj]; rfl)
            have hia : ∀ W : World, (Instr.indexAt 49 (.slice WA (L.length + 1) wc) (.int .i64 (j + 1))).run Tryz.prog W = .ok (.pointer (some ⟨gW, j + 1, none⟩)) W := fun W => str_at WA (L.length + 1) wc (j + 1) gW hgW (by omega) W
            have hmem : Lp[j] ∈ x :: L := List.mem_cons_of_mem _ (List.mem_of_getElem? hLj)
            have hnm := Lib.hid (hnum.out Lp[j] hmem wx)
            have hmem2 := List.getElem_mem hlt
            obtain ⟨y, hy⟩ : ∃ y, y = Lp[j] := ⟨_, rfl⟩
            have hcur : ((j : Int) + 1 < (L.length + 1 : Nat)) := by omega
            have htk := take_next hlt
            rw [← hy] at cw hnm hmem2 htk
            replace hy := Lib.hid hy
            replace hLj := Lib.hid hLj
            replace hgW := Lib.hid hgW
            obtain ⟨o, ho⟩ : ∃ o, o = numOf y := ⟨_, rfl⟩
            rw [← ho] at hnm
            go_wp2_with fail
            refine hnm.out.mono ?_
            rintro e w5 ⟨rfl, rfl⟩
            cases o with
            | none =>
              have hn : Hid (res = none) := hres2.out.trans (bind_none (oks_mem hmem2 ho.symm))
              replace hmem2 := Lib.hid hmem2
              replace ho := Lib.hid ho
              have r0 := hP2.out.res.fr0
              have g0 := hP2.out.res.ce0
              have r1 := hP2.out.res.fr1
              have g1 := hP2.out.res.ce1
              have r2 := hP2.out.res.fr2
              have g2 := hP2.out.res.ce2
              have r3 := hP2.out.res.fr3
              have g3 := hP2.out.res.ce3
              have r4 := hP2.out.res.fr4
              have g4 := hP2.out.res.ce4
              have r5 := hP2.out.res.fr5
              have g5 := hP2.out.res.ce5
              go_wp2
              obtain ⟨wE, hwE⟩ : ∃ wE, wE = set6 wx br (.int .i64 0) (.int .i64 0) (.int .i64 0) (.int .i64 0) (.bool false) (.slice none 0 0) := ⟨_, rfl⟩
              have E := hP2.out.res.set6 (.int .i64 0) (.int .i64 0) (.int .i64 0) (.int .i64 0) (.bool false) (.slice none 0 0)
              have F := off_set6 wx br (.int .i64 0) (.int .i64 0) (.int .i64 0) (.int .i64 0) (.bool false) (.slice none 0 0)
              rw [← hwE] at E F
              unfold Go.Proofs.YtnaeabfmgfipoaaGreatDoor.set6 at hwE
              rw [← hwE]
              have e0 := E.ce0
              have e1 := E.ce1
              have e2 := E.ce2
              have e3 := E.ce3
              have e4 := E.ce4
              have e5 := E.ce5
              have KE := F.keep hP2.out.keep (by have := hP2.out.ge; rintro i rfl; exact this.2)
              refine bodyPost_ret (v := .tuple #[.agg #[.int .i64 0, .int .i64 0, .int .i64 0, .int .i64 0, .bool false, .slice none 0 0], .bool false]) (by simp [results, Tryz.results27, go_sem, e0, e1, e2, e3, e4, e5]) rfl (PRes.none hn.out KE)
            | some u =>
              have hok2 : Hid (oks (Lp.take (j + 1)) = true) := by rw [htk, oks_snoc, hok.out, ← ho]; rfl
              have hv2 : Hid (vals (Lp.take (j + 1)) = vals (Lp.take j) ++ [u]) := by rw [htk, vals_snoc, ← ho]; rfl
              replace hmem2 := Lib.hid hmem2
              replace ho := Lib.hid ho
              replace htk := Lib.hid htk
              have hIk := Lib.hid (own_keep hI.out (Keep.one wx (.cells #[.int .i64 u] 3)))
              have hPk := Lib.hid (hP2.out.kept (Keep.one wx (.cells #[.int .i64 u] 3)))
              have hWk := Lib.hid (own_keep hW2.out (Keep.one wx (.cells #[.int .i64 u] 3)))
              have hsz := hP2.out.keep.size
              have hjb : j ≤ 1048577 := by have := hLl; omega
              go_wp2_with (at_builtin; refine wpList_append_lies _ rfl (.tmp 76) (.tmp 78) 71 rfl w.heap.size 3 j0 (.int .i64 0) 1 8 Tryz.underlying71 hj0 hy0 hy1 hy2 rfl (by decide) (.slice IA j ic) j ((vals (Lp.take j)).map (.int .i64)) (by simp [Act.eval]) hIk.out ⟨wx.heap.size, 0, none⟩ 1 1 [.int .i64 u] (by simp [Act.eval]) rfl (cell_one_new _ _ _) (by intro q hq; simp at hq; subst hq; rfl) (by omega) (by unfold maxLen; omega) (by omega) (by simp; omega) _ rfl ?_; intro g6 cap6 w6 h6 hg6 ha6 hl6; have P6 := Lib.hid (hPk.out.grown hIk.out (Nat.le_refl _) (by decide) (by decide) hg6); have W6 := Lib.hid (hWk.out.kept hg6 (rows_apart hWk.out hIk.out (by decide))); replace h6 := Lib.hid h6; replace hg6 := Lib.hid hg6; replace ha6 := Lib.hid ha6; replace hl6 := Lib.hid hl6)
              have I6 : Hid (w6.ownsRow w.heap.size 3 1 (.slice (some ⟨g6, 0, none⟩) (j + 1) cap6) (j + 1) ((vals (Lp.take (j + 1))).map (.int .i64))) := by rw [hv2.out, List.map_append]; exact h6.out
              clear cw hia
              go_roundg (Lp.length - (j + 1))
              case measure => omega
              case rel => exact ⟨j + 1, _, by omega, rfl, rfl, by go_num, hok2, P6, W6, I6⟩
          · obtain rfl : j = Lp.length := by omega
            have hcur : ¬ ((Lp.length : Int) + 1 < (L.length + 1 : Nat)) := by omega
            rw [List.take_length] at hok hI
            rw [bind_some hok.out] at hres2
            clear hlt
            have ka : Keep wx (wx.alloc (.cells #[.int .i64 0, .int .i64 2, .int .i64 1, .int .i64 1, .int .i64 3, .int .i64 1, .int .i64 1, .int .i64 0] 3)) := Keep.one _ _
            have PA := Lib.hid (hP2.out.kept ka)
            have IA0 := Lib.hid (own_keep hI.out ka)
            have ckind : (wx.alloc (.cells #[.int .i64 0, .int .i64 2, .int .i64 1, .int .i64 1, .int .i64 3, .int .i64 1, .int .i64 1, .int .i64 0] 3)).cell? ⟨bo, 0, none⟩ = some (.int .i64 3) := PA.out.box.ce0
            have cneed : (wx.alloc (.cells #[.int .i64 0, .int .i64 2, .int .i64 1, .int .i64 1, .int .i64 3, .int .i64 1, .int .i64 1, .int .i64 0] 3)).cell? ⟨wx.heap.size, 3, none⟩ = some (.int .i64 1) := by rw [cell_of_row _ wx.heap.size _ _ _ _ (heap_alloc_new wx _)]; rfl
            have c00 := hP2.out.box.ce0
            obtain ⟨wa, hwa⟩ : ∃ wa, wa = wx.alloc (.cells #[.int .i64 0, .int .i64 2, .int .i64 1, .int .i64 1, .int .i64 3, .int .i64 1, .int .i64 1, .int .i64 0] 3) := ⟨_, rfl⟩
            replace ka := Lib.hid ka
            have hml := hLl.2.1
            by_cases h1 : Lp.length < 1
            · have hn : Hid (res = none) := hres2.out.trans (build_no (by rw [vals_len]; left; show Lp.length < 1; exact h1))
              have hd1 : decide ((Lp.length : Int) < 1) = true := decide_eq_true (by omega)
              have r0 := PA.out.res.fr0
              have g0 := PA.out.res.ce0
              have r1 := PA.out.res.fr1
              have g1 := PA.out.res.ce1
              have r2 := PA.out.res.fr2
              have g2 := PA.out.res.ce2
              have r3 := PA.out.res.fr3
              have g3 := PA.out.res.ce3
              have r4 := PA.out.res.fr4
              have g4 := PA.out.res.ce4
              have r5 := PA.out.res.fr5
              have g5 := PA.out.res.ce5
              go_wp2
              obtain ⟨wE, hwE⟩ : ∃ wE, wE = set6 (wx.alloc (.cells #[.int .i64 0, .int .i64 2, .int .i64 1, .int .i64 1, .int .i64 3, .int .i64 1, .int .i64 1, .int .i64 0] 3)) br (.int .i64 0) (.int .i64 0) (.int .i64 0) (.int .i64 0) (.bool false) (.slice none 0 0) := ⟨_, rfl⟩
              have E := PA.out.res.set6 (.int .i64 0) (.int .i64 0) (.int .i64 0) (.int .i64 0) (.bool false) (.slice none 0 0)
              have F := off_set6 (wx.alloc (.cells #[.int .i64 0, .int .i64 2, .int .i64 1, .int .i64 1, .int .i64 3, .int .i64 1, .int .i64 1, .int .i64 0] 3)) br (.int .i64 0) (.int .i64 0) (.int .i64 0) (.int .i64 0) (.bool false) (.slice none 0 0)
              rw [← hwE] at E F
              unfold Go.Proofs.YtnaeabfmgfipoaaGreatDoor.set6 at hwE
              rw [← hwE]
              have e0 := E.ce0
              have e1 := E.ce1
              have e2 := E.ce2
              have e3 := E.ce3
              have e4 := E.ce4
              have e5 := E.ce5
              have KE := F.keep PA.out.keep (by have := PA.out.ge; rintro i rfl; exact this.2)
              refine bodyPost_ret (v := .tuple #[.agg #[.int .i64 0, .int .i64 0, .int .i64 0, .int .i64 0, .bool false, .slice none 0 0], .bool false]) (by simp [results, Tryz.results27, go_sem, e0, e1, e2, e3, e4, e5]) rfl (PRes.none hn.out KE)
            · have hd1 : decide ((Lp.length : Int) < 1) = false := decide_eq_false (by omega)
              by_cases h2 : 1 < Lp.length
              · have hn : Hid (res = none) := hres2.out.trans (build_no (by rw [vals_len]; right; exact ⟨h2, by omega, by omega⟩))
                have hd2 : decide ((Lp.length : Int) > 1) = true := decide_eq_true (by omega)
                have r0 := PA.out.res.fr0
                have g0 := PA.out.res.ce0
                have r1 := PA.out.res.fr1
                have g1 := PA.out.res.ce1
                have r2 := PA.out.res.fr2
                have g2 := PA.out.res.ce2
                have r3 := PA.out.res.fr3
                have g3 := PA.out.res.ce3
                have r4 := PA.out.res.fr4
                have g4 := PA.out.res.ce4
                have r5 := PA.out.res.fr5
                have g5 := PA.out.res.ce5
                go_wp2
                obtain ⟨wE, hwE⟩ : ∃ wE, wE = set6 (wx.alloc (.cells #[.int .i64 0, .int .i64 2, .int .i64 1, .int .i64 1, .int .i64 3, .int .i64 1, .int .i64 1, .int .i64 0] 3)) br (.int .i64 0) (.int .i64 0) (.int .i64 0) (.int .i64 0) (.bool false) (.slice none 0 0) := ⟨_, rfl⟩
                have E := PA.out.res.set6 (.int .i64 0) (.int .i64 0) (.int .i64 0) (.int .i64 0) (.bool false) (.slice none 0 0)
                have F := off_set6 (wx.alloc (.cells #[.int .i64 0, .int .i64 2, .int .i64 1, .int .i64 1, .int .i64 3, .int .i64 1, .int .i64 1, .int .i64 0] 3)) br (.int .i64 0) (.int .i64 0) (.int .i64 0) (.int .i64 0) (.bool false) (.slice none 0 0)
                rw [← hwE] at E F
                unfold Go.Proofs.YtnaeabfmgfipoaaGreatDoor.set6 at hwE
                rw [← hwE]
                have e0 := E.ce0
                have e1 := E.ce1
                have e2 := E.ce2
                have e3 := E.ce3
                have e4 := E.ce4
                have e5 := E.ce5
                have KE := F.keep PA.out.keep (by have := PA.out.ge; rintro i rfl; exact this.2)
                refine bodyPost_ret (v := .tuple #[.agg #[.int .i64 0, .int .i64 0, .int .i64 0, .int .i64 0, .bool false, .slice none 0 0], .bool false]) (by simp [results, Tryz.results27, go_sem, e0, e1, e2, e3, e4, e5]) rfl (PRes.none hn.out KE)
              · have hd2 : decide ((Lp.length : Int) > 1) = false := decide_eq_false (by omega)
                have hcond : ¬ ((vals Lp).length < need 3 ∨ (need 3 < (vals Lp).length ∧ (3 : Int) ≠ 2 ∧ (3 : Int) ≠ 4)) := by rw [vals_len]; show ¬ (Lp.length < 1 ∨ (1 < Lp.length ∧ _)); omega
                obtain ⟨V0, hV0⟩ : ∃ V, V = (vals Lp).getD 0 0 := ⟨_, rfl⟩
                have hvv0 := vals_getD Lp 0 (by omega)
                rw [← hV0] at hvv0
                have hres3 : Hid (res = some ⟨3, V0, 0, 0, fl, (vals Lp).drop 1⟩) := by
                  rw [hV0]
                  exact (hres2.out.trans (build_yes hcond)).trans rfl
                replace hcond := Lib.hid hcond
                replace hV0 := Lib.hid hV0
                replace hvv0 := Lib.hid hvv0
                obtain ⟨gI, hgI, _⟩ := row_at IA0.out (j := 0) (u := .int .i64 V0) (by rw [List.getElem?_map, hvv0.out]; rfl)
                rw [← hwa] at PA IA0 ckind cneed
                have pf0 := PA.out.box.fr1
                have hix0 : ∀ W : World, (Instr.indexAt 71 (.slice IA Lp.length ic) (.int .i64 0)).run Tryz.prog W = .ok (.pointer (some ⟨gI, 0, none⟩)) W := int_at IA Lp.length ic 0 gI hgI (by omega)
                have cv0 : (wa).cell? ⟨gI, 0, none⟩ = some (.int .i64 V0) := by
                  obtain ⟨g', e', c'⟩ := row_at IA0.out (j := 0) (u := .int .i64 V0) (by rw [List.getElem?_map, hvv0.out]; rfl)
                  rw [hgI] at e'
                  injection e' with e'
                  injection e' with e'
                  rw [e']
                  exact c'
                have fz0 := PA.out.box.fr1
                have gz0 := PA.out.box.ce1
                have P_id := Lib.hid (PA.out.id V0)
                have I_id := Lib.hid (row_field IA0.out PA.out (by decide) 1 (.int .i64 V0))
                have k_id := P_id.out.box.ce0
                have P9 : Hid (RB w bo br ⟨3, V0, 0, 0, fl, []⟩ (.slice none 0 0) ((wa).setCell ⟨bo, 1, none⟩ (.int .i64 V0))) := P_id
                rw [hwa] at ckind cneed pf0 cv0 fz0 gz0 k_id
                replace hgI := Lib.hid hgI
                go_wp2_with fail
                rw [← hwa]
                clear ckind cneed pf0 c00 cv0 fz0 gz0 k_id
                obtain ⟨w9, hw9⟩ : ∃ w9, w9 = (wa).setCell ⟨bo, 1, none⟩ (.int .i64 V0) := ⟨_, rfl⟩
                have I9 := I_id
                rw [← hw9] at P9 I9 ⊢
                replace hw9 := Lib.hid hw9
                go_loopg [13] (Lp.length - 1) (fun g iv wr => ∃ (i : Nat) (av : Value), 1 ≤ i ∧ i ≤ Lp.length ∧ g = Lp.length - i ∧ iv = .int .i64 i ∧ Hid (RB w bo br ⟨3, V0, 0, 0, fl, ((vals Lp).take i).drop 1⟩ av wr) ∧ Hid (wr.ownsRow w.heap.size 3 1 (.slice IA Lp.length ic) Lp.length ((vals Lp).map (.int .i64))))
                case atStart => exact ⟨1, .slice none 0 0, by omega, by omega, by omega, rfl, by
                  have e0 : ((vals Lp).take 1).drop 1 = [] := by rw [List.drop_eq_nil_iff]; rw [List.length_take]; omega
                  rw [e0]
                  exact P9, I9⟩
                case round =>
                  obtain ⟨i, av, hi1, hi2, rfl, rfl, hP9, hI9⟩ := hrel
                  obtain ⟨wz, hwz'⟩ : ∃ x, x = wr := ⟨_, rfl⟩
                  subst hwz'
                  have hlenA : (((vals Lp).take i).drop 1).length = i - 1 := by rw [List.length_drop, List.length_take, vals_len]; omega
                  obtain ⟨A9, c9, rfl⟩ := own_shape hP9.out.own
                  by_cases hlt9 : i < Lp.length
                  · obtain ⟨g9, hg9, cv⟩ := row_at hI9.out (j := i) (u := .int .i64 ((vals Lp).getD i 0)) (by rw [List.getElem?_map, vals_getD Lp i hlt9]; rfl)
                    have hia := int_at IA Lp.length ic i g9 hg9 hlt9
                    have c5 := hP9.out.box.ce5
                    obtain ⟨V, hV⟩ : ∃ V, V = (vals Lp).getD i 0 := ⟨_, rfl⟩
                    rw [← hV] at cv
                    have hsnoc : Hid (((vals Lp).take (i + 1)).drop 1 = ((vals Lp).take i).drop 1 ++ [V]) := by
                      have h1 : (vals Lp).take (i + 1) = (vals Lp).take i ++ [V] := by
                        rw [List.take_add_one, vals_getD Lp i hlt9, ← hV]; rfl
                      rw [h1, List.drop_append_of_le_length (by rw [List.length_take, vals_len]; omega)]
                      rfl
                    obtain ⟨am, ham⟩ : ∃ am, am = ((vals Lp).take i).drop 1 := ⟨_, rfl⟩
                    rw [← ham] at hP9 hlenA c5 hsnoc
                    have hal : am.length ≤ 1048577 := by omega
                    replace hV := Lib.hid hV
                    replace ham := Lib.hid ham
                    replace hg9 := Lib.hid hg9
                    replace hlenA := Lib.hid hlenA
                    have hPk := Lib.hid ((hP9.out.kept (Keep.refl _).drew).kept (Keep.one _ (.cells #[.int .i64 V] 2)))
                    have c6 := (hP9.out.kept (Keep.one wz (.cells #[.int .i64 V] 2))).box.ce5
                    have hsz := hPk.out.keep.size
                    go_wp2_with fail
                    go_region_law (first
                      | (refine step_append_lies _ rfl (.tmp 146) (.tmp 151) 32 rfl w.heap.size 2 i0 (.int .i64 0) 1 8 Tryz.underlying32 hi0 hz0 hz1 hz2 rfl (by decide) (.slice A9 am.length c9) am.length (ints am) (by simp [Act.eval]) hPk.out.own ⟨wz.heap.size, 0, none⟩ 1 1 [.int .i64 V] (by simp [Act.eval]) rfl (cell_one_new _ _ _) (by intro u hu; simp at hu; subst hu; rfl) (by omega) (by unfold maxLen; omega) (by omega) hsz _ rfl ?_; intro g7 cap7 w7 hown7 hgrow7 hat7 hlt7; have fr7 := (hPk.out.grown_box hgrow7).fr5; have ce7 := (hPk.out.grown_box hgrow7).ce5; have P7 := Lib.hid (hPk.out.more hown7 hgrow7); have I7 := Lib.hid (row_box ((own_keep (own_keep hI9.out (Keep.refl _).drew) (Keep.one _ (.cells #[.int .i64 V] 2))).kept hgrow7 (rows_apart (own_keep (own_keep hI9.out (Keep.refl _).drew) (Keep.one _ (.cells #[.int .i64 V] 2))) hPk.out.own (by decide))) (hPk.out.grown_box hgrow7) (by decide) 5 (.slice (some ⟨g7, 0, none⟩) (am.length + 1) cap7)); replace hown7 := Lib.hid hown7; replace hgrow7 := Lib.hid hgrow7; replace hat7 := Lib.hid hat7; replace hlt7 := Lib.hid hlt7))
                    all_goals
                      go_wp2
                      go_roundg (Lp.length - (i + 1))
                      case measure => omega
                      case rel => exact ⟨i + 1, _, by omega, by omega, rfl, by go_num, by rw [hsnoc.out]; exact P7, I7⟩
                  · obtain rfl : i = Lp.length := by omega
                    have hall : (vals Lp).take Lp.length = vals Lp := List.take_of_length_le (by rw [vals_len]; omega)
                    rw [hall] at hP9 hlenA
                    replace hlenA := Lib.hid hlenA
                    obtain ⟨am, ham⟩ : ∃ am, am = (vals Lp).drop 1 := ⟨_, rfl⟩
                    rw [← ham] at hP9 hres3
                    replace ham := Lib.hid ham
                    have q0 := hP9.out.box.ce0
                    have q1 := hP9.out.box.ce1
                    have q2 := hP9.out.box.ce2
                    have q3 := hP9.out.box.ce3
                    have q4 := hP9.out.box.ce4
                    have q5 := hP9.out.box.ce5
                    have r0 := hP9.out.res.fr0
                    have g0 := hP9.out.res.ce0
                    have r1 := hP9.out.res.fr1
                    have g1 := hP9.out.res.ce1
                    have r2 := hP9.out.res.fr2
                    have g2 := hP9.out.res.ce2
                    have r3 := hP9.out.res.fr3
                    have g3 := hP9.out.res.ce3
                    have r4 := hP9.out.res.fr4
                    have g4 := hP9.out.res.ce4
                    have r5 := hP9.out.res.fr5
                    have g5 := hP9.out.res.ce5
                    go_wp2
                    obtain ⟨wE, hwE⟩ : ∃ wE, wE = set6 wz br (.int .i64 3) (.int .i64 V0) (.int .i64 0) (.int .i64 0) (.bool fl) (.slice A9 am.length c9) := ⟨_, rfl⟩
                    have E := hP9.out.res.set6 (.int .i64 3) (.int .i64 V0) (.int .i64 0) (.int .i64 0) (.bool fl) (.slice A9 am.length c9)
                    have F := off_set6 wz br (.int .i64 3) (.int .i64 V0) (.int .i64 0) (.int .i64 0) (.bool fl) (.slice A9 am.length c9)
                    rw [← hwE] at E F
                    unfold Go.Proofs.YtnaeabfmgfipoaaGreatDoor.set6 at hwE
                    rw [← hwE]
                    have e0 := E.ce0
                    have e1 := E.ce1
                    have e2 := E.ce2
                    have e3 := E.ce3
                    have e4 := E.ce4
                    have e5 := E.ce5
                    have KE := F.keep hP9.out.keep (by have := hP9.out.ge; rintro i rfl; exact this.2)
                    refine bodyPost_ret (v := .tuple #[.agg #[.int .i64 3, .int .i64 V0, .int .i64 0, .int .i64 0, .bool fl, .slice A9 am.length c9], .bool true]) (by simp [results, Tryz.results27, go_sem, e0, e1, e2, e3, e4, e5]) rfl (PRes.some hres3.out KE (F.own hP9.out.own (fun k hk e => hP9.out.notl k hk (Or.inr e))))
      · obtain ⟨Lp, hLpe⟩ : ∃ Lp, Lp = L := ⟨_, rfl⟩
        obtain ⟨fl, hfl⟩ : ∃ fl, fl = false := ⟨_, rfl⟩
        have hres2 : Hid (res = (numsRead Lp).bind (buildOp 4 fl)) := by rw [hres.out, parseOf, hκ, if_neg (by omega), if_neg (by omega), hLpe, hfl]; rfl
        have hLp : Hid (∀ j (h : j < Lp.length), L[j]? = some Lp[j]) := by subst hLpe; exact fun j h => List.getElem?_eq_getElem h
        have hLl : Lp.length ≤ L.length ∧ Lp.length ≤ 1048577 ∧ Lp.length + 1 = L.length + 1 := by subst hLpe; exact ⟨Nat.le_refl _, by omega, rfl⟩
        replace hκ := Lib.hid hκ
        replace hLpe := Lib.hid hLpe
        have hP : Hid (RB w bo br { zeroD with kind := 4, flag := fl } (.slice none 0 0) wq) := by rw [hfl]; exact hP
        replace hfl := Lib.hid hfl
        have b0 := hP.out.box.ce0

        go_wp2_with fail
        go_loopg [8, 9] (Lp.length) (fun g lv iv wr => ∃ (j : Nat) (v8 : Value), j ≤ Lp.length ∧ g = Lp.length - j ∧ lv = v8 ∧ iv = .int .i64 (j + 1) ∧ Hid (oks (Lp.take j) = true) ∧ Hid (RB w bo br { zeroD with kind := 4, flag := fl } (.slice none 0 0) wr) ∧ Hid (wr.ownsRow w.heap.size 9 1 (.slice WA (L.length + 1) wc) (L.length + 1) ((x :: L).map .string)) ∧ Hid (wr.ownsRow w.heap.size 3 1 v8 j ((vals (Lp.take j)).map (.int .i64))))
        case atStart => exact ⟨0, .slice none 0 0, Nat.zero_le _, rfl, rfl, rfl, rfl, hP, hW, World.ownsRow_nil _ _ _ _⟩
        case round =>
          obtain ⟨j, v8, hj, rfl, rfl, rfl, hok, hP2, hW2, hI⟩ := hrel
          obtain ⟨wx, hwx⟩ : ∃ x, x = wr := ⟨_, rfl⟩
          subst hwx
          obtain ⟨IA, ic, rfl⟩ := own_shape hI.out
          by_cases hlt : j < Lp.length
          · have hLj := hLp.out j hlt
            have hjL : j < L.length := by have := hLl; omega
            obtain ⟨gW, hgW, cw⟩ := row_at hW2.out (j := j + 1) (u := .string Lp[j]) (by rw [List.map_cons, List.getElem?_cons_succ, List.getElem?_map, hLj]; rfl)
            have hia : ∀ W : World, (Instr.indexAt 49 (.slice WA (L.length + 1) wc) (.int .i64 (j + 1))).run Tryz.prog W = .ok (.pointer (some ⟨gW, j + 1, none⟩)) W := fun W => str_at WA (L.length + 1) wc (j + 1) gW hgW (by omega) W
            have hmem : Lp[j] ∈ x :: L := List.mem_cons_of_mem _ (List.mem_of_getElem? hLj)
            have hnm := Lib.hid (hnum.out Lp[j] hmem wx)
            have hmem2 := List.getElem_mem hlt
            obtain ⟨y, hy⟩ : ∃ y, y = Lp[j] := ⟨_, rfl⟩
            have hcur : ((j : Int) + 1 < (L.length + 1 : Nat)) := by omega
            have htk := take_next hlt
            rw [← hy] at cw hnm hmem2 htk
            replace hy := Lib.hid hy
            replace hLj := Lib.hid hLj
            replace hgW := Lib.hid hgW
            obtain ⟨o, ho⟩ : ∃ o, o = numOf y := ⟨_, rfl⟩
            rw [← ho] at hnm
            go_wp2_with fail
            refine hnm.out.mono ?_
            rintro e w5 ⟨rfl, rfl⟩
            cases o with
            | none =>
              have hn : Hid (res = none) := hres2.out.trans (bind_none (oks_mem hmem2 ho.symm))
              replace hmem2 := Lib.hid hmem2
              replace ho := Lib.hid ho
              have r0 := hP2.out.res.fr0
              have g0 := hP2.out.res.ce0
              have r1 := hP2.out.res.fr1
              have g1 := hP2.out.res.ce1
              have r2 := hP2.out.res.fr2
              have g2 := hP2.out.res.ce2
              have r3 := hP2.out.res.fr3
              have g3 := hP2.out.res.ce3
              have r4 := hP2.out.res.fr4
              have g4 := hP2.out.res.ce4
              have r5 := hP2.out.res.fr5
              have g5 := hP2.out.res.ce5
              go_wp2
              obtain ⟨wE, hwE⟩ : ∃ wE, wE = set6 wx br (.int .i64 0) (.int .i64 0) (.int .i64 0) (.int .i64 0) (.bool false) (.slice none 0 0) := ⟨_, rfl⟩
              have E := hP2.out.res.set6 (.int .i64 0) (.int .i64 0) (.int .i64 0) (.int .i64 0) (.bool false) (.slice none 0 0)
              have F := off_set6 wx br (.int .i64 0) (.int .i64 0) (.int .i64 0) (.int .i64 0) (.bool false) (.slice none 0 0)
              rw [← hwE] at E F
              unfold Go.Proofs.YtnaeabfmgfipoaaGreatDoor.set6 at hwE
              rw [← hwE]
              have e0 := E.ce0
              have e1 := E.ce1
              have e2 := E.ce2
              have e3 := E.ce3
              have e4 := E.ce4
              have e5 := E.ce5
              have KE := F.keep hP2.out.keep (by have := hP2.out.ge; rintro i rfl; exact this.2)
              refine bodyPost_ret (v := .tuple #[.agg #[.int .i64 0, .int .i64 0, .int .i64 0, .int .i64 0, .bool false, .slice none 0 0], .bool false]) (by simp [results, Tryz.results27, go_sem, e0, e1, e2, e3, e4, e5]) rfl (PRes.none hn.out KE)
            | some u =>
              have hok2 : Hid (oks (Lp.take (j + 1)) = true) := by rw [htk, oks_snoc, hok.out, ← ho]; rfl
              have hv2 : Hid (vals (Lp.take (j + 1)) = vals (Lp.take j) ++ [u]) := by rw [htk, vals_snoc, ← ho]; rfl
              replace hmem2 := Lib.hid hmem2
              replace ho := Lib.hid ho
              replace htk := Lib.hid htk
              have hIk := Lib.hid (own_keep hI.out (Keep.one wx (.cells #[.int .i64 u] 3)))
              have hPk := Lib.hid (hP2.out.kept (Keep.one wx (.cells #[.int .i64 u] 3)))
              have hWk := Lib.hid (own_keep hW2.out (Keep.one wx (.cells #[.int .i64 u] 3)))
              have hsz := hP2.out.keep.size
              have hjb : j ≤ 1048577 := by have := hLl; omega
              go_wp2_with (at_builtin; refine wpList_append_lies _ rfl (.tmp 76) (.tmp 78) 71 rfl w.heap.size 3 j0 (.int .i64 0) 1 8 Tryz.underlying71 hj0 hy0 hy1 hy2 rfl (by decide) (.slice IA j ic) j ((vals (Lp.take j)).map (.int .i64)) (by simp [Act.eval]) hIk.out ⟨wx.heap.size, 0, none⟩ 1 1 [.int .i64 u] (by simp [Act.eval]) rfl (cell_one_new _ _ _) (by intro q hq; simp at hq; subst hq; rfl) (by omega) (by unfold maxLen; omega) (by omega) (by simp; omega) _ rfl ?_; intro g6 cap6 w6 h6 hg6 ha6 hl6; have P6 := Lib.hid (hPk.out.grown hIk.out (Nat.le_refl _) (by decide) (by decide) hg6); have W6 := Lib.hid (hWk.out.kept hg6 (rows_apart hWk.out hIk.out (by decide))); replace h6 := Lib.hid h6; replace hg6 := Lib.hid hg6; replace ha6 := Lib.hid ha6; replace hl6 := Lib.hid hl6)
              have I6 : Hid (w6.ownsRow w.heap.size 3 1 (.slice (some ⟨g6, 0, none⟩) (j + 1) cap6) (j + 1) ((vals (Lp.take (j + 1))).map (.int .i64))) := by rw [hv2.out, List.map_append]; exact h6.out
              clear cw hia
              go_roundg (Lp.length - (j + 1))
              case measure => omega
              case rel => exact ⟨j + 1, _, by omega, rfl, rfl, by go_num, hok2, P6, W6, I6⟩
          · obtain rfl : j = Lp.length := by omega
            have hcur : ¬ ((Lp.length : Int) + 1 < (L.length + 1 : Nat)) := by omega
            rw [List.take_length] at hok hI
            rw [bind_some hok.out] at hres2
            clear hlt
            have ka : Keep wx (wx.alloc (.cells #[.int .i64 0, .int .i64 2, .int .i64 1, .int .i64 1, .int .i64 3, .int .i64 1, .int .i64 1, .int .i64 0] 3)) := Keep.one _ _
            have PA := Lib.hid (hP2.out.kept ka)
            have IA0 := Lib.hid (own_keep hI.out ka)
            have ckind : (wx.alloc (.cells #[.int .i64 0, .int .i64 2, .int .i64 1, .int .i64 1, .int .i64 3, .int .i64 1, .int .i64 1, .int .i64 0] 3)).cell? ⟨bo, 0, none⟩ = some (.int .i64 4) := PA.out.box.ce0
            have cneed : (wx.alloc (.cells #[.int .i64 0, .int .i64 2, .int .i64 1, .int .i64 1, .int .i64 3, .int .i64 1, .int .i64 1, .int .i64 0] 3)).cell? ⟨wx.heap.size, 4, none⟩ = some (.int .i64 3) := by rw [cell_of_row _ wx.heap.size _ _ _ _ (heap_alloc_new wx _)]; rfl
            have c00 := hP2.out.box.ce0
            obtain ⟨wa, hwa⟩ : ∃ wa, wa = wx.alloc (.cells #[.int .i64 0, .int .i64 2, .int .i64 1, .int .i64 1, .int .i64 3, .int .i64 1, .int .i64 1, .int .i64 0] 3) := ⟨_, rfl⟩
            replace ka := Lib.hid ka
            have hml := hLl.2.1
            by_cases h1 : Lp.length < 3
            · have hn : Hid (res = none) := hres2.out.trans (build_no (by rw [vals_len]; left; show Lp.length < 3; exact h1))
              have hd1 : decide ((Lp.length : Int) < 3) = true := decide_eq_true (by omega)
              have r0 := PA.out.res.fr0
              have g0 := PA.out.res.ce0
              have r1 := PA.out.res.fr1
              have g1 := PA.out.res.ce1
              have r2 := PA.out.res.fr2
              have g2 := PA.out.res.ce2
              have r3 := PA.out.res.fr3
              have g3 := PA.out.res.ce3
              have r4 := PA.out.res.fr4
              have g4 := PA.out.res.ce4
              have r5 := PA.out.res.fr5
              have g5 := PA.out.res.ce5
              go_wp2
              obtain ⟨wE, hwE⟩ : ∃ wE, wE = set6 (wx.alloc (.cells #[.int .i64 0, .int .i64 2, .int .i64 1, .int .i64 1, .int .i64 3, .int .i64 1, .int .i64 1, .int .i64 0] 3)) br (.int .i64 0) (.int .i64 0) (.int .i64 0) (.int .i64 0) (.bool false) (.slice none 0 0) := ⟨_, rfl⟩
              have E := PA.out.res.set6 (.int .i64 0) (.int .i64 0) (.int .i64 0) (.int .i64 0) (.bool false) (.slice none 0 0)
              have F := off_set6 (wx.alloc (.cells #[.int .i64 0, .int .i64 2, .int .i64 1, .int .i64 1, .int .i64 3, .int .i64 1, .int .i64 1, .int .i64 0] 3)) br (.int .i64 0) (.int .i64 0) (.int .i64 0) (.int .i64 0) (.bool false) (.slice none 0 0)
              rw [← hwE] at E F
              unfold Go.Proofs.YtnaeabfmgfipoaaGreatDoor.set6 at hwE
              rw [← hwE]
              have e0 := E.ce0
              have e1 := E.ce1
              have e2 := E.ce2
              have e3 := E.ce3
              have e4 := E.ce4
              have e5 := E.ce5
              have KE := F.keep PA.out.keep (by have := PA.out.ge; rintro i rfl; exact this.2)
              refine bodyPost_ret (v := .tuple #[.agg #[.int .i64 0, .int .i64 0, .int .i64 0, .int .i64 0, .bool false, .slice none 0 0], .bool false]) (by simp [results, Tryz.results27, go_sem, e0, e1, e2, e3, e4, e5]) rfl (PRes.none hn.out KE)
            · have hd1 : decide ((Lp.length : Int) < 3) = false := decide_eq_false (by omega)
              have hcond : ¬ ((vals Lp).length < need 4 ∨ (need 4 < (vals Lp).length ∧ (4 : Int) ≠ 2 ∧ (4 : Int) ≠ 4)) := by rw [vals_len]; show ¬ (Lp.length < 3 ∨ (3 < Lp.length ∧ _)); omega
              rcases Nat.lt_or_ge 3 Lp.length with h2 | h2
              case' inl => have hd2 : decide ((Lp.length : Int) > 3) = true := decide_eq_true (by omega)
              case' inr => have hd2 : decide ((Lp.length : Int) > 3) = false := decide_eq_false (by omega)
              all_goals
                obtain ⟨V0, hV0⟩ : ∃ V, V = (vals Lp).getD 0 0 := ⟨_, rfl⟩
                have hvv0 := vals_getD Lp 0 (by omega)
                rw [← hV0] at hvv0
                obtain ⟨V1, hV1⟩ : ∃ V, V = (vals Lp).getD 1 0 := ⟨_, rfl⟩
                have hvv1 := vals_getD Lp 1 (by omega)
                rw [← hV1] at hvv1
                obtain ⟨V2, hV2⟩ : ∃ V, V = (vals Lp).getD 2 0 := ⟨_, rfl⟩
                have hvv2 := vals_getD Lp 2 (by omega)
                rw [← hV2] at hvv2
                have hres3 : Hid (res = some ⟨4, V0, V1, V2, fl, (vals Lp).drop 3⟩) := by
                  rw [hV0, hV1, hV2]
                  exact (hres2.out.trans (build_yes hcond)).trans rfl
                replace hcond := Lib.hid hcond
                replace hV0 := Lib.hid hV0
                replace hvv0 := Lib.hid hvv0
                replace hV1 := Lib.hid hV1
                replace hvv1 := Lib.hid hvv1
                replace hV2 := Lib.hid hV2
                replace hvv2 := Lib.hid hvv2
                obtain ⟨gI, hgI, _⟩ := row_at IA0.out (j := 0) (u := .int .i64 V0) (by rw [List.getElem?_map, hvv0.out]; rfl)
                rw [← hwa] at PA IA0 ckind cneed
                have pf0 := PA.out.box.fr1
                have hix0 : ∀ W : World, (Instr.indexAt 71 (.slice IA Lp.length ic) (.int .i64 0)).run Tryz.prog W = .ok (.pointer (some ⟨gI, 0, none⟩)) W := int_at IA Lp.length ic 0 gI hgI (by omega)
                have hix1 : ∀ W : World, (Instr.indexAt 71 (.slice IA Lp.length ic) (.int .i64 1)).run Tryz.prog W = .ok (.pointer (some ⟨gI, 1, none⟩)) W := int_at IA Lp.length ic 1 gI hgI (by omega)
                have hix2 : ∀ W : World, (Instr.indexAt 71 (.slice IA Lp.length ic) (.int .i64 2)).run Tryz.prog W = .ok (.pointer (some ⟨gI, 2, none⟩)) W := int_at IA Lp.length ic 2 gI hgI (by omega)
                have cv0 : (wa).cell? ⟨gI, 0, none⟩ = some (.int .i64 V0) := by
                  obtain ⟨g', e', c'⟩ := row_at IA0.out (j := 0) (u := .int .i64 V0) (by rw [List.getElem?_map, hvv0.out]; rfl)
                  rw [hgI] at e'
                  injection e' with e'
                  injection e' with e'
                  rw [e']
                  exact c'
                have fz0 := PA.out.box.fr1
                have gz0 := PA.out.box.ce1
                have P_id := Lib.hid (PA.out.id V0)
                have I_id := Lib.hid (row_field IA0.out PA.out (by decide) 1 (.int .i64 V0))
                have k_id := P_id.out.box.ce0
                have cv1 : ((wa).setCell ⟨bo, 1, none⟩ (.int .i64 V0)).cell? ⟨gI, 1, none⟩ = some (.int .i64 V1) := by
                  obtain ⟨g', e', c'⟩ := row_at I_id.out (j := 1) (u := .int .i64 V1) (by rw [List.getElem?_map, hvv1.out]; rfl)
                  rw [hgI] at e'
                  injection e' with e'
                  injection e' with e'
                  rw [e']
                  exact c'
                have fz1 := P_id.out.box.fr2
                have gz1 := P_id.out.box.ce2
                have P_cls := Lib.hid (P_id.out.cls V1)
                have I_cls := Lib.hid (row_field I_id.out P_id.out (by decide) 2 (.int .i64 V1))
                have k_cls := P_cls.out.box.ce0
                have cv2 : (((wa).setCell ⟨bo, 1, none⟩ (.int .i64 V0)).setCell ⟨bo, 2, none⟩ (.int .i64 V1)).cell? ⟨gI, 2, none⟩ = some (.int .i64 V2) := by
                  obtain ⟨g', e', c'⟩ := row_at I_cls.out (j := 2) (u := .int .i64 V2) (by rw [List.getElem?_map, hvv2.out]; rfl)
                  rw [hgI] at e'
                  injection e' with e'
                  injection e' with e'
                  rw [e']
                  exact c'
                have fz2 := P_cls.out.box.fr3
                have gz2 := P_cls.out.box.ce3
                have P_n := Lib.hid (P_cls.out.n V2)
                have I_n := Lib.hid (row_field I_cls.out P_cls.out (by decide) 3 (.int .i64 V2))
                have k_n := P_n.out.box.ce0
                have P9 : Hid (RB w bo br ⟨4, V0, V1, V2, fl, []⟩ (.slice none 0 0) ((((wa).setCell ⟨bo, 1, none⟩ (.int .i64 V0)).setCell ⟨bo, 2, none⟩ (.int .i64 V1)).setCell ⟨bo, 3, none⟩ (.int .i64 V2))) := P_n
                rw [hwa] at ckind cneed pf0 cv0 fz0 gz0 k_id cv1 fz1 gz1 k_cls cv2 fz2 gz2 k_n
                replace hgI := Lib.hid hgI
                go_wp2_with fail
                rw [← hwa]
                clear ckind cneed pf0 c00 cv0 fz0 gz0 k_id cv1 fz1 gz1 k_cls cv2 fz2 gz2 k_n
                obtain ⟨w9, hw9⟩ : ∃ w9, w9 = (((wa).setCell ⟨bo, 1, none⟩ (.int .i64 V0)).setCell ⟨bo, 2, none⟩ (.int .i64 V1)).setCell ⟨bo, 3, none⟩ (.int .i64 V2) := ⟨_, rfl⟩
                have I9 := I_n
                rw [← hw9] at P9 I9 ⊢
                replace hw9 := Lib.hid hw9
                go_loopg [13] (Lp.length - 3) (fun g iv wr => ∃ (i : Nat) (av : Value), 3 ≤ i ∧ i ≤ Lp.length ∧ g = Lp.length - i ∧ iv = .int .i64 i ∧ Hid (RB w bo br ⟨4, V0, V1, V2, fl, ((vals Lp).take i).drop 3⟩ av wr) ∧ Hid (wr.ownsRow w.heap.size 3 1 (.slice IA Lp.length ic) Lp.length ((vals Lp).map (.int .i64))))
                case atStart => exact ⟨3, .slice none 0 0, by omega, by omega, by omega, rfl, by
                  have e0 : ((vals Lp).take 3).drop 3 = [] := by rw [List.drop_eq_nil_iff]; rw [List.length_take]; omega
                  rw [e0]
                  exact P9, I9⟩
                case round =>
                  obtain ⟨i, av, hi1, hi2, rfl, rfl, hP9, hI9⟩ := hrel
                  obtain ⟨wz, hwz'⟩ : ∃ x, x = wr := ⟨_, rfl⟩
                  subst hwz'
                  have hlenA : (((vals Lp).take i).drop 3).length = i - 3 := by rw [List.length_drop, List.length_take, vals_len]; omega
                  obtain ⟨A9, c9, rfl⟩ := own_shape hP9.out.own
                  by_cases hlt9 : i < Lp.length
                  · obtain ⟨g9, hg9, cv⟩ := row_at hI9.out (j := i) (u := .int .i64 ((vals Lp).getD i 0)) (by rw [List.getElem?_map, vals_getD Lp i hlt9]; rfl)
                    have hia := int_at IA Lp.length ic i g9 hg9 hlt9
                    have c5 := hP9.out.box.ce5
                    obtain ⟨V, hV⟩ : ∃ V, V = (vals Lp).getD i 0 := ⟨_, rfl⟩
                    rw [← hV] at cv
                    have hsnoc : Hid (((vals Lp).take (i + 1)).drop 3 = ((vals Lp).take i).drop 3 ++ [V]) := by
                      have h1 : (vals Lp).take (i + 1) = (vals Lp).take i ++ [V] := by
                        rw [List.take_add_one, vals_getD Lp i hlt9, ← hV]; rfl
                      rw [h1, List.drop_append_of_le_length (by rw [List.length_take, vals_len]; omega)]
                      rfl
                    obtain ⟨am, ham⟩ : ∃ am, am = ((vals Lp).take i).drop 3 := ⟨_, rfl⟩
                    rw [← ham] at hP9 hlenA c5 hsnoc
                    have hal : am.length ≤ 1048577 := by omega
                    replace hV := Lib.hid hV
                    replace ham := Lib.hid ham
                    replace hg9 := Lib.hid hg9
                    replace hlenA := Lib.hid hlenA
                    have hPk := Lib.hid ((hP9.out.kept (Keep.refl _).drew).kept (Keep.one _ (.cells #[.int .i64 V] 2)))
                    have c6 := (hP9.out.kept (Keep.one wz (.cells #[.int .i64 V] 2))).box.ce5
                    have hsz := hPk.out.keep.size
                    go_wp2_with fail
                    go_region_law (first
                      | (refine step_append_lies _ rfl (.tmp 146) (.tmp 151) 32 rfl w.heap.size 2 i0 (.int .i64 0) 1 8 Tryz.underlying32 hi0 hz0 hz1 hz2 rfl (by decide) (.slice A9 am.length c9) am.length (ints am) (by simp [Act.eval]) hPk.out.own ⟨wz.heap.size, 0, none⟩ 1 1 [.int .i64 V] (by simp [Act.eval]) rfl (cell_one_new _ _ _) (by intro u hu; simp at hu; subst hu; rfl) (by omega) (by unfold maxLen; omega) (by omega) hsz _ rfl ?_; intro g7 cap7 w7 hown7 hgrow7 hat7 hlt7; have fr7 := (hPk.out.grown_box hgrow7).fr5; have ce7 := (hPk.out.grown_box hgrow7).ce5; have P7 := Lib.hid (hPk.out.more hown7 hgrow7); have I7 := Lib.hid (row_box ((own_keep (own_keep hI9.out (Keep.refl _).drew) (Keep.one _ (.cells #[.int .i64 V] 2))).kept hgrow7 (rows_apart (own_keep (own_keep hI9.out (Keep.refl _).drew) (Keep.one _ (.cells #[.int .i64 V] 2))) hPk.out.own (by decide))) (hPk.out.grown_box hgrow7) (by decide) 5 (.slice (some ⟨g7, 0, none⟩) (am.length + 1) cap7)); replace hown7 := Lib.hid hown7; replace hgrow7 := Lib.hid hgrow7; replace hat7 := Lib.hid hat7; replace hlt7 := Lib.hid hlt7))
                    all_goals
                      go_wp2
                      go_roundg (Lp.length - (i + 1))
                      case measure => omega
                      case rel => exact ⟨i + 1, _, by omega, by omega, rfl, by go_num, by rw [hsnoc.out]; exact P7, I7⟩
                  · obtain rfl : i = Lp.length := by omega
                    have hall : (vals Lp).take Lp.length = vals Lp := List.take_of_length_le (by rw [vals_len]; omega)
                    rw [hall] at hP9 hlenA
                    replace hlenA := Lib.hid hlenA
                    obtain ⟨am, ham⟩ : ∃ am, am = (vals Lp).drop 3 := ⟨_, rfl⟩
                    rw [← ham] at hP9 hres3
                    replace ham := Lib.hid ham
                    have q0 := hP9.out.box.ce0
                    have q1 := hP9.out.box.ce1
                    have q2 := hP9.out.box.ce2
                    have q3 := hP9.out.box.ce3
                    have q4 := hP9.out.box.ce4
                    have q5 := hP9.out.box.ce5
                    have r0 := hP9.out.res.fr0
                    have g0 := hP9.out.res.ce0
                    have r1 := hP9.out.res.fr1
                    have g1 := hP9.out.res.ce1
                    have r2 := hP9.out.res.fr2
                    have g2 := hP9.out.res.ce2
                    have r3 := hP9.out.res.fr3
                    have g3 := hP9.out.res.ce3
                    have r4 := hP9.out.res.fr4
                    have g4 := hP9.out.res.ce4
                    have r5 := hP9.out.res.fr5
                    have g5 := hP9.out.res.ce5
                    go_wp2
                    obtain ⟨wE, hwE⟩ : ∃ wE, wE = set6 wz br (.int .i64 4) (.int .i64 V0) (.int .i64 V1) (.int .i64 V2) (.bool fl) (.slice A9 am.length c9) := ⟨_, rfl⟩
                    have E := hP9.out.res.set6 (.int .i64 4) (.int .i64 V0) (.int .i64 V1) (.int .i64 V2) (.bool fl) (.slice A9 am.length c9)
                    have F := off_set6 wz br (.int .i64 4) (.int .i64 V0) (.int .i64 V1) (.int .i64 V2) (.bool fl) (.slice A9 am.length c9)
                    rw [← hwE] at E F
                    unfold Go.Proofs.YtnaeabfmgfipoaaGreatDoor.set6 at hwE
                    rw [← hwE]
                    have e0 := E.ce0
                    have e1 := E.ce1
                    have e2 := E.ce2
                    have e3 := E.ce3
                    have e4 := E.ce4
                    have e5 := E.ce5
                    have KE := F.keep hP9.out.keep (by have := hP9.out.ge; rintro i rfl; exact this.2)
                    refine bodyPost_ret (v := .tuple #[.agg #[.int .i64 4, .int .i64 V0, .int .i64 V1, .int .i64 V2, .bool fl, .slice A9 am.length c9], .bool true]) (by simp [results, Tryz.results27, go_sem, e0, e1, e2, e3, e4, e5]) rfl (PRes.some hres3.out KE (F.own hP9.out.own (fun k hk e => hP9.out.notl k hk (Or.inr e))))
      · obtain ⟨Lp, hLpe⟩ : ∃ Lp, Lp = L := ⟨_, rfl⟩
        obtain ⟨fl, hfl⟩ : ∃ fl, fl = false := ⟨_, rfl⟩
        have hres2 : Hid (res = (numsRead Lp).bind (buildOp 5 fl)) := by rw [hres.out, parseOf, hκ, if_neg (by omega), if_neg (by omega), hLpe, hfl]; rfl
        have hLp : Hid (∀ j (h : j < Lp.length), L[j]? = some Lp[j]) := by subst hLpe; exact fun j h => List.getElem?_eq_getElem h
        have hLl : Lp.length ≤ L.length ∧ Lp.length ≤ 1048577 ∧ Lp.length + 1 = L.length + 1 := by subst hLpe; exact ⟨Nat.le_refl _, by omega, rfl⟩
        replace hκ := Lib.hid hκ
        replace hLpe := Lib.hid hLpe
        have hP : Hid (RB w bo br { zeroD with kind := 5, flag := fl } (.slice none 0 0) wq) := by rw [hfl]; exact hP
        replace hfl := Lib.hid hfl
        have b0 := hP.out.box.ce0

        go_wp2_with fail
        go_loopg [8, 9] (Lp.length) (fun g lv iv wr => ∃ (j : Nat) (v8 : Value), j ≤ Lp.length ∧ g = Lp.length - j ∧ lv = v8 ∧ iv = .int .i64 (j + 1) ∧ Hid (oks (Lp.take j) = true) ∧ Hid (RB w bo br { zeroD with kind := 5, flag := fl } (.slice none 0 0) wr) ∧ Hid (wr.ownsRow w.heap.size 9 1 (.slice WA (L.length + 1) wc) (L.length + 1) ((x :: L).map .string)) ∧ Hid (wr.ownsRow w.heap.size 3 1 v8 j ((vals (Lp.take j)).map (.int .i64))))
        case atStart => exact ⟨0, .slice none 0 0, Nat.zero_le _, rfl, rfl, rfl, rfl, hP, hW, World.ownsRow_nil _ _ _ _⟩
        case round =>
          obtain ⟨j, v8, hj, rfl, rfl, rfl, hok, hP2, hW2, hI⟩ := hrel
          obtain ⟨wx, hwx⟩ : ∃ x, x = wr := ⟨_, rfl⟩
          subst hwx
          obtain ⟨IA, ic, rfl⟩ := own_shape hI.out
          by_cases hlt : j < Lp.length
          · have hLj := hLp.out j hlt
            have hjL : j < L.length := by have := hLl; omega
            obtain ⟨gW, hgW, cw⟩ := row_at hW2.out (j := j + 1) (u := .string Lp[j]) (by rw [List.map_cons, List.getElem?_cons_succ, List.getElem?_map, hLj]; rfl)
            have hia : ∀ W : World, (Instr.indexAt 49 (.slice WA (L.length + 1) wc) (.int .i64 (j + 1))).run Tryz.prog W = .ok (.pointer (some ⟨gW, j + 1, none⟩)) W := fun W => str_at WA (L.length + 1) wc (j + 1) gW hgW (by omega) W
            have hmem : Lp[j] ∈ x :: L := List.mem_cons_of_mem _ (List.mem_of_getElem? hLj)
            have hnm := Lib.hid (hnum.out Lp[j] hmem wx)
            have hmem2 := List.getElem_mem hlt
            obtain ⟨y, hy⟩ : ∃ y, y = Lp[j] := ⟨_, rfl⟩
            have hcur : ((j : Int) + 1 < (L.length + 1 : Nat)) := by omega
            have htk := take_next hlt
            rw [← hy] at cw hnm hmem2 htk
            replace hy := Lib.hid hy
            replace hLj := Lib.hid hLj
            replace hgW := Lib.hid hgW
            obtain ⟨o, ho⟩ : ∃ o, o = numOf y := ⟨_, rfl⟩
            rw [← ho] at hnm
            go_wp2_with fail
            refine hnm.out.mono ?_
            rintro e w5 ⟨rfl, rfl⟩
            cases o with
            | none =>
              have hn : Hid (res = none) := hres2.out.trans (bind_none (oks_mem hmem2 ho.symm))
              replace hmem2 := Lib.hid hmem2
              replace ho := Lib.hid ho
              have r0 := hP2.out.res.fr0
              have g0 := hP2.out.res.ce0
              have r1 := hP2.out.res.fr1
              have g1 := hP2.out.res.ce1
              have r2 := hP2.out.res.fr2
              have g2 := hP2.out.res.ce2
              have r3 := hP2.out.res.fr3
              have g3 := hP2.out.res.ce3
              have r4 := hP2.out.res.fr4
              have g4 := hP2.out.res.ce4
              have r5 := hP2.out.res.fr5
              have g5 := hP2.out.res.ce5
              go_wp2
              obtain ⟨wE, hwE⟩ : ∃ wE, wE = set6 wx br (.int .i64 0) (.int .i64 0) (.int .i64 0) (.int .i64 0) (.bool false) (.slice none 0 0) := ⟨_, rfl⟩
              have E := hP2.out.res.set6 (.int .i64 0) (.int .i64 0) (.int .i64 0) (.int .i64 0) (.bool false) (.slice none 0 0)
              have F := off_set6 wx br (.int .i64 0) (.int .i64 0) (.int .i64 0) (.int .i64 0) (.bool false) (.slice none 0 0)
              rw [← hwE] at E F
              unfold Go.Proofs.YtnaeabfmgfipoaaGreatDoor.set6 at hwE
              rw [← hwE]
              have e0 := E.ce0
              have e1 := E.ce1
              have e2 := E.ce2
              have e3 := E.ce3
              have e4 := E.ce4
              have e5 := E.ce5
              have KE := F.keep hP2.out.keep (by have := hP2.out.ge; rintro i rfl; exact this.2)
              refine bodyPost_ret (v := .tuple #[.agg #[.int .i64 0, .int .i64 0, .int .i64 0, .int .i64 0, .bool false, .slice none 0 0], .bool false]) (by simp [results, Tryz.results27, go_sem, e0, e1, e2, e3, e4, e5]) rfl (PRes.none hn.out KE)
            | some u =>
              have hok2 : Hid (oks (Lp.take (j + 1)) = true) := by rw [htk, oks_snoc, hok.out, ← ho]; rfl
              have hv2 : Hid (vals (Lp.take (j + 1)) = vals (Lp.take j) ++ [u]) := by rw [htk, vals_snoc, ← ho]; rfl
              replace hmem2 := Lib.hid hmem2
              replace ho := Lib.hid ho
              replace htk := Lib.hid htk
              have hIk := Lib.hid (own_keep hI.out (Keep.one wx (.cells #[.int .i64 u] 3)))
              have hPk := Lib.hid (hP2.out.kept (Keep.one wx (.cells #[.int .i64 u] 3)))
              have hWk := Lib.hid (own_keep hW2.out (Keep.one wx (.cells #[.int .i64 u] 3)))
              have hsz := hP2.out.keep.size
              have hjb : j ≤ 1048577 := by have := hLl; omega
              go_wp2_with (at_builtin; refine wpList_append_lies _ rfl (.tmp 76) (.tmp 78) 71 rfl w.heap.size 3 j0 (.int .i64 0) 1 8 Tryz.underlying71 hj0 hy0 hy1 hy2 rfl (by decide) (.slice IA j ic) j ((vals (Lp.take j)).map (.int .i64)) (by simp [Act.eval]) hIk.out ⟨wx.heap.size, 0, none⟩ 1 1 [.int .i64 u] (by simp [Act.eval]) rfl (cell_one_new _ _ _) (by intro q hq; simp at hq; subst hq; rfl) (by omega) (by unfold maxLen; omega) (by omega) (by simp; omega) _ rfl ?_; intro g6 cap6 w6 h6 hg6 ha6 hl6; have P6 := Lib.hid (hPk.out.grown hIk.out (Nat.le_refl _) (by decide) (by decide) hg6); have W6 := Lib.hid (hWk.out.kept hg6 (rows_apart hWk.out hIk.out (by decide))); replace h6 := Lib.hid h6; replace hg6 := Lib.hid hg6; replace ha6 := Lib.hid ha6; replace hl6 := Lib.hid hl6)
              have I6 : Hid (w6.ownsRow w.heap.size 3 1 (.slice (some ⟨g6, 0, none⟩) (j + 1) cap6) (j + 1) ((vals (Lp.take (j + 1))).map (.int .i64))) := by rw [hv2.out, List.map_append]; exact h6.out
              clear cw hia
              go_roundg (Lp.length - (j + 1))
              case measure => omega
              case rel => exact ⟨j + 1, _, by omega, rfl, rfl, by go_num, hok2, P6, W6, I6⟩
          · obtain rfl : j = Lp.length := by omega
            have hcur : ¬ ((Lp.length : Int) + 1 < (L.length + 1 : Nat)) := by omega
            rw [List.take_length] at hok hI
            rw [bind_some hok.out] at hres2
            clear hlt
            have ka : Keep wx (wx.alloc (.cells #[.int .i64 0, .int .i64 2, .int .i64 1, .int .i64 1, .int .i64 3, .int .i64 1, .int .i64 1, .int .i64 0] 3)) := Keep.one _ _
            have PA := Lib.hid (hP2.out.kept ka)
            have IA0 := Lib.hid (own_keep hI.out ka)
            have ckind : (wx.alloc (.cells #[.int .i64 0, .int .i64 2, .int .i64 1, .int .i64 1, .int .i64 3, .int .i64 1, .int .i64 1, .int .i64 0] 3)).cell? ⟨bo, 0, none⟩ = some (.int .i64 5) := PA.out.box.ce0
            have cneed : (wx.alloc (.cells #[.int .i64 0, .int .i64 2, .int .i64 1, .int .i64 1, .int .i64 3, .int .i64 1, .int .i64 1, .int .i64 0] 3)).cell? ⟨wx.heap.size, 5, none⟩ = some (.int .i64 1) := by rw [cell_of_row _ wx.heap.size _ _ _ _ (heap_alloc_new wx _)]; rfl
            have c00 := hP2.out.box.ce0
            obtain ⟨wa, hwa⟩ : ∃ wa, wa = wx.alloc (.cells #[.int .i64 0, .int .i64 2, .int .i64 1, .int .i64 1, .int .i64 3, .int .i64 1, .int .i64 1, .int .i64 0] 3) := ⟨_, rfl⟩
            replace ka := Lib.hid ka
            have hml := hLl.2.1
            by_cases h1 : Lp.length < 1
            · have hn : Hid (res = none) := hres2.out.trans (build_no (by rw [vals_len]; left; show Lp.length < 1; exact h1))
              have hd1 : decide ((Lp.length : Int) < 1) = true := decide_eq_true (by omega)
              have r0 := PA.out.res.fr0
              have g0 := PA.out.res.ce0
              have r1 := PA.out.res.fr1
              have g1 := PA.out.res.ce1
              have r2 := PA.out.res.fr2
              have g2 := PA.out.res.ce2
              have r3 := PA.out.res.fr3
              have g3 := PA.out.res.ce3
              have r4 := PA.out.res.fr4
              have g4 := PA.out.res.ce4
              have r5 := PA.out.res.fr5
              have g5 := PA.out.res.ce5
              go_wp2
              obtain ⟨wE, hwE⟩ : ∃ wE, wE = set6 (wx.alloc (.cells #[.int .i64 0, .int .i64 2, .int .i64 1, .int .i64 1, .int .i64 3, .int .i64 1, .int .i64 1, .int .i64 0] 3)) br (.int .i64 0) (.int .i64 0) (.int .i64 0) (.int .i64 0) (.bool false) (.slice none 0 0) := ⟨_, rfl⟩
              have E := PA.out.res.set6 (.int .i64 0) (.int .i64 0) (.int .i64 0) (.int .i64 0) (.bool false) (.slice none 0 0)
              have F := off_set6 (wx.alloc (.cells #[.int .i64 0, .int .i64 2, .int .i64 1, .int .i64 1, .int .i64 3, .int .i64 1, .int .i64 1, .int .i64 0] 3)) br (.int .i64 0) (.int .i64 0) (.int .i64 0) (.int .i64 0) (.bool false) (.slice none 0 0)
              rw [← hwE] at E F
              unfold Go.Proofs.YtnaeabfmgfipoaaGreatDoor.set6 at hwE
              rw [← hwE]
              have e0 := E.ce0
              have e1 := E.ce1
              have e2 := E.ce2
              have e3 := E.ce3
              have e4 := E.ce4
              have e5 := E.ce5
              have KE := F.keep PA.out.keep (by have := PA.out.ge; rintro i rfl; exact this.2)
              refine bodyPost_ret (v := .tuple #[.agg #[.int .i64 0, .int .i64 0, .int .i64 0, .int .i64 0, .bool false, .slice none 0 0], .bool false]) (by simp [results, Tryz.results27, go_sem, e0, e1, e2, e3, e4, e5]) rfl (PRes.none hn.out KE)
            · have hd1 : decide ((Lp.length : Int) < 1) = false := decide_eq_false (by omega)
              by_cases h2 : 1 < Lp.length
              · have hn : Hid (res = none) := hres2.out.trans (build_no (by rw [vals_len]; right; exact ⟨h2, by omega, by omega⟩))
                have hd2 : decide ((Lp.length : Int) > 1) = true := decide_eq_true (by omega)
                have r0 := PA.out.res.fr0
                have g0 := PA.out.res.ce0
                have r1 := PA.out.res.fr1
                have g1 := PA.out.res.ce1
                have r2 := PA.out.res.fr2
                have g2 := PA.out.res.ce2
                have r3 := PA.out.res.fr3
                have g3 := PA.out.res.ce3
                have r4 := PA.out.res.fr4
                have g4 := PA.out.res.ce4
                have r5 := PA.out.res.fr5
                have g5 := PA.out.res.ce5
                go_wp2
                obtain ⟨wE, hwE⟩ : ∃ wE, wE = set6 (wx.alloc (.cells #[.int .i64 0, .int .i64 2, .int .i64 1, .int .i64 1, .int .i64 3, .int .i64 1, .int .i64 1, .int .i64 0] 3)) br (.int .i64 0) (.int .i64 0) (.int .i64 0) (.int .i64 0) (.bool false) (.slice none 0 0) := ⟨_, rfl⟩
                have E := PA.out.res.set6 (.int .i64 0) (.int .i64 0) (.int .i64 0) (.int .i64 0) (.bool false) (.slice none 0 0)
                have F := off_set6 (wx.alloc (.cells #[.int .i64 0, .int .i64 2, .int .i64 1, .int .i64 1, .int .i64 3, .int .i64 1, .int .i64 1, .int .i64 0] 3)) br (.int .i64 0) (.int .i64 0) (.int .i64 0) (.int .i64 0) (.bool false) (.slice none 0 0)
                rw [← hwE] at E F
                unfold Go.Proofs.YtnaeabfmgfipoaaGreatDoor.set6 at hwE
                rw [← hwE]
                have e0 := E.ce0
                have e1 := E.ce1
                have e2 := E.ce2
                have e3 := E.ce3
                have e4 := E.ce4
                have e5 := E.ce5
                have KE := F.keep PA.out.keep (by have := PA.out.ge; rintro i rfl; exact this.2)
                refine bodyPost_ret (v := .tuple #[.agg #[.int .i64 0, .int .i64 0, .int .i64 0, .int .i64 0, .bool false, .slice none 0 0], .bool false]) (by simp [results, Tryz.results27, go_sem, e0, e1, e2, e3, e4, e5]) rfl (PRes.none hn.out KE)
              · have hd2 : decide ((Lp.length : Int) > 1) = false := decide_eq_false (by omega)
                have hcond : ¬ ((vals Lp).length < need 5 ∨ (need 5 < (vals Lp).length ∧ (5 : Int) ≠ 2 ∧ (5 : Int) ≠ 4)) := by rw [vals_len]; show ¬ (Lp.length < 1 ∨ (1 < Lp.length ∧ _)); omega
                obtain ⟨V0, hV0⟩ : ∃ V, V = (vals Lp).getD 0 0 := ⟨_, rfl⟩
                have hvv0 := vals_getD Lp 0 (by omega)
                rw [← hV0] at hvv0
                have hres3 : Hid (res = some ⟨5, V0, 0, 0, fl, (vals Lp).drop 1⟩) := by
                  rw [hV0]
                  exact (hres2.out.trans (build_yes hcond)).trans rfl
                replace hcond := Lib.hid hcond
                replace hV0 := Lib.hid hV0
                replace hvv0 := Lib.hid hvv0
                obtain ⟨gI, hgI, _⟩ := row_at IA0.out (j := 0) (u := .int .i64 V0) (by rw [List.getElem?_map, hvv0.out]; rfl)
                rw [← hwa] at PA IA0 ckind cneed
                have pf0 := PA.out.box.fr1
                have hix0 : ∀ W : World, (Instr.indexAt 71 (.slice IA Lp.length ic) (.int .i64 0)).run Tryz.prog W = .ok (.pointer (some ⟨gI, 0, none⟩)) W := int_at IA Lp.length ic 0 gI hgI (by omega)
                have cv0 : (wa).cell? ⟨gI, 0, none⟩ = some (.int .i64 V0) := by
                  obtain ⟨g', e', c'⟩ := row_at IA0.out (j := 0) (u := .int .i64 V0) (by rw [List.getElem?_map, hvv0.out]; rfl)
                  rw [hgI] at e'
                  injection e' with e'
                  injection e' with e'
                  rw [e']
                  exact c'
                have fz0 := PA.out.box.fr1
                have gz0 := PA.out.box.ce1
                have P_id := Lib.hid (PA.out.id V0)
                have I_id := Lib.hid (row_field IA0.out PA.out (by decide) 1 (.int .i64 V0))
                have k_id := P_id.out.box.ce0
                have P9 : Hid (RB w bo br ⟨5, V0, 0, 0, fl, []⟩ (.slice none 0 0) ((wa).setCell ⟨bo, 1, none⟩ (.int .i64 V0))) := P_id
                rw [hwa] at ckind cneed pf0 cv0 fz0 gz0 k_id
                replace hgI := Lib.hid hgI
                go_wp2_with fail
                rw [← hwa]
                clear ckind cneed pf0 c00 cv0 fz0 gz0 k_id
                obtain ⟨w9, hw9⟩ : ∃ w9, w9 = (wa).setCell ⟨bo, 1, none⟩ (.int .i64 V0) := ⟨_, rfl⟩
                have I9 := I_id
                rw [← hw9] at P9 I9 ⊢
                replace hw9 := Lib.hid hw9
                go_loopg [13] (Lp.length - 1) (fun g iv wr => ∃ (i : Nat) (av : Value), 1 ≤ i ∧ i ≤ Lp.length ∧ g = Lp.length - i ∧ iv = .int .i64 i ∧ Hid (RB w bo br ⟨5, V0, 0, 0, fl, ((vals Lp).take i).drop 1⟩ av wr) ∧ Hid (wr.ownsRow w.heap.size 3 1 (.slice IA Lp.length ic) Lp.length ((vals Lp).map (.int .i64))))
                case atStart => exact ⟨1, .slice none 0 0, by omega, by omega, by omega, rfl, by
                  have e0 : ((vals Lp).take 1).drop 1 = [] := by rw [List.drop_eq_nil_iff]; rw [List.length_take]; omega
                  rw [e0]
                  exact P9, I9⟩
                case round =>
                  obtain ⟨i, av, hi1, hi2, rfl, rfl, hP9, hI9⟩ := hrel
                  obtain ⟨wz, hwz'⟩ : ∃ x, x = wr := ⟨_, rfl⟩
                  subst hwz'
                  have hlenA : (((vals Lp).take i).drop 1).length = i - 1 := by rw [List.length_drop, List.length_take, vals_len]; omega
                  obtain ⟨A9, c9, rfl⟩ := own_shape hP9.out.own
                  by_cases hlt9 : i < Lp.length
                  · obtain ⟨g9, hg9, cv⟩ := row_at hI9.out (j := i) (u := .int .i64 ((vals Lp).getD i 0)) (by rw [List.getElem?_map, vals_getD Lp i hlt9]; rfl)
                    have hia := int_at IA Lp.length ic i g9 hg9 hlt9
                    have c5 := hP9.out.box.ce5
                    obtain ⟨V, hV⟩ : ∃ V, V = (vals Lp).getD i 0 := ⟨_, rfl⟩
                    rw [← hV] at cv
                    have hsnoc : Hid (((vals Lp).take (i + 1)).drop 1 = ((vals Lp).take i).drop 1 ++ [V]) := by
                      have h1 : (vals Lp).take (i + 1) = (vals Lp).take i ++ [V] := by
                        rw [List.take_add_one, vals_getD Lp i hlt9, ← hV]; rfl
                      rw [h1, List.drop_append_of_le_length (by rw [List.length_take, vals_len]; omega)]
                      rfl
                    obtain ⟨am, ham⟩ : ∃ am, am = ((vals Lp).take i).drop 1 := ⟨_, rfl⟩
                    rw [← ham] at hP9 hlenA c5 hsnoc
                    have hal : am.length ≤ 1048577 := by omega
                    replace hV := Lib.hid hV
                    replace ham := Lib.hid ham
                    replace hg9 := Lib.hid hg9
                    replace hlenA := Lib.hid hlenA
                    have hPk := Lib.hid ((hP9.out.kept (Keep.refl _).drew).kept (Keep.one _ (.cells #[.int .i64 V] 2)))
                    have c6 := (hP9.out.kept (Keep.one wz (.cells #[.int .i64 V] 2))).box.ce5
                    have hsz := hPk.out.keep.size
                    go_wp2_with fail
                    go_region_law (first
                      | (refine step_append_lies _ rfl (.tmp 146) (.tmp 151) 32 rfl w.heap.size 2 i0 (.int .i64 0) 1 8 Tryz.underlying32 hi0 hz0 hz1 hz2 rfl (by decide) (.slice A9 am.length c9) am.length (ints am) (by simp [Act.eval]) hPk.out.own ⟨wz.heap.size, 0, none⟩ 1 1 [.int .i64 V] (by simp [Act.eval]) rfl (cell_one_new _ _ _) (by intro u hu; simp at hu; subst hu; rfl) (by omega) (by unfold maxLen; omega) (by omega) hsz _ rfl ?_; intro g7 cap7 w7 hown7 hgrow7 hat7 hlt7; have fr7 := (hPk.out.grown_box hgrow7).fr5; have ce7 := (hPk.out.grown_box hgrow7).ce5; have P7 := Lib.hid (hPk.out.more hown7 hgrow7); have I7 := Lib.hid (row_box ((own_keep (own_keep hI9.out (Keep.refl _).drew) (Keep.one _ (.cells #[.int .i64 V] 2))).kept hgrow7 (rows_apart (own_keep (own_keep hI9.out (Keep.refl _).drew) (Keep.one _ (.cells #[.int .i64 V] 2))) hPk.out.own (by decide))) (hPk.out.grown_box hgrow7) (by decide) 5 (.slice (some ⟨g7, 0, none⟩) (am.length + 1) cap7)); replace hown7 := Lib.hid hown7; replace hgrow7 := Lib.hid hgrow7; replace hat7 := Lib.hid hat7; replace hlt7 := Lib.hid hlt7))
                    all_goals
                      go_wp2
                      go_roundg (Lp.length - (i + 1))
                      case measure => omega
                      case rel => exact ⟨i + 1, _, by omega, by omega, rfl, by go_num, by rw [hsnoc.out]; exact P7, I7⟩
                  · obtain rfl : i = Lp.length := by omega
                    have hall : (vals Lp).take Lp.length = vals Lp := List.take_of_length_le (by rw [vals_len]; omega)
                    rw [hall] at hP9 hlenA
                    replace hlenA := Lib.hid hlenA
                    obtain ⟨am, ham⟩ : ∃ am, am = (vals Lp).drop 1 := ⟨_, rfl⟩
                    rw [← ham] at hP9 hres3
                    replace ham := Lib.hid ham
                    have q0 := hP9.out.box.ce0
                    have q1 := hP9.out.box.ce1
                    have q2 := hP9.out.box.ce2
                    have q3 := hP9.out.box.ce3
                    have q4 := hP9.out.box.ce4
                    have q5 := hP9.out.box.ce5
                    have r0 := hP9.out.res.fr0
                    have g0 := hP9.out.res.ce0
                    have r1 := hP9.out.res.fr1
                    have g1 := hP9.out.res.ce1
                    have r2 := hP9.out.res.fr2
                    have g2 := hP9.out.res.ce2
                    have r3 := hP9.out.res.fr3
                    have g3 := hP9.out.res.ce3
                    have r4 := hP9.out.res.fr4
                    have g4 := hP9.out.res.ce4
                    have r5 := hP9.out.res.fr5
                    have g5 := hP9.out.res.ce5
                    go_wp2
                    obtain ⟨wE, hwE⟩ : ∃ wE, wE = set6 wz br (.int .i64 5) (.int .i64 V0) (.int .i64 0) (.int .i64 0) (.bool fl) (.slice A9 am.length c9) := ⟨_, rfl⟩
                    have E := hP9.out.res.set6 (.int .i64 5) (.int .i64 V0) (.int .i64 0) (.int .i64 0) (.bool fl) (.slice A9 am.length c9)
                    have F := off_set6 wz br (.int .i64 5) (.int .i64 V0) (.int .i64 0) (.int .i64 0) (.bool fl) (.slice A9 am.length c9)
                    rw [← hwE] at E F
                    unfold Go.Proofs.YtnaeabfmgfipoaaGreatDoor.set6 at hwE
                    rw [← hwE]
                    have e0 := E.ce0
                    have e1 := E.ce1
                    have e2 := E.ce2
                    have e3 := E.ce3
                    have e4 := E.ce4
                    have e5 := E.ce5
                    have KE := F.keep hP9.out.keep (by have := hP9.out.ge; rintro i rfl; exact this.2)
                    refine bodyPost_ret (v := .tuple #[.agg #[.int .i64 5, .int .i64 V0, .int .i64 0, .int .i64 0, .bool fl, .slice A9 am.length c9], .bool true]) (by simp [results, Tryz.results27, go_sem, e0, e1, e2, e3, e4, e5]) rfl (PRes.some hres3.out KE (F.own hP9.out.own (fun k hk e => hP9.out.notl k hk (Or.inr e))))
      · obtain ⟨Lp, hLpe⟩ : ∃ Lp, Lp = L := ⟨_, rfl⟩
        obtain ⟨fl, hfl⟩ : ∃ fl, fl = false := ⟨_, rfl⟩
        have hres2 : Hid (res = (numsRead Lp).bind (buildOp 6 fl)) := by rw [hres.out, parseOf, hκ, if_neg (by omega), if_neg (by omega), hLpe, hfl]; rfl
        have hLp : Hid (∀ j (h : j < Lp.length), L[j]? = some Lp[j]) := by subst hLpe; exact fun j h => List.getElem?_eq_getElem h
        have hLl : Lp.length ≤ L.length ∧ Lp.length ≤ 1048577 ∧ Lp.length + 1 = L.length + 1 := by subst hLpe; exact ⟨Nat.le_refl _, by omega, rfl⟩
        replace hκ := Lib.hid hκ
        replace hLpe := Lib.hid hLpe
        have hP : Hid (RB w bo br { zeroD with kind := 6, flag := fl } (.slice none 0 0) wq) := by rw [hfl]; exact hP
        replace hfl := Lib.hid hfl
        have b0 := hP.out.box.ce0

        go_wp2_with fail
        go_loopg [8, 9] (Lp.length) (fun g lv iv wr => ∃ (j : Nat) (v8 : Value), j ≤ Lp.length ∧ g = Lp.length - j ∧ lv = v8 ∧ iv = .int .i64 (j + 1) ∧ Hid (oks (Lp.take j) = true) ∧ Hid (RB w bo br { zeroD with kind := 6, flag := fl } (.slice none 0 0) wr) ∧ Hid (wr.ownsRow w.heap.size 9 1 (.slice WA (L.length + 1) wc) (L.length + 1) ((x :: L).map .string)) ∧ Hid (wr.ownsRow w.heap.size 3 1 v8 j ((vals (Lp.take j)).map (.int .i64))))
        case atStart => exact ⟨0, .slice none 0 0, Nat.zero_le _, rfl, rfl, rfl, rfl, hP, hW, World.ownsRow_nil _ _ _ _⟩
        case round =>
          obtain ⟨j, v8, hj, rfl, rfl, rfl, hok, hP2, hW2, hI⟩ := hrel
          obtain ⟨wx, hwx⟩ : ∃ x, x = wr := ⟨_, rfl⟩
          subst hwx
          obtain ⟨IA, ic, rfl⟩ := own_shape hI.out
          by_cases hlt : j < Lp.length
          · have hLj := hLp.out j hlt
            have hjL : j < L.length := by have := hLl; omega
            obtain ⟨gW, hgW, cw⟩ := row_at hW2.out (j := j + 1) (u := .string Lp[j]) (by rw [List.map_cons, List.getElem?_cons_succ, List.getElem?_map, hLj]; rfl)
            have hia : ∀ W : World, (Instr.indexAt 49 (.slice WA (L.length + 1) wc) (.int .i64 (j + 1))).run Tryz.prog W = .ok (.pointer (some ⟨gW, j + 1, none⟩)) W := fun W => str_at WA (L.length + 1) wc (j + 1) gW hgW (by omega) W
            have hmem : Lp[j] ∈ x :: L := List.mem_cons_of_mem _ (List.mem_of_getElem? hLj)
            have hnm := Lib.hid (hnum.out Lp[j] hmem wx)
            have hmem2 := List.getElem_mem hlt
            obtain ⟨y, hy⟩ : ∃ y, y = Lp[j] := ⟨_, rfl⟩
            have hcur : ((j : Int) + 1 < (L.length + 1 : Nat)) := by omega
            have htk := take_next hlt
            rw [← hy] at cw hnm hmem2 htk
            replace hy := Lib.hid hy
            replace hLj := Lib.hid hLj
            replace hgW := Lib.hid hgW
            obtain ⟨o, ho⟩ : ∃ o, o = numOf y := ⟨_, rfl⟩
            rw [← ho] at hnm
            go_wp2_with fail
            refine hnm.out.mono ?_
            rintro e w5 ⟨rfl, rfl⟩
            cases o with
            | none =>
              have hn : Hid (res = none) := hres2.out.trans (bind_none (oks_mem hmem2 ho.symm))
              replace hmem2 := Lib.hid hmem2
              replace ho := Lib.hid ho
              have r0 := hP2.out.res.fr0
              have g0 := hP2.out.res.ce0
              have r1 := hP2.out.res.fr1
              have g1 := hP2.out.res.ce1
              have r2 := hP2.out.res.fr2
              have g2 := hP2.out.res.ce2
              have r3 := hP2.out.res.fr3
              have g3 := hP2.out.res.ce3
              have r4 := hP2.out.res.fr4
              have g4 := hP2.out.res.ce4
              have r5 := hP2.out.res.fr5
              have g5 := hP2.out.res.ce5
              go_wp2
              obtain ⟨wE, hwE⟩ : ∃ wE, wE = set6 wx br (.int .i64 0) (.int .i64 0) (.int .i64 0) (.int .i64 0) (.bool false) (.slice none 0 0) := ⟨_, rfl⟩
              have E := hP2.out.res.set6 (.int .i64 0) (.int .i64 0) (.int .i64 0) (.int .i64 0) (.bool false) (.slice none 0 0)
              have F := off_set6 wx br (.int .i64 0) (.int .i64 0) (.int .i64 0) (.int .i64 0) (.bool false) (.slice none 0 0)
              rw [← hwE] at E F
              unfold Go.Proofs.YtnaeabfmgfipoaaGreatDoor.set6 at hwE
              rw [← hwE]
              have e0 := E.ce0
              have e1 := E.ce1
              have e2 := E.ce2
              have e3 := E.ce3
              have e4 := E.ce4
              have e5 := E.ce5
              have KE := F.keep hP2.out.keep (by have := hP2.out.ge; rintro i rfl; exact this.2)
              refine bodyPost_ret (v := .tuple #[.agg #[.int .i64 0, .int .i64 0, .int .i64 0, .int .i64 0, .bool false, .slice none 0 0], .bool false]) (by simp [results, Tryz.results27, go_sem, e0, e1, e2, e3, e4, e5]) rfl (PRes.none hn.out KE)
            | some u =>
              have hok2 : Hid (oks (Lp.take (j + 1)) = true) := by rw [htk, oks_snoc, hok.out, ← ho]; rfl
              have hv2 : Hid (vals (Lp.take (j + 1)) = vals (Lp.take j) ++ [u]) := by rw [htk, vals_snoc, ← ho]; rfl
              replace hmem2 := Lib.hid hmem2
              replace ho := Lib.hid ho
              replace htk := Lib.hid htk
              have hIk := Lib.hid (own_keep hI.out (Keep.one wx (.cells #[.int .i64 u] 3)))
              have hPk := Lib.hid (hP2.out.kept (Keep.one wx (.cells #[.int .i64 u] 3)))
              have hWk := Lib.hid (own_keep hW2.out (Keep.one wx (.cells #[.int .i64 u] 3)))
              have hsz := hP2.out.keep.size
              have hjb : j ≤ 1048577 := by have := hLl; omega
              go_wp2_with (at_builtin; refine wpList_append_lies _ rfl (.tmp 76) (.tmp 78) 71 rfl w.heap.size 3 j0 (.int .i64 0) 1 8 Tryz.underlying71 hj0 hy0 hy1 hy2 rfl (by decide) (.slice IA j ic) j ((vals (Lp.take j)).map (.int .i64)) (by simp [Act.eval]) hIk.out ⟨wx.heap.size, 0, none⟩ 1 1 [.int .i64 u] (by simp [Act.eval]) rfl (cell_one_new _ _ _) (by intro q hq; simp at hq; subst hq; rfl) (by omega) (by unfold maxLen; omega) (by omega) (by simp; omega) _ rfl ?_; intro g6 cap6 w6 h6 hg6 ha6 hl6; have P6 := Lib.hid (hPk.out.grown hIk.out (Nat.le_refl _) (by decide) (by decide) hg6); have W6 := Lib.hid (hWk.out.kept hg6 (rows_apart hWk.out hIk.out (by decide))); replace h6 := Lib.hid h6; replace hg6 := Lib.hid hg6; replace ha6 := Lib.hid ha6; replace hl6 := Lib.hid hl6)
              have I6 : Hid (w6.ownsRow w.heap.size 3 1 (.slice (some ⟨g6, 0, none⟩) (j + 1) cap6) (j + 1) ((vals (Lp.take (j + 1))).map (.int .i64))) := by rw [hv2.out, List.map_append]; exact h6.out
              clear cw hia
              go_roundg (Lp.length - (j + 1))
              case measure => omega
              case rel => exact ⟨j + 1, _, by omega, rfl, rfl, by go_num, hok2, P6, W6, I6⟩
          · obtain rfl : j = Lp.length := by omega
            have hcur : ¬ ((Lp.length : Int) + 1 < (L.length + 1 : Nat)) := by omega
            rw [List.take_length] at hok hI
            rw [bind_some hok.out] at hres2
            clear hlt
            have ka : Keep wx (wx.alloc (.cells #[.int .i64 0, .int .i64 2, .int .i64 1, .int .i64 1, .int .i64 3, .int .i64 1, .int .i64 1, .int .i64 0] 3)) := Keep.one _ _
            have PA := Lib.hid (hP2.out.kept ka)
            have IA0 := Lib.hid (own_keep hI.out ka)
            have ckind : (wx.alloc (.cells #[.int .i64 0, .int .i64 2, .int .i64 1, .int .i64 1, .int .i64 3, .int .i64 1, .int .i64 1, .int .i64 0] 3)).cell? ⟨bo, 0, none⟩ = some (.int .i64 6) := PA.out.box.ce0
            have cneed : (wx.alloc (.cells #[.int .i64 0, .int .i64 2, .int .i64 1, .int .i64 1, .int .i64 3, .int .i64 1, .int .i64 1, .int .i64 0] 3)).cell? ⟨wx.heap.size, 6, none⟩ = some (.int .i64 1) := by rw [cell_of_row _ wx.heap.size _ _ _ _ (heap_alloc_new wx _)]; rfl
            have c00 := hP2.out.box.ce0
            obtain ⟨wa, hwa⟩ : ∃ wa, wa = wx.alloc (.cells #[.int .i64 0, .int .i64 2, .int .i64 1, .int .i64 1, .int .i64 3, .int .i64 1, .int .i64 1, .int .i64 0] 3) := ⟨_, rfl⟩
            replace ka := Lib.hid ka
            have hml := hLl.2.1
            by_cases h1 : Lp.length < 1
            · have hn : Hid (res = none) := hres2.out.trans (build_no (by rw [vals_len]; left; show Lp.length < 1; exact h1))
              have hd1 : decide ((Lp.length : Int) < 1) = true := decide_eq_true (by omega)
              have r0 := PA.out.res.fr0
              have g0 := PA.out.res.ce0
              have r1 := PA.out.res.fr1
              have g1 := PA.out.res.ce1
              have r2 := PA.out.res.fr2
              have g2 := PA.out.res.ce2
              have r3 := PA.out.res.fr3
              have g3 := PA.out.res.ce3
              have r4 := PA.out.res.fr4
              have g4 := PA.out.res.ce4
              have r5 := PA.out.res.fr5
              have g5 := PA.out.res.ce5
              go_wp2
              obtain ⟨wE, hwE⟩ : ∃ wE, wE = set6 (wx.alloc (.cells #[.int .i64 0, .int .i64 2, .int .i64 1, .int .i64 1, .int .i64 3, .int .i64 1, .int .i64 1, .int .i64 0] 3)) br (.int .i64 0) (.int .i64 0) (.int .i64 0) (.int .i64 0) (.bool false) (.slice none 0 0) := ⟨_, rfl⟩
              have E := PA.out.res.set6 (.int .i64 0) (.int .i64 0) (.int .i64 0) (.int .i64 0) (.bool false) (.slice none 0 0)
              have F := off_set6 (wx.alloc (.cells #[.int .i64 0, .int .i64 2, .int .i64 1, .int .i64 1, .int .i64 3, .int .i64 1, .int .i64 1, .int .i64 0] 3)) br (.int .i64 0) (.int .i64 0) (.int .i64 0) (.int .i64 0) (.bool false) (.slice none 0 0)
              rw [← hwE] at E F
              unfold Go.Proofs.YtnaeabfmgfipoaaGreatDoor.set6 at hwE
              rw [← hwE]
              have e0 := E.ce0
              have e1 := E.ce1
              have e2 := E.ce2
              have e3 := E.ce3
              have e4 := E.ce4
              have e5 := E.ce5
              have KE := F.keep PA.out.keep (by have := PA.out.ge; rintro i rfl; exact this.2)
              refine bodyPost_ret (v := .tuple #[.agg #[.int .i64 0, .int .i64 0, .int .i64 0, .int .i64 0, .bool false, .slice none 0 0], .bool false]) (by simp [results, Tryz.results27, go_sem, e0, e1, e2, e3, e4, e5]) rfl (PRes.none hn.out KE)
            · have hd1 : decide ((Lp.length : Int) < 1) = false := decide_eq_false (by omega)
              by_cases h2 : 1 < Lp.length
              · have hn : Hid (res = none) := hres2.out.trans (build_no (by rw [vals_len]; right; exact ⟨h2, by omega, by omega⟩))
                have hd2 : decide ((Lp.length : Int) > 1) = true := decide_eq_true (by omega)
                have r0 := PA.out.res.fr0
                have g0 := PA.out.res.ce0
                have r1 := PA.out.res.fr1
                have g1 := PA.out.res.ce1
                have r2 := PA.out.res.fr2
                have g2 := PA.out.res.ce2
                have r3 := PA.out.res.fr3
                have g3 := PA.out.res.ce3
                have r4 := PA.out.res.fr4
                have g4 := PA.out.res.ce4
                have r5 := PA.out.res.fr5
                have g5 := PA.out.res.ce5
                go_wp2
                obtain ⟨wE, hwE⟩ : ∃ wE, wE = set6 (wx.alloc (.cells #[.int .i64 0, .int .i64 2, .int .i64 1, .int .i64 1, .int .i64 3, .int .i64 1, .int .i64 1, .int .i64 0] 3)) br (.int .i64 0) (.int .i64 0) (.int .i64 0) (.int .i64 0) (.bool false) (.slice none 0 0) := ⟨_, rfl⟩
                have E := PA.out.res.set6 (.int .i64 0) (.int .i64 0) (.int .i64 0) (.int .i64 0) (.bool false) (.slice none 0 0)
                have F := off_set6 (wx.alloc (.cells #[.int .i64 0, .int .i64 2, .int .i64 1, .int .i64 1, .int .i64 3, .int .i64 1, .int .i64 1, .int .i64 0] 3)) br (.int .i64 0) (.int .i64 0) (.int .i64 0) (.int .i64 0) (.bool false) (.slice none 0 0)
                rw [← hwE] at E F
                unfold Go.Proofs.YtnaeabfmgfipoaaGreatDoor.set6 at hwE
                rw [← hwE]
                have e0 := E.ce0
                have e1 := E.ce1
                have e2 := E.ce2
                have e3 := E.ce3
                have e4 := E.ce4
                have e5 := E.ce5
                have KE := F.keep PA.out.keep (by have := PA.out.ge; rintro i rfl; exact this.2)
                refine bodyPost_ret (v := .tuple #[.agg #[.int .i64 0, .int .i64 0, .int .i64 0, .int .i64 0, .bool false, .slice none 0 0], .bool false]) (by simp [results, Tryz.results27, go_sem, e0, e1, e2, e3, e4, e5]) rfl (PRes.none hn.out KE)
              · have hd2 : decide ((Lp.length : Int) > 1) = false := decide_eq_false (by omega)
                have hcond : ¬ ((vals Lp).length < need 6 ∨ (need 6 < (vals Lp).length ∧ (6 : Int) ≠ 2 ∧ (6 : Int) ≠ 4)) := by rw [vals_len]; show ¬ (Lp.length < 1 ∨ (1 < Lp.length ∧ _)); omega
                obtain ⟨V0, hV0⟩ : ∃ V, V = (vals Lp).getD 0 0 := ⟨_, rfl⟩
                have hvv0 := vals_getD Lp 0 (by omega)
                rw [← hV0] at hvv0
                have hres3 : Hid (res = some ⟨6, 0, 0, V0, fl, (vals Lp).drop 1⟩) := by
                  rw [hV0]
                  exact (hres2.out.trans (build_yes hcond)).trans rfl
                replace hcond := Lib.hid hcond
                replace hV0 := Lib.hid hV0
                replace hvv0 := Lib.hid hvv0
                obtain ⟨gI, hgI, _⟩ := row_at IA0.out (j := 0) (u := .int .i64 V0) (by rw [List.getElem?_map, hvv0.out]; rfl)
                rw [← hwa] at PA IA0 ckind cneed
                have pf0 := PA.out.box.fr1
                have hix0 : ∀ W : World, (Instr.indexAt 71 (.slice IA Lp.length ic) (.int .i64 0)).run Tryz.prog W = .ok (.pointer (some ⟨gI, 0, none⟩)) W := int_at IA Lp.length ic 0 gI hgI (by omega)
                have cv0 : (wa).cell? ⟨gI, 0, none⟩ = some (.int .i64 V0) := by
                  obtain ⟨g', e', c'⟩ := row_at IA0.out (j := 0) (u := .int .i64 V0) (by rw [List.getElem?_map, hvv0.out]; rfl)
                  rw [hgI] at e'
                  injection e' with e'
                  injection e' with e'
                  rw [e']
                  exact c'
                have fz0 := PA.out.box.fr3
                have gz0 := PA.out.box.ce3
                have P_n := Lib.hid (PA.out.n V0)
                have I_n := Lib.hid (row_field IA0.out PA.out (by decide) 3 (.int .i64 V0))
                have k_n := P_n.out.box.ce0
                have P9 : Hid (RB w bo br ⟨6, 0, 0, V0, fl, []⟩ (.slice none 0 0) ((wa).setCell ⟨bo, 3, none⟩ (.int .i64 V0))) := P_n
                rw [hwa] at ckind cneed pf0 cv0 fz0 gz0 k_n
                replace hgI := Lib.hid hgI
                go_wp2_with fail
                rw [← hwa]
                clear ckind cneed pf0 c00 cv0 fz0 gz0 k_n
                obtain ⟨w9, hw9⟩ : ∃ w9, w9 = (wa).setCell ⟨bo, 3, none⟩ (.int .i64 V0) := ⟨_, rfl⟩
                have I9 := I_n
                rw [← hw9] at P9 I9 ⊢
                replace hw9 := Lib.hid hw9
                go_loopg [13] (Lp.length - 1) (fun g iv wr => ∃ (i : Nat) (av : Value), 1 ≤ i ∧ i ≤ Lp.length ∧ g = Lp.length - i ∧ iv = .int .i64 i ∧ Hid (RB w bo br ⟨6, 0, 0, V0, fl, ((vals Lp).take i).drop 1⟩ av wr) ∧ Hid (wr.ownsRow w.heap.size 3 1 (.slice IA Lp.length ic) Lp.length ((vals Lp).map (.int .i64))))
                case atStart => exact ⟨1, .slice none 0 0, by omega, by omega, by omega, rfl, by
                  have e0 : ((vals Lp).take 1).drop 1 = [] := by rw [List.drop_eq_nil_iff]; rw [List.length_take]; omega
                  rw [e0]
                  exact P9, I9⟩
                case round =>
                  obtain ⟨i, av, hi1, hi2, rfl, rfl, hP9, hI9⟩ := hrel
                  obtain ⟨wz, hwz'⟩ : ∃ x, x = wr := ⟨_, rfl⟩
                  subst hwz'
                  have hlenA : (((vals Lp).take i).drop 1).length = i - 1 := by rw [List.length_drop, List.length_take, vals_len]; omega
                  obtain ⟨A9, c9, rfl⟩ := own_shape hP9.out.own
                  by_cases hlt9 : i < Lp.length
                  · obtain ⟨g9, hg9, cv⟩ := row_at hI9.out (j := i) (u := .int .i64 ((vals Lp).getD i 0)) (by rw [List.getElem?_map, vals_getD Lp i hlt9]; rfl)
                    have hia := int_at IA Lp.length ic i g9 hg9 hlt9
                    have c5 := hP9.out.box.ce5
                    obtain ⟨V, hV⟩ : ∃ V, V = (vals Lp).getD i 0 := ⟨_, rfl⟩
                    rw [← hV] at cv
                    have hsnoc : Hid (((vals Lp).take (i + 1)).drop 1 = ((vals Lp).take i).drop 1 ++ [V]) := by
                      have h1 : (vals Lp).take (i + 1) = (vals Lp).take i ++ [V] := by
                        rw [List.take_add_one, vals_getD Lp i hlt9, ← hV]; rfl
                      rw [h1, List.drop_append_of_le_length (by rw [List.length_take, vals_len]; omega)]
                      rfl
                    obtain ⟨am, ham⟩ : ∃ am, am = ((vals Lp).take i).drop 1 := ⟨_, rfl⟩
                    rw [← ham] at hP9 hlenA c5 hsnoc
                    have hal : am.length ≤ 1048577 := by omega
                    replace hV := Lib.hid hV
                    replace ham := Lib.hid ham
                    replace hg9 := Lib.hid hg9
                    replace hlenA := Lib.hid hlenA
                    have hPk := Lib.hid ((hP9.out.kept (Keep.refl _).drew).kept (Keep.one _ (.cells #[.int .i64 V] 2)))
                    have c6 := (hP9.out.kept (Keep.one wz (.cells #[.int .i64 V] 2))).box.ce5
                    have hsz := hPk.out.keep.size
                    go_wp2_with fail
                    go_region_law (first
                      | (refine step_append_lies _ rfl (.tmp 146) (.tmp 151) 32 rfl w.heap.size 2 i0 (.int .i64 0) 1 8 Tryz.underlying32 hi0 hz0 hz1 hz2 rfl (by decide) (.slice A9 am.length c9) am.length (ints am) (by simp [Act.eval]) hPk.out.own ⟨wz.heap.size, 0, none⟩ 1 1 [.int .i64 V] (by simp [Act.eval]) rfl (cell_one_new _ _ _) (by intro u hu; simp at hu; subst hu; rfl) (by omega) (by unfold maxLen; omega) (by omega) hsz _ rfl ?_; intro g7 cap7 w7 hown7 hgrow7 hat7 hlt7; have fr7 := (hPk.out.grown_box hgrow7).fr5; have ce7 := (hPk.out.grown_box hgrow7).ce5; have P7 := Lib.hid (hPk.out.more hown7 hgrow7); have I7 := Lib.hid (row_box ((own_keep (own_keep hI9.out (Keep.refl _).drew) (Keep.one _ (.cells #[.int .i64 V] 2))).kept hgrow7 (rows_apart (own_keep (own_keep hI9.out (Keep.refl _).drew) (Keep.one _ (.cells #[.int .i64 V] 2))) hPk.out.own (by decide))) (hPk.out.grown_box hgrow7) (by decide) 5 (.slice (some ⟨g7, 0, none⟩) (am.length + 1) cap7)); replace hown7 := Lib.hid hown7; replace hgrow7 := Lib.hid hgrow7; replace hat7 := Lib.hid hat7; replace hlt7 := Lib.hid hlt7))
                    all_goals
                      go_wp2
                      go_roundg (Lp.length - (i + 1))
                      case measure => omega
                      case rel => exact ⟨i + 1, _, by omega, by omega, rfl, by go_num, by rw [hsnoc.out]; exact P7, I7⟩
                  · obtain rfl : i = Lp.length := by omega
                    have hall : (vals Lp).take Lp.length = vals Lp := List.take_of_length_le (by rw [vals_len]; omega)
                    rw [hall] at hP9 hlenA
                    replace hlenA := Lib.hid hlenA
                    obtain ⟨am, ham⟩ : ∃ am, am = (vals Lp).drop 1 := ⟨_, rfl⟩
                    rw [← ham] at hP9 hres3
                    replace ham := Lib.hid ham
                    have q0 := hP9.out.box.ce0
                    have q1 := hP9.out.box.ce1
                    have q2 := hP9.out.box.ce2
                    have q3 := hP9.out.box.ce3
                    have q4 := hP9.out.box.ce4
                    have q5 := hP9.out.box.ce5
                    have r0 := hP9.out.res.fr0
                    have g0 := hP9.out.res.ce0
                    have r1 := hP9.out.res.fr1
                    have g1 := hP9.out.res.ce1
                    have r2 := hP9.out.res.fr2
                    have g2 := hP9.out.res.ce2
                    have r3 := hP9.out.res.fr3
                    have g3 := hP9.out.res.ce3
                    have r4 := hP9.out.res.fr4
                    have g4 := hP9.out.res.ce4
                    have r5 := hP9.out.res.fr5
                    have g5 := hP9.out.res.ce5
                    go_wp2
                    obtain ⟨wE, hwE⟩ : ∃ wE, wE = set6 wz br (.int .i64 6) (.int .i64 0) (.int .i64 0) (.int .i64 V0) (.bool fl) (.slice A9 am.length c9) := ⟨_, rfl⟩
                    have E := hP9.out.res.set6 (.int .i64 6) (.int .i64 0) (.int .i64 0) (.int .i64 V0) (.bool fl) (.slice A9 am.length c9)
                    have F := off_set6 wz br (.int .i64 6) (.int .i64 0) (.int .i64 0) (.int .i64 V0) (.bool fl) (.slice A9 am.length c9)
                    rw [← hwE] at E F
                    unfold Go.Proofs.YtnaeabfmgfipoaaGreatDoor.set6 at hwE
                    rw [← hwE]
                    have e0 := E.ce0
                    have e1 := E.ce1
                    have e2 := E.ce2
                    have e3 := E.ce3
                    have e4 := E.ce4
                    have e5 := E.ce5
                    have KE := F.keep hP9.out.keep (by have := hP9.out.ge; rintro i rfl; exact this.2)
                    refine bodyPost_ret (v := .tuple #[.agg #[.int .i64 6, .int .i64 0, .int .i64 0, .int .i64 V0, .bool fl, .slice A9 am.length c9], .bool true]) (by simp [results, Tryz.results27, go_sem, e0, e1, e2, e3, e4, e5]) rfl (PRes.some hres3.out KE (F.own hP9.out.own (fun k hk e => hP9.out.notl k hk (Or.inr e))))
      · obtain ⟨Lp, hLpe⟩ : ∃ Lp, Lp = L := ⟨_, rfl⟩
        obtain ⟨fl, hfl⟩ : ∃ fl, fl = false := ⟨_, rfl⟩
        have hres2 : Hid (res = (numsRead Lp).bind (buildOp 7 fl)) := by rw [hres.out, parseOf, hκ, if_neg (by omega), if_neg (by omega), hLpe, hfl]; rfl
        have hLp : Hid (∀ j (h : j < Lp.length), L[j]? = some Lp[j]) := by subst hLpe; exact fun j h => List.getElem?_eq_getElem h
        have hLl : Lp.length ≤ L.length ∧ Lp.length ≤ 1048577 ∧ Lp.length + 1 = L.length + 1 := by subst hLpe; exact ⟨Nat.le_refl _, by omega, rfl⟩
        replace hκ := Lib.hid hκ
        replace hLpe := Lib.hid hLpe
        have hP : Hid (RB w bo br { zeroD with kind := 7, flag := fl } (.slice none 0 0) wq) := by rw [hfl]; exact hP
        replace hfl := Lib.hid hfl
        have b0 := hP.out.box.ce0

        go_wp2_with fail
        go_loopg [8, 9] (Lp.length) (fun g lv iv wr => ∃ (j : Nat) (v8 : Value), j ≤ Lp.length ∧ g = Lp.length - j ∧ lv = v8 ∧ iv = .int .i64 (j + 1) ∧ Hid (oks (Lp.take j) = true) ∧ Hid (RB w bo br { zeroD with kind := 7, flag := fl } (.slice none 0 0) wr) ∧ Hid (wr.ownsRow w.heap.size 9 1 (.slice WA (L.length + 1) wc) (L.length + 1) ((x :: L).map .string)) ∧ Hid (wr.ownsRow w.heap.size 3 1 v8 j ((vals (Lp.take j)).map (.int .i64))))
        case atStart => exact ⟨0, .slice none 0 0, Nat.zero_le _, rfl, rfl, rfl, rfl, hP, hW, World.ownsRow_nil _ _ _ _⟩
        case round =>
          obtain ⟨j, v8, hj, rfl, rfl, rfl, hok, hP2, hW2, hI⟩ := hrel
          obtain ⟨wx, hwx⟩ : ∃ x, x = wr := ⟨_, rfl⟩
          subst hwx
          obtain ⟨IA, ic, rfl⟩ := own_shape hI.out
          by_cases hlt : j < Lp.length
          · have hLj := hLp.out j hlt
            have hjL : j < L.length := by have := hLl; omega
            obtain ⟨gW, hgW, cw⟩ := row_at hW2.out (j := j + 1) (u := .string Lp[j]) (by rw [List.map_cons, List.getElem?_cons_succ, List.getElem?_map, hLj]; rfl)
            have hia : ∀ W : World, (Instr.indexAt 49 (.slice WA (L.length + 1) wc) (.int .i64 (j + 1))).run Tryz.prog W = .ok (.pointer (some ⟨gW, j + 1, none⟩)) W := fun W => str_at WA (L.length + 1) wc (j + 1) gW hgW (by omega) W
            have hmem : Lp[j] ∈ x :: L := List.mem_cons_of_mem _ (List.mem_of_getElem? hLj)
            have hnm := Lib.hid (hnum.out Lp[j] hmem wx)
            have hmem2 := List.getElem_mem hlt
            obtain ⟨y, hy⟩ : ∃ y, y = Lp[j] := ⟨_, rfl⟩
            have hcur : ((j : Int) + 1 < (L.length + 1 : Nat)) := by omega
            have htk := take_next hlt
            rw [← hy] at cw hnm hmem2 htk
            replace hy := Lib.hid hy
            replace hLj := Lib.hid hLj
            replace hgW := Lib.hid hgW
            obtain ⟨o, ho⟩ : ∃ o, o = numOf y := ⟨_, rfl⟩
            rw [← ho] at hnm
            go_wp2_with fail
            refine hnm.out.mono ?_
            rintro e w5 ⟨rfl, rfl⟩
            cases o with
            | none =>
              have hn : Hid (res = none) := hres2.out.trans (bind_none (oks_mem hmem2 ho.symm))
              replace hmem2 := Lib.hid hmem2
              replace ho := Lib.hid ho
              have r0 := hP2.out.res.fr0
              have g0 := hP2.out.res.ce0
              have r1 := hP2.out.res.fr1
              have g1 := hP2.out.res.ce1
              have r2 := hP2.out.res.fr2
              have g2 := hP2.out.res.ce2
              have r3 := hP2.out.res.fr3
              have g3 := hP2.out.res.ce3
              have r4 := hP2.out.res.fr4
              have g4 := hP2.out.res.ce4
              have r5 := hP2.out.res.fr5
              have g5 := hP2.out.res.ce5
              go_wp2
              obtain ⟨wE, hwE⟩ : ∃ wE, wE = set6 wx br (.int .i64 0) (.int .i64 0) (.int .i64 0) (.int .i64 0) (.bool false) (.slice none 0 0) := ⟨_, rfl⟩
              have E := hP2.out.res.set6 (.int .i64 0) (.int .i64 0) (.int .i64 0) (.int .i64 0) (.bool false) (.slice none 0 0)
              have F := off_set6 wx br (.int .i64 0) (.int .i64 0) (.int .i64 0) (.int .i64 0) (.bool false) (.slice none 0 0)
              rw [← hwE] at E F
              unfold Go.Proofs.YtnaeabfmgfipoaaGreatDoor.set6 at hwE
              rw [← hwE]
              have e0 := E.ce0
              have e1 := E.ce1
              have e2 := E.ce2
              have e3 := E.ce3
              have e4 := E.ce4
              have e5 := E.ce5
              have KE := F.keep hP2.out.keep (by have := hP2.out.ge; rintro i rfl; exact this.2)
              refine bodyPost_ret (v := .tuple #[.agg #[.int .i64 0, .int .i64 0, .int .i64 0, .int .i64 0, .bool false, .slice none 0 0], .bool false]) (by simp [results, Tryz.results27, go_sem, e0, e1, e2, e3, e4, e5]) rfl (PRes.none hn.out KE)
            | some u =>
              have hok2 : Hid (oks (Lp.take (j + 1)) = true) := by rw [htk, oks_snoc, hok.out, ← ho]; rfl
              have hv2 : Hid (vals (Lp.take (j + 1)) = vals (Lp.take j) ++ [u]) := by rw [htk, vals_snoc, ← ho]; rfl
              replace hmem2 := Lib.hid hmem2
              replace ho := Lib.hid ho
              replace htk := Lib.hid htk
              have hIk := Lib.hid (own_keep hI.out (Keep.one wx (.cells #[.int .i64 u] 3)))
              have hPk := Lib.hid (hP2.out.kept (Keep.one wx (.cells #[.int .i64 u] 3)))
              have hWk := Lib.hid (own_keep hW2.out (Keep.one wx (.cells #[.int .i64 u] 3)))
              have hsz := hP2.out.keep.size
              have hjb : j ≤ 1048577 := by have := hLl; omega
              go_wp2_with (at_builtin; refine wpList_append_lies _ rfl (.tmp 76) (.tmp 78) 71 rfl w.heap.size 3 j0 (.int .i64 0) 1 8 Tryz.underlying71 hj0 hy0 hy1 hy2 rfl (by decide) (.slice IA j ic) j ((vals (Lp.take j)).map (.int .i64)) (by simp [Act.eval]) hIk.out ⟨wx.heap.size, 0, none⟩ 1 1 [.int .i64 u] (by simp [Act.eval]) rfl (cell_one_new _ _ _) (by intro q hq; simp at hq; subst hq; rfl) (by omega) (by unfold maxLen; omega) (by omega) (by simp; omega) _ rfl ?_; intro g6 cap6 w6 h6 hg6 ha6 hl6; have P6 := Lib.hid (hPk.out.grown hIk.out (Nat.le_refl _) (by decide) (by decide) hg6); have W6 := Lib.hid (hWk.out.kept hg6 (rows_apart hWk.out hIk.out (by decide))); replace h6 := Lib.hid h6; replace hg6 := Lib.hid hg6; replace ha6 := Lib.hid ha6; replace hl6 := Lib.hid hl6)
              have I6 : Hid (w6.ownsRow w.heap.size 3 1 (.slice (some ⟨g6, 0, none⟩) (j + 1) cap6) (j + 1) ((vals (Lp.take (j + 1))).map (.int .i64))) := by rw [hv2.out, List.map_append]; exact h6.out
              clear cw hia
              go_roundg (Lp.length - (j + 1))
              case measure => omega
              case rel => exact ⟨j + 1, _, by omega, rfl, rfl, by go_num, hok2, P6, W6, I6⟩
          · obtain rfl : j = Lp.length := by omega
            have hcur : ¬ ((Lp.length : Int) + 1 < (L.length + 1 : Nat)) := by omega
            rw [List.take_length] at hok hI
            rw [bind_some hok.out] at hres2
            clear hlt
            have ka : Keep wx (wx.alloc (.cells #[.int .i64 0, .int .i64 2, .int .i64 1, .int .i64 1, .int .i64 3, .int .i64 1, .int .i64 1, .int .i64 0] 3)) := Keep.one _ _
            have PA := Lib.hid (hP2.out.kept ka)
            have IA0 := Lib.hid (own_keep hI.out ka)
            have ckind : (wx.alloc (.cells #[.int .i64 0, .int .i64 2, .int .i64 1, .int .i64 1, .int .i64 3, .int .i64 1, .int .i64 1, .int .i64 0] 3)).cell? ⟨bo, 0, none⟩ = some (.int .i64 7) := PA.out.box.ce0
            have cneed : (wx.alloc (.cells #[.int .i64 0, .int .i64 2, .int .i64 1, .int .i64 1, .int .i64 3, .int .i64 1, .int .i64 1, .int .i64 0] 3)).cell? ⟨wx.heap.size, 7, none⟩ = some (.int .i64 0) := by rw [cell_of_row _ wx.heap.size _ _ _ _ (heap_alloc_new wx _)]; rfl
            have c00 := hP2.out.box.ce0
            obtain ⟨wa, hwa⟩ : ∃ wa, wa = wx.alloc (.cells #[.int .i64 0, .int .i64 2, .int .i64 1, .int .i64 1, .int .i64 3, .int .i64 1, .int .i64 1, .int .i64 0] 3) := ⟨_, rfl⟩
            replace ka := Lib.hid ka
            have hml := hLl.2.1
            by_cases h1 : Lp.length < 0
            · exact absurd h1 (Nat.not_lt_zero _)
            · have hd1 : decide ((Lp.length : Int) < 0) = false := decide_eq_false (by omega)
              by_cases h2 : 0 < Lp.length
              · have hn : Hid (res = none) := hres2.out.trans (build_no (by rw [vals_len]; right; exact ⟨h2, by omega, by omega⟩))
                have hd2 : decide ((Lp.length : Int) > 0) = true := decide_eq_true (by omega)
                have r0 := PA.out.res.fr0
                have g0 := PA.out.res.ce0
                have r1 := PA.out.res.fr1
                have g1 := PA.out.res.ce1
                have r2 := PA.out.res.fr2
                have g2 := PA.out.res.ce2
                have r3 := PA.out.res.fr3
                have g3 := PA.out.res.ce3
                have r4 := PA.out.res.fr4
                have g4 := PA.out.res.ce4
                have r5 := PA.out.res.fr5
                have g5 := PA.out.res.ce5
                go_wp2
                obtain ⟨wE, hwE⟩ : ∃ wE, wE = set6 (wx.alloc (.cells #[.int .i64 0, .int .i64 2, .int .i64 1, .int .i64 1, .int .i64 3, .int .i64 1, .int .i64 1, .int .i64 0] 3)) br (.int .i64 0) (.int .i64 0) (.int .i64 0) (.int .i64 0) (.bool false) (.slice none 0 0) := ⟨_, rfl⟩
                have E := PA.out.res.set6 (.int .i64 0) (.int .i64 0) (.int .i64 0) (.int .i64 0) (.bool false) (.slice none 0 0)
                have F := off_set6 (wx.alloc (.cells #[.int .i64 0, .int .i64 2, .int .i64 1, .int .i64 1, .int .i64 3, .int .i64 1, .int .i64 1, .int .i64 0] 3)) br (.int .i64 0) (.int .i64 0) (.int .i64 0) (.int .i64 0) (.bool false) (.slice none 0 0)
                rw [← hwE] at E F
                unfold Go.Proofs.YtnaeabfmgfipoaaGreatDoor.set6 at hwE
                rw [← hwE]
                have e0 := E.ce0
                have e1 := E.ce1
                have e2 := E.ce2
                have e3 := E.ce3
                have e4 := E.ce4
                have e5 := E.ce5
                have KE := F.keep PA.out.keep (by have := PA.out.ge; rintro i rfl; exact this.2)
                refine bodyPost_ret (v := .tuple #[.agg #[.int .i64 0, .int .i64 0, .int .i64 0, .int .i64 0, .bool false, .slice none 0 0], .bool false]) (by simp [results, Tryz.results27, go_sem, e0, e1, e2, e3, e4, e5]) rfl (PRes.none hn.out KE)
              · have hd2 : decide ((Lp.length : Int) > 0) = false := decide_eq_false (by omega)
                have hcond : ¬ ((vals Lp).length < need 7 ∨ (need 7 < (vals Lp).length ∧ (7 : Int) ≠ 2 ∧ (7 : Int) ≠ 4)) := by rw [vals_len]; show ¬ (Lp.length < 0 ∨ (0 < Lp.length ∧ _)); omega
                have hres3 : Hid (res = some ⟨7, 0, 0, 0, fl, (vals Lp).drop 0⟩) := by
                  skip
                  exact (hres2.out.trans (build_yes hcond)).trans rfl
                replace hcond := Lib.hid hcond
                rw [← hwa] at PA IA0 ckind cneed
                have pf0 := PA.out.box.fr1
                have P9 : Hid (RB w bo br ⟨7, 0, 0, 0, fl, []⟩ (.slice none 0 0) (wa)) := PA
                rw [hwa] at ckind cneed pf0 
                skip
                go_wp2_with fail
                rw [← hwa]
                clear ckind cneed pf0 c00 
                obtain ⟨w9, hw9⟩ : ∃ w9, w9 = wa := ⟨_, rfl⟩
                have I9 := IA0
                rw [← hw9] at P9 I9 ⊢
                replace hw9 := Lib.hid hw9
                go_loopg [13] (Lp.length - 0) (fun g iv wr => ∃ (i : Nat) (av : Value), 0 ≤ i ∧ i ≤ Lp.length ∧ g = Lp.length - i ∧ iv = .int .i64 i ∧ Hid (RB w bo br ⟨7, 0, 0, 0, fl, ((vals Lp).take i).drop 0⟩ av wr) ∧ Hid (wr.ownsRow w.heap.size 3 1 (.slice IA Lp.length ic) Lp.length ((vals Lp).map (.int .i64))))
                case atStart => exact ⟨0, .slice none 0 0, by omega, by omega, by omega, rfl, by
                  have e0 : ((vals Lp).take 0).drop 0 = [] := by rw [List.drop_eq_nil_iff]; rw [List.length_take]; omega
                  rw [e0]
                  exact P9, I9⟩
                case round =>
                  obtain ⟨i, av, hi1, hi2, rfl, rfl, hP9, hI9⟩ := hrel
                  obtain ⟨wz, hwz'⟩ : ∃ x, x = wr := ⟨_, rfl⟩
                  subst hwz'
                  have hlenA : (((vals Lp).take i).drop 0).length = i - 0 := by rw [List.length_drop, List.length_take, vals_len]; omega
                  obtain ⟨A9, c9, rfl⟩ := own_shape hP9.out.own
                  by_cases hlt9 : i < Lp.length
                  · obtain ⟨g9, hg9, cv⟩ := row_at hI9.out (j := i) (u := .int .i64 ((vals Lp).getD i 0)) (by rw [List.getElem?_map, vals_getD Lp i hlt9]; rfl)
                    have hia := int_at IA Lp.length ic i g9 hg9 hlt9
                    have c5 := hP9.out.box.ce5
                    obtain ⟨V, hV⟩ : ∃ V, V = (vals Lp).getD i 0 := ⟨_, rfl⟩
                    rw [← hV] at cv
                    have hsnoc : Hid (((vals Lp).take (i + 1)).drop 0 = ((vals Lp).take i).drop 0 ++ [V]) := by
                      have h1 : (vals Lp).take (i + 1) = (vals Lp).take i ++ [V] := by
                        rw [List.take_add_one, vals_getD Lp i hlt9, ← hV]; rfl
                      rw [h1, List.drop_append_of_le_length (by rw [List.length_take, vals_len]; omega)]
                      rfl
                    obtain ⟨am, ham⟩ : ∃ am, am = ((vals Lp).take i).drop 0 := ⟨_, rfl⟩
                    rw [← ham] at hP9 hlenA c5 hsnoc
                    have hal : am.length ≤ 1048577 := by omega
                    replace hV := Lib.hid hV
                    replace ham := Lib.hid ham
                    replace hg9 := Lib.hid hg9
                    replace hlenA := Lib.hid hlenA
                    have hPk := Lib.hid ((hP9.out.kept (Keep.refl _).drew).kept (Keep.one _ (.cells #[.int .i64 V] 2)))
                    have c6 := (hP9.out.kept (Keep.one wz (.cells #[.int .i64 V] 2))).box.ce5
                    have hsz := hPk.out.keep.size
                    go_wp2_with fail
                    go_region_law (first
                      | (refine step_append_lies _ rfl (.tmp 146) (.tmp 151) 32 rfl w.heap.size 2 i0 (.int .i64 0) 1 8 Tryz.underlying32 hi0 hz0 hz1 hz2 rfl (by decide) (.slice A9 am.length c9) am.length (ints am) (by simp [Act.eval]) hPk.out.own ⟨wz.heap.size, 0, none⟩ 1 1 [.int .i64 V] (by simp [Act.eval]) rfl (cell_one_new _ _ _) (by intro u hu; simp at hu; subst hu; rfl) (by omega) (by unfold maxLen; omega) (by omega) hsz _ rfl ?_; intro g7 cap7 w7 hown7 hgrow7 hat7 hlt7; have fr7 := (hPk.out.grown_box hgrow7).fr5; have ce7 := (hPk.out.grown_box hgrow7).ce5; have P7 := Lib.hid (hPk.out.more hown7 hgrow7); have I7 := Lib.hid (row_box ((own_keep (own_keep hI9.out (Keep.refl _).drew) (Keep.one _ (.cells #[.int .i64 V] 2))).kept hgrow7 (rows_apart (own_keep (own_keep hI9.out (Keep.refl _).drew) (Keep.one _ (.cells #[.int .i64 V] 2))) hPk.out.own (by decide))) (hPk.out.grown_box hgrow7) (by decide) 5 (.slice (some ⟨g7, 0, none⟩) (am.length + 1) cap7)); replace hown7 := Lib.hid hown7; replace hgrow7 := Lib.hid hgrow7; replace hat7 := Lib.hid hat7; replace hlt7 := Lib.hid hlt7))
                    all_goals
                      go_wp2
                      go_roundg (Lp.length - (i + 1))
                      case measure => omega
                      case rel => exact ⟨i + 1, _, by omega, by omega, rfl, by go_num, by rw [hsnoc.out]; exact P7, I7⟩
                  · obtain rfl : i = Lp.length := by omega
                    have hall : (vals Lp).take Lp.length = vals Lp := List.take_of_length_le (by rw [vals_len]; omega)
                    rw [hall] at hP9 hlenA
                    replace hlenA := Lib.hid hlenA
                    obtain ⟨am, ham⟩ : ∃ am, am = (vals Lp).drop 0 := ⟨_, rfl⟩
                    rw [← ham] at hP9 hres3
                    replace ham := Lib.hid ham
                    have q0 := hP9.out.box.ce0
                    have q1 := hP9.out.box.ce1
                    have q2 := hP9.out.box.ce2
                    have q3 := hP9.out.box.ce3
                    have q4 := hP9.out.box.ce4
                    have q5 := hP9.out.box.ce5
                    have r0 := hP9.out.res.fr0
                    have g0 := hP9.out.res.ce0
                    have r1 := hP9.out.res.fr1
                    have g1 := hP9.out.res.ce1
                    have r2 := hP9.out.res.fr2
                    have g2 := hP9.out.res.ce2
                    have r3 := hP9.out.res.fr3
                    have g3 := hP9.out.res.ce3
                    have r4 := hP9.out.res.fr4
                    have g4 := hP9.out.res.ce4
                    have r5 := hP9.out.res.fr5
                    have g5 := hP9.out.res.ce5
                    go_wp2
                    obtain ⟨wE, hwE⟩ : ∃ wE, wE = set6 wz br (.int .i64 7) (.int .i64 0) (.int .i64 0) (.int .i64 0) (.bool fl) (.slice A9 am.length c9) := ⟨_, rfl⟩
                    have E := hP9.out.res.set6 (.int .i64 7) (.int .i64 0) (.int .i64 0) (.int .i64 0) (.bool fl) (.slice A9 am.length c9)
                    have F := off_set6 wz br (.int .i64 7) (.int .i64 0) (.int .i64 0) (.int .i64 0) (.bool fl) (.slice A9 am.length c9)
                    rw [← hwE] at E F
                    unfold Go.Proofs.YtnaeabfmgfipoaaGreatDoor.set6 at hwE
                    rw [← hwE]
                    have e0 := E.ce0
                    have e1 := E.ce1
                    have e2 := E.ce2
                    have e3 := E.ce3
                    have e4 := E.ce4
                    have e5 := E.ce5
                    have KE := F.keep hP9.out.keep (by have := hP9.out.ge; rintro i rfl; exact this.2)
                    refine bodyPost_ret (v := .tuple #[.agg #[.int .i64 7, .int .i64 0, .int .i64 0, .int .i64 0, .bool fl, .slice A9 am.length c9], .bool true]) (by simp [results, Tryz.results27, go_sem, e0, e1, e2, e3, e4, e5]) rfl (PRes.some hres3.out KE (F.own hP9.out.own (fun k hk e => hP9.out.notl k hk (Or.inr e))))
end Go.Proofs.YtnaeabfmgfipoaaGreatDoor
