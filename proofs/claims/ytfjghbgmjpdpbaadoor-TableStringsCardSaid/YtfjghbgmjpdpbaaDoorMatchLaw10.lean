/-
  The walk of TableMatchesReference. Condition: errors.errorType holds its own.
-/
import Derived.Test.YtfjghbgmjpdpbaaDoorPlayR10
namespace Go.Proofs.YtfjghbgmjpdpbaaDoor.T10
open Go.RowKit Go.Sort Go.Lib

/-- The operations of a slice: a kind and a pair each. -/
structure RdOps (w : World) (A : Option Addr) (n : Nat) (K : Nat → Int) (P : Nat → PrV) : Prop where
  small : n ≤ 9223372036854775807
  adr : 0 < n → ∃ b off, A = some ⟨b, off, none⟩ ∧ ∀ j, j < n → w.cell? ⟨b, off + j * 3, none⟩ = some (.int .i64 (K j)) ∧ Cel2 w b (off + j * 3 + 1) (P j)
  ok : ∀ j, j < n → PrOk (P j)
theorem RdOps.keep {w w' : World} {A : Option Addr} {n : Nat} {K : Nat → Int} {P : Nat → PrV} (h : RdOps w A n K P) (k : Keep w w') : RdOps w' A n K P :=
  ⟨h.small, fun hn => by
    obtain ⟨b, off, e, c⟩ := h.adr hn
    exact ⟨b, off, e, fun j hj => ⟨k.cell (c j hj).1, (c j hj).2.keep k⟩⟩, h.ok⟩
theorem atO (b off n cp j : Nat) (hj : j < n) (W : World) : (Instr.indexAt 22 (.slice (some ⟨b, off, none⟩) n cp) (.int .i64 j)).run Tryd.prog W = .ok (.pointer (some ⟨b, off + j * 3, none⟩)) W := by
  go_simp
theorem op_len (k : Int) (L : List PrV) (s : Int) (x : PrV) : (opL k L s x).length ≤ L.length + 1 := by
  unfold opL addL
  have h1 := ins_len x L
  have h2 := rep_len L x
  have h3 := wo_len L x.k
  repeat (first | split | omega)
theorem play_fn {w : World} {s : Int} {p m : Nat} {L : List PrV} {B : Option Addr} {d : Nat} (hT : TI w s p m L) (hR : RL w B d L) (hl : L.length ≤ 100) (hg : ErrT w) (K : Int) (x : PrV) (hx : PrOk x) :
    Calls Tryd.prog 10 #[.pointer (some ⟨p, 0, none⟩), .slice B L.length d, .int .i64 s, .agg #[.int .i64 K, .int .i64 x.k, .int .i64 x.v]] w fun e w' => ∃ B' d', e = .returned (.tuple #[.slice B' (opL K L s x).length d', .bool true]) ∧ After w w' s p m B' d' (opL K L s x) := by
  unfold opL
  by_cases h0 : K = 0
  · rw [if_pos h0, h0]; exact play_add hT hR hl hg x hx
  by_cases h1 : K = 1
  · rw [if_neg h0, if_pos h1, h1]; exact play_set hT hR hl hg x hx
  by_cases h2 : K = 2
  · rw [if_neg h0, if_neg h1, if_pos h2, h2]; exact play_rem hT hR hl x
  rw [if_neg h0, if_neg h1, if_neg h2]
  exact play_get K h0 h1 h2 hT hR hl x

set_option maxRecDepth 100000 in
set_option maxHeartbeats 16000000 in
theorem matches_walk (sz : Int) (hz : I64 sz) (A : Option Addr) (n c : Nat) (K : Nat → Int) (P : Nat → PrV) (w : World) (hR : RdOps w A n K P) (hv : ErrT w) : Calls Tryd.prog 3 #[.int .i64 sz, .slice A n c] w fun e w' => e = .returned (.bool true) ∧ Keep w w' := by
  have hs := hR.small
  replace hv := Lib.hid hv
  replace hR := Lib.hid hR
  have cn := tnew_fn sz hz w
  have e0 : (if 0 ≤ sz then sz else 0) = max sz 0 := by split <;> omega
  rw [e0] at cn
  obtain ⟨S, hS⟩ : ∃ S, max sz 0 = S := ⟨_, rfl⟩
  rw [hS] at cn
  replace cn := Lib.hid cn
  clear e0
  replace hz := Lib.hid hz
  go_enter Tryd.func3, Tryd.ntmps3
  go_wp2_with fail
  refine cn.out.mono ?_
  rintro e w1 ⟨p, rfl, m, T1, k1, lp, lm⟩
  replace T1 := Lib.hid T1
  replace k1 := Lib.hid k1
  replace lm := Lib.hid lm
  replace lp := Lib.hid lp
  have aw1 := Lib.hid (awake_true w1 (hv.out.keep k1.out))
  go_wp2_with fail
  refine aw1.out.mono ?_
  rintro e w2 ⟨rfl, k2⟩
  have K2 := Lib.hid (k1.out.trans k2)
  have T2 := Lib.hid (T1.out.keep k2)
  replace k2 := Lib.hid k2
  clear aw1
  by_cases hn : n ≤ 100
  rotate_left
  · have aw2 := Lib.hid (awake_true w2 (hv.out.keep K2.out))
    go_wp2_with fail
    refine aw2.out.mono ?_
    rintro e w4 ⟨rfl, k4⟩
    go_wp2
    go_ret
    exact ⟨rfl, K2.out.trans k4⟩
  go_wp2
  go_loopg [6, 7, 8] n (fun gx s6 s7 s8 wr => ∃ (i : Nat) (L : List PrV) (B : Option Addr) (d : Nat), i ≤ n ∧ gx = n - i ∧ s8 = .int .i64 i ∧ s7 = .bool true ∧ s6 = .slice B L.length d ∧ L.length ≤ i ∧ Hid (Keep w wr) ∧ Hid (TI wr S p m L) ∧ Hid (RL wr B d L))
  case atStart => exact ⟨0, [], none, 0, Nat.zero_le _, rfl, rfl, rfl, rfl, Nat.le_refl _, K2, T2, rl_nil _⟩
  case round =>
    clear T1 T2 K2 k1 k2
    obtain ⟨i, L, B, d, hi, rfl, rfl, rfl, rfl, hLi, KR, TR, RR⟩ := hrel
    by_cases hlt : i < n
    · obtain ⟨b, off, hA, ca⟩ := (hR.out.keep KR.out).adr (by omega)
      subst hA
      have q1 := atO b off n c i hlt
      have X := (ca i hlt).2
      have xk := (ca i hlt).1
      have ox := hR.out.ok i hlt
      clear ca
      obtain ⟨x, hx⟩ : ∃ x, x = P i := ⟨_, rfl⟩
      obtain ⟨Ki, hKi⟩ : ∃ z, z = K i := ⟨_, rfl⟩
      rw [← hx] at X ox
      rw [← hKi] at xk
      replace hx := Lib.hid hx
      replace hKi := Lib.hid hKi
      have cP := play_fn TR.out RR.out (by omega) (hv.out.keep KR.out) Ki x ox
      have hol := op_len Ki L S x
      obtain ⟨M, hM⟩ : ∃ M, M = opL Ki L S x := ⟨_, rfl⟩
      rw [← hM] at cP hol
      replace hM := Lib.hid hM
      replace cP := Lib.hid cP
      have x0 := X.e0; have x1 := X.e1
      simp only [Nat.add_assoc, Nat.reduceAdd] at x0 x1
      simp only [← Nat.add_assoc] at x0 x1
      replace X := Lib.hid X
      replace ox := Lib.hid ox
      go_wp2_with fail
      refine cP.out.mono ?_
      rintro e w5 ⟨B5, d5, rfl, T5, R5, F5⟩
      have K5 : Hid (Keep w w5) := F5.low KR.out (by rintro k rfl; exact lm.out)
      replace F5 := Lib.hid F5
      have cI := Lib.hid (tids_fn T5 (by omega))
      have sL := T5.len
      have sH := T5.hi
      obtain ⟨q, hq⟩ : ∃ q, q = M.length := ⟨_, rfl⟩
      have T5' := Lib.hid T5
      have R5' := Lib.hid R5
      rw [← hq] at cI sL hol ⊢
      have cR : Hid (∀ W, Keep w5 W → Calls Tryd.prog 13 #[.slice B5 q d5] W fun e w' => ∃ B' d', e = .returned (.slice B' q d') ∧ Keep W w' ∧ w'.ownsRow W.heap.size 3 1 (.slice B' q d') q (zl (row M) q)) := fun W k => by
        rw [hq]
        exact rids_list (R5.keep k) (by omega)
      have cS : Hid (∀ (W : World) (A1 A2 : Option Addr) (c1 c2 b1 b2 : Nat), W.ownsRow b1 3 1 (.slice A1 q c1) q (zl (row M) q) → W.ownsRow b2 3 1 (.slice A2 q c2) q (zl (row M) q) → Calls Tryd.prog 11 #[.slice A1 q c1, .slice A2 q c2] W fun e w' => e = .returned (.bool true) ∧ Drawn W w') := fun W A1 A2 c1 c2 b1 b2 h1 h2 => by
        rw [hq] at h1 h2 ⊢
        exact ids_same T5 h1 h2 (by omega)
      have cL : Hid (∀ W, Keep w5 W → Calls Tryd.prog 14 #[.pointer (some ⟨p, 0, none⟩)] W fun e w' => e = .returned (.int .i64 q) ∧ W = w') := fun W k => by
        rw [hq]
        exact tlen_fn (T5.keep k)
      have cM : Hid (∀ W, Keep w5 W → Calls Tryd.prog 15 #[.pointer (some ⟨p, 0, none⟩)] W fun e w' => e = .returned (.int .i64 (S - q)) ∧ Drawn W w') := fun W k => by
        rw [hq]
        exact troom_fn (T5.keep k)
      have lo5 := T5.lo
      replace hq := Lib.hid hq
      clear T5 R5 cP x0 x1 xk q1
      go_wp2_with fail
      refine cI.out.mono ?_
      rintro e w6 ⟨B6, d6, rfl, k6, O6⟩
      have O6 := Lib.hid O6
      have k6' := Lib.hid k6
      have cR6 := Lib.hid (cR.out w6 k6)
      clear k6
      go_wp2_with fail
      refine cR6.out.mono ?_
      rintro e w7 ⟨B7, d7, rfl, k7, O7⟩
      have cS7 := Lib.hid (cS.out w7 B6 B7 d6 d7 _ _ (own_keep O6.out k7) O7)
      have k7' : Hid (Keep w5 w7) := k6'.out.trans k7
      replace k7 := Lib.hid k7
      replace O7 := Lib.hid O7
      clear cR6
      go_wp2_with fail
      refine cS7.out.mono ?_
      rintro e w8 ⟨rfl, D8⟩
      have k8' : Hid (Keep w5 w8) := k7'.out.trans D8.keep
      replace D8 := Lib.hid D8
      clear cS7
      go_wp2_with fail
      refine (cL.out w8 k8'.out).mono ?_
      rintro e w9 ⟨rfl, rfl⟩
      go_wp2_with fail
      refine (cM.out w8 k8'.out).mono ?_
      rintro e w9 ⟨rfl, D9⟩
      have k9' : Hid (Keep w5 w9) := k8'.out.trans D9.keep
      replace D9 := Lib.hid D9
      have hw : IntKind.i64.wrap (S - (q : Int)) = S - (q : Int) := by rw [IntKind.wrap_i64]; omega
      have hw2 : wrap64 (S - (q : Int)) = S - (q : Int) := by unfold wrap64; omega
      have fT : Hid (TI w9 S p m M) := T5'.out.keep k9'.out
      have fR : Hid (RL w9 B5 d5 M) := R5'.out.keep k9'.out
      have fK : Hid (Keep w w9) := K5.out.trans k9'.out
      clear cI
      go_wp2
      go_roundg (n - (i + 1))
      case measure => omega
      case rel => exact ⟨i + 1, M, B5, d5, hlt, rfl, by go_num, rfl, by rw [← hq.out], by rw [← hq.out]; omega, fK, fT, fR⟩
    · obtain rfl : i = n := by omega
      go_wp2
      go_ret
      exact ⟨rfl, KR.out⟩
end Go.Proofs.YtfjghbgmjpdpbaaDoor.T10
