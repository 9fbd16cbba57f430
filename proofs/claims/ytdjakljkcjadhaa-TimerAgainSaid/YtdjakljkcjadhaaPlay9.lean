/-
  The law's play: an operation on the timers and on the reference's list. No condition but the contracts.
-/
import Derived.Test.YtdjakljkcjadhaaSide9
import Derived.Test.YtdjakljkcjadhaaOnceLaw9
namespace Go.Proofs.Ytdjakljkcjadhaa.T9
open Go.RowKit Go.Sort Go.Lib

/-- What an operation leaves. -/
def After (TI : World → Nat → Nat → (Nat → Prop) → List TmV → Prop) (w w' : World) (b bq : Nat) (D : Nat → Prop) (B : Option Addr) (d : Nat) (L : List TmV) : Prop :=
  Fr D w w' ∧ ∃ D', Side TI w' b bq D' B d L ∧ ∀ k, D' k → D k ∨ w.heap.size ≤ k
section
variable {TI : World → Nat → Nat → (Nat → Prop) → List TmV → Prop} {w : World} {b bq : Nat} {D : Nat → Prop} {B : Option Addr} {d : Nat} {L : List TmV}
set_option maxRecDepth 100000 in
set_option maxHeartbeats 8000000 in
theorem play_set (C : Con TI) (h : Side TI w b bq D B d L) (hl : L.length ≤ 100) (x : TmV) (hx : TmOk x) :
    Calls Try.prog 10 #[.pointer (some ⟨bq, 0, none⟩), .slice B L.length d, .agg #[.int .i64 0, .int .i64 x.k, .int .i64 x.t, .int .i64 x.a]] w fun e w' => ∃ B' L' d', e = .returned (.tuple #[.slice B' L'.length d', .bool true]) ∧ L'.length ≤ L.length + 1 ∧ After TI w w' b bq D B' d' L' := by
  have C := Lib.hid C
  obtain ⟨W, hW⟩ : ∃ W, W = w.alloc (.cells #[.int .i64 0, .int .i64 x.k, .int .i64 x.t, .int .i64 x.a] 32) := ⟨_, rfl⟩
  have KW : Hid (Keep w W) := by rw [hW]; exact Keep.one _ _
  have hb : W.heap[w.heap.size]? = some (.cells #[.int .i64 0, .int .i64 x.k, .int .i64 x.t, .int .i64 x.a] 32 (0, 0)) := by rw [hW]; exact heap_alloc_new _ _
  have H := Lib.hid (h.keep C.out KW.out)
  have cR := H.out.rset C.out hx (by omega)
  have sl := set_lt L x
  have sl2 := set_len L x
  obtain ⟨s, hs9⟩ : ∃ s, s = decide (x.k ∉ keys L) := ⟨_, rfl⟩
  have cS : Hid (∀ W', Keep W W' → Calls Try.prog 15 #[.pointer (some ⟨bq, 0, none⟩), x.val] W' fun e w' => e = .returned (.bool s) ∧ ∃ D', TI w' b bq D' (setL L x) ∧ Fr D W' w' ∧ ∀ k, D' k → D k ∨ W'.heap.size ≤ k) := fun W' k => by
    rw [hs9]
    exact C.out.set (C.out.keep H.out.t k) hx (by omega)
  have e2 : s = decide (L.length < (setL L x).length) := by rw [hs9, decide_eq_decide]; exact sl.symm
  unfold TmV.val at cR cS
  obtain ⟨M, hM⟩ : ∃ M, M = setL L x := ⟨_, rfl⟩
  rw [← hM] at cR cS e2 sl2
  obtain ⟨n, hn⟩ : ∃ n, n = L.length := ⟨_, rfl⟩
  obtain ⟨m, hm⟩ : ∃ m, m = M.length := ⟨_, rfl⟩
  have fin : Hid (∀ (w4 w5 : World) (B' : Option Addr) (d' : Nat) (D' : Nat → Prop), RList W w4 B L.length B' d' M → TI w5 b bq D' M → Fr D w4 w5 → (∀ k, D' k → D k ∨ w4.heap.size ≤ k) → After TI w w5 b bq D B' d' M) := fun w4 w5 B' d' D' r t f N => by
    rw [hM] at r t ⊢
    refine ⟨Fr.after (KW.out.trans r.keep) f, D', H.out.set C.out r t f N, fun k hk => ?_⟩
    rcases N k hk with h1 | h1
    · exact Or.inl h1
    · right
      have h2 := (KW.out.trans r.keep).size
      omega
  rw [← hm] at cR e2 sl2
  rw [← hn] at cR e2 sl2 fin hl ⊢
  have u0 : W.cell? ⟨w.heap.size, 0, none⟩ = some (.int .i64 0) := by rw [cell_of_row W _ _ _ _ _ hb]; rfl
  have u1 : W.cell? ⟨w.heap.size, 1, none⟩ = some (.int .i64 x.k) := by rw [cell_of_row W _ _ _ _ _ hb]; rfl
  have u2 : W.cell? ⟨w.heap.size, 2, none⟩ = some (.int .i64 x.t) := by rw [cell_of_row W _ _ _ _ _ hb]; rfl
  have u3 : W.cell? ⟨w.heap.size, 3, none⟩ = some (.int .i64 x.a) := by rw [cell_of_row W _ _ _ _ _ hb]; rfl
  have U := Lib.hid (And.intro u0 (And.intro u1 (And.intro u2 u3)))
  clear u0 u1 u2 u3
  replace hb := Lib.hid hb
  replace cR := Lib.hid cR
  replace hM := Lib.hid hM
  replace hm := Lib.hid hm
  replace hn := Lib.hid hn
  replace sl := Lib.hid sl
  replace hs9 := Lib.hid hs9
  replace hx := Lib.hid hx
  replace h := Lib.hid h
  go_enter Try.func10, Try.ntmps10
  go_wp2_with fail
  rw [← hW]
  replace hW := Lib.hid hW
  refine cR.out.mono ?_
  rintro e w4 ⟨B', d', rfl, r4⟩
  have k4 : Keep W w4 := r4.keep
  have cS4 := Lib.hid (cS.out w4 k4)
  have u1 := k4.cell U.out.2.1; have u2 := k4.cell U.out.2.2.1; have u3 := k4.cell U.out.2.2.2
  replace k4 := Lib.hid k4
  replace r4 := Lib.hid r4
  clear cR cS
  cases s with
  | true =>
    have hlt : (n : Int) < (m : Int) := by have := of_decide_eq_true e2.symm; omega
    replace e2 := Lib.hid e2
    go_wp2_with fail
    refine cS4.out.mono ?_
    rintro e w5 ⟨rfl, D5, T5, F5, N5⟩
    have A5 := Lib.hid (fin.out w4 w5 B' d' D5 r4.out T5 F5 N5)
    replace T5 := Lib.hid T5
    replace F5 := Lib.hid F5
    replace N5 := Lib.hid N5
    clear cS4 u1 u2 u3
    go_wp2
    go_ret2
    exact ⟨B', M, d', by rw [← hm.out]; rfl, by rw [← hm.out]; omega, A5.out⟩
  | false =>
    have e3 : decide (n < m) = false := e2.symm
    replace e2 := Lib.hid e2
    go_wp2_with fail
    refine cS4.out.mono ?_
    rintro e w5 ⟨rfl, D5, T5, F5, N5⟩
    have A5 := Lib.hid (fin.out w4 w5 B' d' D5 r4.out T5 F5 N5)
    replace T5 := Lib.hid T5
    replace F5 := Lib.hid F5
    replace N5 := Lib.hid N5
    clear cS4 u1 u2 u3
    go_wp2
    go_ret2
    exact ⟨B', M, d', by rw [← hm.out]; rfl, by rw [← hm.out]; omega, A5.out⟩
end
end Go.Proofs.Ytdjakljkcjadhaa.T9
