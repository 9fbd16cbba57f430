/-
  container/heap's up over a heap's timers. Condition: the place lies in the heap.
-/
import Derived.Test.YtdjakljkcjadhaaHeapM9
import Derived.Laws.EntriesVeiled
namespace Go.Proofs.Ytdjakljkcjadhaa.T9
open Go.RowKit Go.Sort Go.Lib

theorem Try.tLen (a : Addr) (w : World) : (Go.method 216 62 (.pointer (some a)) "Len").run Try.prog w = .ok (26, .pointer (some a)) w := by kernel_rfl
theorem Try.tLess (a : Addr) (w : World) : (Go.method 216 62 (.pointer (some a)) "Less").run Try.prog w = .ok (72, .pointer (some a)) w := by kernel_rfl
theorem Try.tSwap (a : Addr) (w : World) : (Go.method 216 62 (.pointer (some a)) "Swap").run Try.prog w = .ok (75, .pointer (some a)) w := by kernel_rfl
theorem Try.tPush (a : Addr) (w : World) : (Go.method 216 62 (.pointer (some a)) "Push").run Try.prog w = .ok (74, .pointer (some a)) w := by kernel_rfl
theorem Try.tPop (a : Addr) (w : World) : (Go.method 216 62 (.pointer (some a)) "Pop").run Try.prog w = .ok (73, .pointer (some a)) w := by kernel_rfl

/-- What container/heap asks of the methods of the heap: M D w n Q: the heap at block bq holds the n timers Q, in blocks D. -/
structure HeapC (bq : Nat) (M : (Nat → Prop) → World → Nat → (Nat → TmV) → Prop) : Prop where
  keep : ∀ {D w w' n Q}, M D w n Q → Keep w w' → M D w' n Q
  lim : ∀ {D w n Q}, M D w n Q → n ≤ 1000
  len : ∀ {D w n Q}, M D w n Q → Calls Try.prog 26 #[.pointer (some ⟨bq, 0, none⟩)] w fun e w' => e = .returned (.int .i64 n) ∧ w = w'
  less : ∀ {D w n Q}, M D w n Q → ∀ i j : Nat, i < n → j < n → Calls Try.prog 72 #[.pointer (some ⟨bq, 0, none⟩), .int .i64 i, .int .i64 j] w fun e w' => e = .returned (.bool (befT (Q i) (Q j))) ∧ Keep w w'
  swap : ∀ {D w n Q}, M D w n Q → ∀ i j : Nat, i < n → j < n → Calls Try.prog 75 #[.pointer (some ⟨bq, 0, none⟩), .int .i64 i, .int .i64 j] w fun e w' => e = .returned (.tuple #[]) ∧ M D w' n (swq Q i j) ∧ Fr D w w'
  push : ∀ {D w n Q}, M D w n Q → n < 1000 → ∀ x : TmV, (∀ j, j < n → (Q j).k ≠ x.k) → TmOk x → Calls Try.prog 74 #[.pointer (some ⟨bq, 0, none⟩), .iface 33 x.val] w fun e w' => e = .returned (.tuple #[]) ∧ ∃ D', M D' w' (n + 1) (put Q n x) ∧ Fr D w w' ∧ ∀ k, D' k → D k ∨ w.heap.size ≤ k
  pop : ∀ {D w n Q}, M D w (n + 1) Q → Calls Try.prog 73 #[.pointer (some ⟨bq, 0, none⟩)] w fun e w' => e = .returned (.iface 33 (Q n).val) ∧ M D w' n Q ∧ Fr D w w'

set_option maxRecDepth 100000 in
set_option maxHeartbeats 8000000 in
theorem up_fn {bq : Nat} {M : (Nat → Prop) → World → Nat → (Nat → TmV) → Prop} (HC : HeapC bq M) {D : Nat → Prop} {w : World} {N : Nat} {Q : Nat → TmV} (h : M D w N Q) (n j : Nat) (hj : j < n) (hn : n ≤ N) (hU : UpI Q n j) :
    Calls Try.prog 36 #[.iface 62 (.pointer (some ⟨bq, 0, none⟩)), .int .i64 j] w fun e w' => e = .returned (.tuple #[]) ∧ ∃ Q', M D w' N Q' ∧ Fr D w w' ∧ HeapQ Q' n ∧ (lst Q' n).Perm (lst Q n) ∧ ∀ t, n ≤ t → Q' t = Q t := by
  have H := Lib.hid h
  have hlim : N ≤ 1000 := HC.lim h
  have U := Lib.hid hU
  clear h hU
  have m1 := Try.tLess
  have m2 := Try.tSwap
  go_enter Try.func36, Try.ntmps36
  go_wp2
  go_loopg [1, 4] (j + 1) (fun gx s1 _ wr => ∃ (jj : Nat) (R : Nat → TmV), s1 = .int .i64 jj ∧ jj < n ∧ jj < gx ∧ Hid (M D wr N R) ∧ Hid (Fr D w wr) ∧ Hid (UpI R n jj) ∧ Hid ((lst R n).Perm (lst Q n)) ∧ Hid (∀ t, n ≤ t → R t = Q t))
  case atStart => exact ⟨j, Q, rfl, hj, by omega, H, Fr.refl _ _, U, List.Perm.refl _, fun _ _ => rfl⟩
  case round =>
    clear H U
    obtain ⟨jj, R, rfl, hjn, hgx, HR, FR, UR, PR, TR⟩ := hrel
    by_cases h0 : jj = 0
    · subst h0
      go_wp2
      go_end0
      exact ⟨rfl, R, HR.out, FR.out, up_done UR.out (Or.inl rfl), PR.out, TR.out⟩
    · obtain ⟨jp, rfl⟩ : ∃ jp, jj = jp + 1 := ⟨jj - 1, by omega⟩
      obtain ⟨i, hi⟩ : ∃ i, i = jp / 2 := ⟨_, rfl⟩
      have hd : (jp : Int) / 2 = (i : Int) := by omega
      have hp : Hid (par (jp + 1) = i) := by show (jp + 1 - 1) / 2 = i; rw [hi]; rfl
      have hij : ¬ (i : Int) = (jp : Int) + 1 := by omega
      have hin : i < jp + 1 := by omega
      replace hi := Lib.hid hi
      have cL := HC.less HR.out (jp + 1) i (by omega) (by omega)
      have cS : ∀ W, M D W N R → Calls Try.prog 75 #[.pointer (some ⟨bq, 0, none⟩), .int .i64 i, .int .i64 ((jp : Int) + 1)] W fun e w' => e = .returned (.tuple #[]) ∧ M D w' N (swq R i (jp + 1)) ∧ Fr D W w' := fun W hW => HC.swap hW i (jp + 1) (by omega) (by omega)
      replace cS := Lib.hid cS
      have cL : Calls Try.prog 72 #[.pointer (some ⟨bq, 0, none⟩), .int .i64 ((jp : Int) + 1), .int .i64 i] wr fun e w' => e = .returned (.bool (befT (R (jp + 1)) (R i))) ∧ Keep wr w' := cL
      obtain ⟨r, hr⟩ : ∃ r, r = befT (R (jp + 1)) (R i) := ⟨_, rfl⟩
      rw [← hr] at cL
      replace cL := Lib.hid cL
      replace hr := Lib.hid hr
      cases r with
      | false =>
        go_wp2_with fail
        refine cL.out.mono ?_
        rintro e w1 ⟨rfl, g1⟩
        replace g1 := Lib.hid g1
        go_wp2
        go_end0
        exact ⟨rfl, R, HC.keep HR.out g1.out, FR.out.keep g1.out, up_done UR.out (Or.inr (by rw [hp.out]; exact hr.out.symm)), PR.out, TR.out⟩
      | true =>
        go_wp2_with fail
        refine cL.out.mono ?_
        rintro e w1 ⟨rfl, g1⟩
        have H1 := Lib.hid (HC.keep HR.out g1)
        have F1 := Lib.hid (FR.out.keep g1)
        clear cL g1
        go_wp2_with fail
        refine (cS.out _ H1.out).mono ?_
        rintro e w2 ⟨rfl, H2, F2⟩
        have F3 := Lib.hid (F1.out.same F2)
        replace F2 := Lib.hid F2
        replace H2 := Lib.hid H2
        have U2 := Lib.hid (up_step UR.out (Nat.succ_pos jp) hjn (by rw [hp.out]; exact hr.out.symm))
        rw [hp.out] at U2
        have P2 : Hid ((lst (swq R i (jp + 1)) n).Perm (lst Q n)) := (lst_swap R (by omega) hjn).trans PR.out
        have T2 : Hid (∀ t, n ≤ t → swq R i (jp + 1) t = Q t) := fun t ht => by rw [sw_o R (by omega) (by omega)]; exact TR.out t ht
        go_wp2
        go_roundg (jp + 1)
        case measure => omega
        case rel => exact ⟨i, swq R i (jp + 1), rfl, by omega, by omega, H2, F3, U2, P2, T2⟩
end Go.Proofs.Ytdjakljkcjadhaa.T9
