/-
  container/heap's up over a queue's pods. Condition: the place lies in the heap.
-/
import Derived.Test.YtmmpmpdjcmilkaaHeap7
import Derived.Laws.EntriesVeiled
namespace Go.Proofs.Ytmmpmpdjcmilkaa
open Go.RowKit Go.Sort Go.Lib Go.Shelf

theorem Try.mLen (a : Addr) (w : World) : (Go.method 201 59 (.pointer (some a)) "Len").run Try.prog w = .ok (27, .pointer (some a)) w := by kernel_rfl
theorem Try.mLess (a : Addr) (w : World) : (Go.method 201 59 (.pointer (some a)) "Less").run Try.prog w = .ok (72, .pointer (some a)) w := by kernel_rfl
theorem Try.mSwap (a : Addr) (w : World) : (Go.method 201 59 (.pointer (some a)) "Swap").run Try.prog w = .ok (75, .pointer (some a)) w := by kernel_rfl
theorem Try.mPush (a : Addr) (w : World) : (Go.method 201 59 (.pointer (some a)) "Push").run Try.prog w = .ok (74, .pointer (some a)) w := by kernel_rfl
theorem Try.mPop (a : Addr) (w : World) : (Go.method 201 59 (.pointer (some a)) "Pop").run Try.prog w = .ok (73, .pointer (some a)) w := by kernel_rfl

set_option maxRecDepth 100000 in
set_option maxHeartbeats 8000000 in
theorem up_fn {w : World} {b0 b1 bq B : Nat} {A : Option Addr} {c N : Nat} {Q : Nat → PodV} (h : QMem w b0 b1 bq B A c N Q) (n j : Nat) (hj : j < n) (hn : n ≤ N) (hU : UpI Q n j) :
    Calls Try.prog 39 #[.iface 59 (.pointer (some ⟨bq, 0, none⟩)), .int .i64 j] w fun e w' => e = .returned (.tuple #[]) ∧ ∃ Q', QMem w' b0 b1 bq B A c N Q' ∧ Fr (Foot bq B A) w w' ∧ HeapQ Q' n ∧ (lst Q' n).Perm (lst Q n) ∧ ∀ t, n ≤ t → Q' t = Q t := by
  have H := Lib.hid h
  have hlim : N ≤ 1000 := h.lim
  have U := Lib.hid hU
  clear h hU
  have m1 := Try.mLess
  have m2 := Try.mSwap
  go_enter Try.func39, Try.ntmps39
  go_wp2
  go_loopg [1, 4] (j + 1) (fun gx s1 _ wr => ∃ (jj : Nat) (R : Nat → PodV), s1 = .int .i64 jj ∧ jj < n ∧ jj < gx ∧ Hid (QMem wr b0 b1 bq B A c N R) ∧ Hid (Fr (Foot bq B A) w wr) ∧ Hid (UpI R n jj) ∧ Hid ((lst R n).Perm (lst Q n)) ∧ Hid (∀ t, n ≤ t → R t = Q t))
  case atStart => exact ⟨j, Q, rfl, hj, by omega, H, Fr.refl _ _, U, List.Perm.refl _, fun _ _ => rfl⟩
  case round =>
    clear H U
    obtain ⟨jj, R, rfl, hjn, hgx, HR, FR, UR, PR, TR⟩ := hrel
    by_cases h0 : jj = 0
    · subst h0
      go_wp2
      go_end0
      exact ⟨rfl, R, HR.out, FR.out, up_done UR.out (Or.inl rfl), PR.out, TR.out⟩
    · obtain ⟨jp, rfl⟩ : ∃ jp, jj = jp + 1 := ⟨jj - 1, by omega⟩
      obtain ⟨i, hi⟩ : ∃ i, i = jp / 2 := ⟨_, rfl⟩
      have hd : (jp : Int) / 2 = (i : Int) := by omega
      have hp : Hid (par (jp + 1) = i) := by show (jp + 1 - 1) / 2 = i; rw [hi]; rfl
      have hij : ¬ (i : Int) = (jp : Int) + 1 := by omega
      have hin : i < jp + 1 := by omega
      replace hi := Lib.hid hi
      have cL := hless_fn HR.out (jp + 1) i (by omega) (by omega)
      have cS : ∀ W, QMem W b0 b1 bq B A c N R → Calls Try.prog 75 #[.pointer (some ⟨bq, 0, none⟩), .int .i64 i, .int .i64 ((jp : Int) + 1)] W fun e w' => e = .returned (.tuple #[]) ∧ QMem w' b0 b1 bq B A c N (swq R i (jp + 1)) ∧ Fr (Foot bq B A) W w' := fun W hW => hswap_fn hW i (jp + 1) (by omega) (by omega)
      replace cS := Lib.hid cS
      have cL : Calls Try.prog 72 #[.pointer (some ⟨bq, 0, none⟩), .int .i64 ((jp : Int) + 1), .int .i64 i] wr fun e w' => e = .returned (.bool (befP (R (jp + 1)) (R i))) ∧ Gr wr w' := cL
      obtain ⟨r, hr⟩ : ∃ r, r = befP (R (jp + 1)) (R i) := ⟨_, rfl⟩
      rw [← hr] at cL
      replace cL := Lib.hid cL
      replace hr := Lib.hid hr
      cases r with
      | false =>
        go_wp2_with fail
        refine cL.out.mono ?_
        rintro e w1 ⟨rfl, g1⟩
        replace g1 := Lib.hid g1
        go_wp2
        go_end0
        exact ⟨rfl, R, HR.out.keep g1.out.keep, FR.out.keep g1.out.keep, up_done UR.out (Or.inr (by rw [hp.out]; exact hr.out.symm)), PR.out, TR.out⟩
      | true =>
        go_wp2_with fail
        refine cL.out.mono ?_
        rintro e w1 ⟨rfl, g1⟩
        have H1 := Lib.hid (HR.out.keep g1.keep)
        have F1 := Lib.hid (FR.out.keep g1.keep)
        clear cL g1
        go_wp2_with fail
        refine (cS.out _ H1.out).mono ?_
        rintro e w2 ⟨rfl, H2, F2⟩
        have F3 := Lib.hid (F1.out.same F2)
        replace F2 := Lib.hid F2
        replace H2 := Lib.hid H2
        have U2 := Lib.hid (up_step UR.out (Nat.succ_pos jp) hjn (by rw [hp.out]; exact hr.out.symm))
        rw [hp.out] at U2
        have P2 : Hid ((lst (swq R i (jp + 1)) n).Perm (lst Q n)) := (lst_swap R (by omega) hjn).trans PR.out
        have T2 : Hid (∀ t, n ≤ t → swq R i (jp + 1) t = Q t) := fun t ht => by rw [sw_o R (by omega) (by omega)]; exact TR.out t ht
        go_wp2
        go_roundg (jp + 1)
        case measure => omega
        case rel => exact ⟨i, swq R i (jp + 1), rfl, by omega, by omega, H2, F3, U2, P2, T2⟩
end Go.Proofs.Ytmmpmpdjcmilkaa
