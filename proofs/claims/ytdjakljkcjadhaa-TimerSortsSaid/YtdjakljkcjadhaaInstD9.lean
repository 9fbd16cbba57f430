/-
  All of a list of timers; one timer popped; a nil list. No condition.
-/
import Derived.Test.YtdjakljkcjadhaaInstC9
import Derived.Shelf.SlSortCmp.NoneTotal
namespace Go.Proofs.Ytdjakljkcjadhaa.T9
open Go.RowKit Go.Sort Go.Lib Go.Shelf

theorem own_none {w : World} {base n z c : Nat} {e : TypeId} {A : Option Addr} {xs : List Value} (h : w.ownsRow base e z (.slice A n c) n xs) : A = none → n = 0 ∧ c = 0 := fun hA => by
  obtain ⟨A', c', e1, h1⟩ := own_form h
  simp only [Value.slice.injEq, true_and] at e1
  obtain ⟨rfl, rfl⟩ := e1
  exact h1 hA
theorem own_some {w : World} {base n z c : Nat} {e : TypeId} {a : Addr} {xs : List Value} (h : w.ownsRow base e z (.slice (some a) n c) n xs) : ∃ g, a = ⟨g, 0, none⟩ ∧ base ≤ g := by
  rcases h.2 with ⟨e1, _⟩ | ⟨g', cap, cur, e1, h4, _⟩
  · cases e1
  · simp only [Value.slice.injEq, Option.some.injEq] at e1
    exact ⟨g', e1.1, h4⟩

set_option maxHeartbeats 2000000 in
theorem tall_fn {w : World} {b bq : Nat} {D : Nat → Prop} {L : List TmV} (h : TI w b bq D L) :
    Calls Try.prog 13 #[.pointer (some ⟨bq, 0, none⟩)] w fun e w' => ∃ B d, e = .returned (.slice B L.length d) ∧ Keep w w' ∧ w'.ownsRow w.heap.size 33 3 (.slice B L.length d) L.length (tmCs (row L) L.length) := by
  obtain ⟨n, Q, ⟨B, A, c, h1, rfl⟩, h2, p, s, nd⟩ := h
  rw [TI.len_eq p]
  have c0 := h1.e0
  have hlim := h1.lim
  have cC := Lib.hid (tclone_own A n c Q w (rows_rd h1.row (by omega) h1.ok) (own_none h1.row) (by omega))
  clear h1 h2
  replace p := Lib.hid p
  replace s := Lib.hid s
  replace nd := Lib.hid nd
  go_enter Try.func13, Try.ntmps13
  go_wp2_with fail
  refine cC.out.mono ?_
  rintro e w1 ⟨A', cap, rfl, k1, own⟩
  clear c0
  cases A' with
  | none =>
    obtain ⟨rfl, rfl⟩ := own_none own rfl
    have cS := Lib.hid (fun W => AnyF.slices_SortFunc_none Try.sortTm none 0 (.func (.func 25) #[] #[]) W)
    replace k1 := Lib.hid k1
    replace own := Lib.hid own
    go_wp2_with fail
    refine (cS.out _).mono ?_
    rintro e w2 ⟨rfl, rfl⟩
    go_wp2
    go_ret
    exact ⟨_, _, rfl, k1.out, own.out⟩
  | some a =>
    obtain ⟨g, rfl, hg⟩ := own_some own
    have cS := Lib.hid (tsort_fn Q w.heap.size g n cap w1 (by omega) own)
    replace k1 := Lib.hid k1
    replace hg := Lib.hid hg
    clear own
    go_wp2_with fail
    refine cS.out.mono ?_
    rintro e w2 ⟨rfl, d', hp, hs, hgr, own2⟩
    rw [sorted_is p.out s.out nd.out hp hs] at own2
    have k2 : Hid (Keep w w2) := keep_grown k1.out hgr (fun q e => by cases e; exact hg.out)
    replace own2 := Lib.hid own2
    clear hp hs hgr cS
    go_wp2
    go_ret
    exact ⟨_, _, rfl, k2.out, own2.out⟩

/-- The first timer popped off the heap. -/
theorem tpop_fn {w : World} {b bq : Nat} {D : Nat → Prop} {x : TmV} {M : List TmV} (h : TI w b bq D (x :: M)) :
    Calls Try.prog 28 #[.iface 62 (.pointer (some ⟨bq, 0, none⟩))] w fun e w' => (∃ v, e = .returned v) ∧ TI w' b bq D M ∧ Fr D w w' := by
  obtain ⟨n, Q, h1, h2, p, s, nd⟩ := h
  have hl := TI.len_eq p
  obtain ⟨m, rfl⟩ : ∃ m, n = m + 1 := ⟨M.length, by rw [← hl]; rfl⟩
  refine (heappop_fn (heapC b bq) h1 h2).mono ?_
  rintro e w' ⟨rfl, R, H, HQ, P, F⟩
  have e0 : Q 0 = x := head_is h2 p s
  rw [e0] at P
  refine ⟨⟨_, rfl⟩, ⟨m, R, H, HQ, List.Perm.cons_inv (P.symm.trans p), (List.pairwise_cons.1 s).2, (List.nodup_cons.1 nd).2⟩, F⟩

set_option maxHeartbeats 1000000 in
theorem tnext_nil (w : World) : Calls Try.prog 11 #[.pointer none] w fun e w' => e = .returned (.tuple #[.agg #[.int .i64 0, .int .i64 0, .int .i64 0], .bool false]) ∧ Keep w w' := by
  have cL := Lib.hid tlen_nil
  go_enter Try.func11, Try.ntmps11
  go_wp2_with fail
  refine (cL.out _).mono ?_
  rintro e w1 ⟨rfl, rfl⟩
  go_wp2
  refine bodyPost_ret (v := .tuple #[.agg #[.int .i64 0, .int .i64 0, .int .i64 0], .bool false]) (by simp [results, Try.results11, go_sem, *]) rfl ⟨rfl, ?_⟩
  repeat (refine Keep.set ?_ (by simp) _)
  exact Keep.one _ _

set_option maxHeartbeats 2000000 in
theorem tdue_nil (w : World) (now : Int) : Calls Try.prog 16 #[.pointer none, .int .i64 now] w fun e w' => (∃ B d, e = .returned (.slice B 0 d)) ∧ Keep w w' := by
  have cN := Lib.hid tnext_nil
  go_enter Try.func16, Try.ntmps16
  go_wp2_with fail
  refine (cN.out _).mono ?_
  rintro e w1 ⟨rfl, k1⟩
  replace k1 := Lib.hid k1
  go_wp2
  go_loopg [5, 6, 7] 0 (fun gx s5 s6 s7 wr => gx = 0 ∧ s5 = .slice none 0 0 ∧ s6 = .pointer (some ⟨w1.heap.size, 0, none⟩) ∧ s7 = .bool false ∧ Hid (Keep w wr))
  case atStart => exact ⟨rfl, rfl, rfl, rfl, k1.out.trans (Keep.one _ _)⟩
  case round =>
    obtain ⟨rfl, rfl, rfl, rfl, KR⟩ := hrel
    go_wp2
    go_ret
    exact ⟨⟨_, _, rfl⟩, KR.out⟩
end Go.Proofs.Ytdjakljkcjadhaa.T9
