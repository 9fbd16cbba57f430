/-
  The law's own few. No condition.
-/
import Derived.Test.YtpkpmoiekjhdnaaDoorLMath8
namespace Go.Proofs.YtpkpmoiekjhdnaaDoor
open Go.RowKit Go.Sort Go.Lib Go.Shelf

/-- The operations of a slice: number j is of kind K j, with the pod P j and the reason R j. -/
structure RdOps (w : World) (A : Option Addr) (n : Nat) (K : Nat → Int) (P : Nat → PodV) (R : Nat → Int) : Prop where
  small : n ≤ 9223372036854775807
  rng : ∀ j, j < n → I64 (K j)
  adr : 0 < n → ∃ b off, A = some ⟨b, off, none⟩ ∧ ∀ j, j < n → w.cell? ⟨b, off + j * 11, none⟩ = some (.int .i64 (K j)) ∧ Cel9 w b (off + j * 11 + 1) (P j) ∧ w.cell? ⟨b, off + j * 11 + 10, none⟩ = some (.int .i64 (R j))
  is : ∀ j, j < n → PodIs w (P j)
theorem RdOps.keep {w w' : World} {A : Option Addr} {n : Nat} {K : Nat → Int} {P : Nat → PodV} {R : Nat → Int} (h : RdOps w A n K P R) (k : Keep w w') : RdOps w' A n K P R :=
  ⟨h.small, h.rng, fun hn => by obtain ⟨b, off, e, hc⟩ := h.adr hn; exact ⟨b, off, e, fun j hj => ⟨k.cell (hc j hj).1, (hc j hj).2.1.keep k, k.cell (hc j hj).2.2⟩⟩, fun j hj => (h.is j hj).keep k⟩
theorem ops_at (b off n cp j : Nat) (hj : j < n) (W : World) : (Instr.indexAt 22 (.slice (some ⟨b, off, none⟩) n cp) (.int .i64 j)).run Tryd.prog W = .ok (.pointer (some ⟨b, off + j * 11, none⟩)) W := by
  go_simp
def OneF (x : PodV) : Prop := -1073741824 ≤ x.p ∧ x.p ≤ 1073741824 ∧ x.m ≤ 20
def FewO (P : Nat → PodV) (n : Nat) : Prop := n ≤ 60 ∧ ∀ j, j < n → OneF (P j)
theorem one_few (x : PodV) : FewP (fun t => [x].getD t x) 1 ↔ OneF x := by
  constructor
  · rintro ⟨_, h⟩
    exact h 0 (by omega)
  · intro h
    refine ⟨by omega, fun j hj => ?_⟩
    obtain rfl : j = 0 := by omega
    exact h

set_option maxRecDepth 100000 in
set_option maxHeartbeats 8000000 in
theorem few8_fn (A : Option Addr) (n c : Nat) (K : Nat → Int) (P : Nat → PodV) (R : Nat → Int) (w : World) (hR : RdOps w A n K P R) (r : Bool) (hr : r = true ↔ FewO P n) : Calls Tryd.prog 10 #[.slice A n c] w fun e w' => e = .returned (.bool r) ∧ Keep w w' := by
  have hn := hR.small
  replace hR := Lib.hid hR
  replace hr := Lib.hid hr
  go_enter Tryd.func10, Tryd.ntmps10
  go_wp2
  go_loopg [3] n (fun gx s3 wr => ∃ j : Nat, j ≤ n ∧ gx = n - j ∧ s3 = .int .i64 j ∧ Hid (Keep w wr) ∧ Hid (∀ t, t < j → OneF (P t)))
  case atStart => exact ⟨0, Nat.zero_le _, rfl, rfl, Keep.refl _, fun t h => absurd h (Nat.not_lt_zero _)⟩
  case round =>
    obtain ⟨j, hj, rfl, rfl, G, OK⟩ := hrel
    by_cases hlt : j < n
    · have R2 := hR.out.keep G.out
      obtain ⟨b, off, hA, ca⟩ := R2.adr (by omega)
      subst hA
      have q1 := ops_at b off n c j hlt
      have X := (ca j hlt).2.1
      have Xi := R2.is j hlt
      clear ca
      replace R2 := Lib.hid R2
      have one : Hid (∀ t, t < j → OneF (P t)) := OK
      obtain ⟨x, hx⟩ : ∃ x, x = P j := ⟨_, rfl⟩
      rw [← hx] at X Xi
      replace hx := Lib.hid hx
      have hfew : ∀ b : Bool, (b = true ↔ OneF x) → Calls Tryd.prog 19 #[.slice (some ⟨wr.heap.size, 0, none⟩) 1 1] (wr.alloc (.cells #[.int .i64 x.k, .int .i64 x.p, .bool x.f, .int .i64 x.g, .slice x.A x.m x.c, .int .i64 x.a, .int .i64 x.h, .int .i64 x.d, .int .i64 x.t] 35)) fun e w' => e = .returned (.bool b) ∧ (wr.alloc (.cells #[.int .i64 x.k, .int .i64 x.p, .bool x.f, .int .i64 x.g, .slice x.A x.m x.c, .int .i64 x.a, .int .i64 x.h, .int .i64 x.d, .int .i64 x.t] 35)) = w' := fun b hb =>
        rfew_fn (some ⟨wr.heap.size, 0, none⟩) 1 1 (fun t => [x].getD t x) _ (rd_lay1 (L := [x]) (Keep.one _ _) (by simp) (fun y hy => by rw [List.mem_singleton.1 hy]; exact Xi) rfl x) b (hb.trans (one_few x).symm)
      replace hfew := Lib.hid hfew
      have x0 := X.e0; have x1 := X.e1; have x2 := X.e2; have x3 := X.e3; have x4 := X.e4; have x5 := X.e5; have x6 := X.e6; have x7 := X.e7; have x8 := X.e8
      clear X
      simp only [Nat.add_assoc, Nat.reduceAdd] at x1 x2 x3 x4 x5 x6 x7 x8
      simp only [← Nat.add_assoc] at x1 x2 x3 x4 x5 x6 x7 x8
      replace Xi := Lib.hid Xi
      by_cases ho : OneF x
      · have hf2 := Lib.hid (hfew.out true ⟨fun _ => ho, fun _ => rfl⟩)
        have OK2 : Hid (∀ t, t < j + 1 → OneF (P t)) := fun t ht => by
          by_cases e : t = j
          · rw [e, ← hx.out]; exact ho
          · exact OK.out t (by omega)
        have G2 : Hid (Keep w (wr.alloc (.cells #[.int .i64 x.k, .int .i64 x.p, .bool x.f, .int .i64 x.g, .slice x.A x.m x.c, .int .i64 x.a, .int .i64 x.h, .int .i64 x.d, .int .i64 x.t] 35))) := G.out.trans (Keep.one _ _)
        replace ho := Lib.hid ho
        clear hfew
        go_wp2_with fail
        refine hf2.out.mono ?_
        rintro e w3 ⟨rfl, rfl⟩
        clear hf2
        go_wp2
        go_roundg (n - (j + 1))
        case measure => omega
        case rel => exact ⟨j + 1, hlt, rfl, by go_num, G2, OK2⟩
      · have hf2 := Lib.hid (hfew.out false (by simp only [Bool.false_eq_true, false_iff]; exact ho))
        have hr2 : r = false := by
          cases r with
          | false => rfl
          | true =>
            have := (hr.out.1 rfl).2 j hlt
            rw [← hx.out] at this
            exact absurd this ho
        subst hr2
        have G2 : Hid (Keep w (wr.alloc (.cells #[.int .i64 x.k, .int .i64 x.p, .bool x.f, .int .i64 x.g, .slice x.A x.m x.c, .int .i64 x.a, .int .i64 x.h, .int .i64 x.d, .int .i64 x.t] 35))) := G.out.trans (Keep.one _ _)
        replace ho := Lib.hid ho
        clear hfew
        go_wp2_with fail
        refine hf2.out.mono ?_
        rintro e w3 ⟨rfl, rfl⟩
        clear hf2
        go_wp2
        go_ret
        exact ⟨rfl, G2.out⟩
    · obtain rfl : j = n := by omega
      cases r with
      | true =>
        have h60 := (hr.out.1 rfl).1
        have hz : (j : Int) ≤ 60 := by omega
        go_wp2
        go_ret
        exact ⟨rfl, G.out⟩
      | false =>
        have h : ¬ FewO P j := fun h => by have := hr.out.2 h; cases this
        have h60 : ¬ j ≤ 60 := fun h2 => h ⟨h2, OK.out⟩
        have hz : 60 < (j : Int) := by omega
        replace h := Lib.hid h
        go_wp2
        go_ret
        exact ⟨by first | rfl | exact retb (by simp; omega) | exact retb (decide_eq_false (by omega)), G.out⟩

end Go.Proofs.YtpkpmoiekjhdnaaDoor
