/-
  The reference's Add. Conditions: at most 1048576 rows and elements.
-/
import Derived.Test.YtkkoajkoiiolgaaRef
import Derived.Deep.RegionLaw
namespace Go.Proofs.Ytkkoajkoiiolgaa
open Go.RowKit

def RAddPost (R : Nat) (len : Nat → Nat) (Z : Nat → Nat → Int) (w : World) (e : Ending) (w' : World) : Prop :=
  Below w.heap.size w w' ∧
    ((AddOk R len Z ∧ ∃ A cap, e = .returned (.tuple #[.slice A (len 0) cap, .bool true]) ∧ Rd w' A (len 0) (fun k => sumTo R fun r => Z r k)) ∨
      (¬ AddOk R len Z ∧ e = .returned (.tuple #[.slice none 0 0, .bool false])))

theorem radd_none (L : Option Addr) (C : Nat) (w : World) :
    Calls Try.prog 11 #[.slice L 0 C] w fun e w' => e = .returned (.tuple #[.slice none 0 0, .bool false]) ∧ w' = w := by
  go_enter Try.func11, Try.ntmps11
  go_wp2
  go_ret2
  exact ⟨rfl, rfl⟩

/-- The block of a number. -/
def numF (n : Int) (q : Nat) : Value := if q = 0 then .int .i64 (hi n) else .int .i64 (lo n)

theorem keep_frozen {w w' : World} {a : Addr} {v : Value} (hb : Keep w w') (hc : w.cell? a = some v) (hf : w.frozen? a = false) : w'.frozen? a = false := by
  rw [hb.frozen (World.block_lt_of_cell? _ _ hc)]; exact hf
theorem num_row {w w' : World} {b t : Nat} {n m : Int} (h : w.rowIs b t 2 (numF n)) (k : Keep w w') :
    ((w'.setCell ⟨b, 0, none⟩ (.int .i64 (hi m))).setCell ⟨b, 1, none⟩ (.int .i64 (lo m))).rowIs b t 2 (numF m) :=
  (((h.of_block (k.block b h.lt)).set 0 _).set 1 _).congr (fun i hi => by
    match i, hi with
    | 0, _ => rfl
    | 1, _ => rfl)
theorem keep_set {w w' : World} {b : Nat} {x y : Value} (k : Keep w w') (hb : w.heap.size ≤ b) : Keep w ((w'.setCell ⟨b, 0, none⟩ x).setCell ⟨b, 1, none⟩ y) :=
  (Below.setCell (Below.setCell k hb x) hb y)
theorem inR_not {n : Int} (h : inR n = false) : ¬ (-9223372036854775808 ≤ n ∧ n ≤ 9223372036854775807) := by unfold inR at h; exact of_decide_eq_false h
theorem hi_sum {R : Nat} {f : Nat → Int} (h : ∀ k, k < R → -9223372036854775808 ≤ f k ∧ f k ≤ 9223372036854775807) (hR : R ≤ 1048576) : -1152921504606846976 ≤ hi (sumTo R f) ∧ hi (sumTo R f) ≤ 1152921504606846976 := by
  have := sumTo_bd h
  unfold hi
  omega
theorem Keep.ofAlloc {w w' : World} (o : Obj) (h : Keep (w.alloc o) w') : Keep w w' := Below.trans ((Below.refl _ _).alloc (Nat.le_refl _) o) (Below.mono h (by simp))

set_option maxHeartbeats 4000000 in
theorem radd_some (L : Option Addr) (R C : Nat) (A : Nat → Option Addr) (len K : Nat → Nat) (Z : Nat → Nat → Int) (w : World) (hL : Rds w L R A len K Z) (hR : R ≤ 1048576) (hlen : ∀ r, r < R → len r ≤ 1048576) (h0 : 0 < R) :
    Calls Try.prog 11 #[.slice L R C] w (RAddPost R len Z w) := by
  obtain ⟨i0, hi0, hz0, hz1, hz2⟩ := info_parts Try.info2
  have hRz : (0 : Int) < (R : Int) := by omega
  have hRb : ((R : Int) == 0) = false := by simp; omega
  obtain ⟨b, off, rfl, ca⟩ := hL.adr h0
  have hl0 := hlen 0 h0
  replace hlen : Hid (∀ r, r < R → len r ≤ 1048576) := hlen
  replace ca : Hid (∀ j, j < R → w.cell? ⟨b, off + j, none⟩ = some (.slice (A j) (len j) (K j))) := ca
  go_enter Try.func11, Try.ntmps11
  go_wp2
  go_loopg [4] R (fun g i wr => ∃ k : Nat, k ≤ R ∧ g = R - k ∧ i = .int .i64 k ∧ Drawn w wr ∧ Aside (∀ j, j < k → len j = len 0))
  case atStart => exact ⟨0, Nat.zero_le _, rfl, rfl, Drawn.refl _, fun _ h => absurd h (Nat.not_lt_zero _)⟩
  case round =>
    obtain ⟨k, hk, rfl, rfl, hd, hall⟩ := hrel
    have g0 := cell_keep hd.below (ca.out 0 h0)
    rw [Nat.add_zero] at g0
    by_cases hlt : k < R
    · have g1 := cell_keep hd.below (ca.out k hlt)
      by_cases hz : len k = len 0
      · have hzb : ((len k : Int) != (len 0 : Int)) = false := by simp [hz]
        replace hz : Hid (len k = len 0) := hz
        go_wp2
        go_quiet (fail)
        go_wp2
        go_roundg (R - (k + 1))
        case measure => omega
        case rel => exact ⟨k + 1, hlt, rfl, by go_num, hd.drewN _, fun j hj => by
          rcases Nat.lt_succ_iff_lt_or_eq.1 hj with h | rfl
          · exact hall.out j h
          · exact hz.out⟩
      · have hzb : ((len k : Int) != (len 0 : Int)) = true := by simp; omega
        replace hz : Hid (len k ≠ len 0) := hz
        go_wp2
        go_quiet (fail)
        go_wp2
        go_ret2
        exact ⟨(hd.drewN _).below, Or.inr ⟨fun h => hz.out (h.2.1 k hlt), rfl⟩⟩
    · obtain rfl : k = R := by omega
      go_wp2
      clear hlt hk
      go_loopg [5, 6] (len 0) (fun g ov i wq => ∃ c : Nat, c ≤ len 0 ∧ g = len 0 - c ∧ i = .int .i64 c ∧ Below w.heap.size w wq ∧ wq.ownsRow w.heap.size 2 1 ov c (rowL c fun j => sumTo k fun r => Z r j) ∧ Aside (∀ j, j < c → inR (sumTo k fun r => Z r j) = true))
      case atStart => exact ⟨0, Nat.zero_le _, rfl, rfl, hd.below, World.ownsRow_nil _ _ _ _, fun _ h => absurd h (Nat.not_lt_zero _)⟩
      case round =>
        obtain ⟨c, hc, rfl, rfl, hBc, hown, hin⟩ := hrel
        clear g0 hd
        have g0 := cell_keep hBc (ca.out 0 h0)
        rw [Nat.add_zero] at g0
        by_cases hlt : c < len 0
        · go_wp2_with (go_at_call 23; refine (of_k _ _).mono ?_; rintro e w1 ⟨rfl, hb1⟩)
          have hk2 : Keep wr (w1.alloc (.cells #[.int .i64 (hi 0), .int .i64 (lo 0)] 39)) := hb1.trans ((Below.refl _ _).alloc (Nat.le_refl _) _)
          have hn2 : (w1.alloc (.cells #[.int .i64 (hi 0), .int .i64 (lo 0)] 39)).rowIs w1.heap.size 39 2 (numF 0) := World.rowIs_alloc w1 #[.int .i64 (hi 0), .int .i64 (lo 0)] 39 (numF 0) (fun i hi => by
            match i, hi with
            | 0, _ => rfl
            | 1, _ => rfl)
          have hsB := hb1.size
          generalize w1.alloc (.cells #[.int .i64 (hi 0), .int .i64 (lo 0)] 39) = w2 at hk2 hn2 ⊢
          generalize w1.heap.size = Bn at hsB hn2 ⊢
          clear hb1
          replace hk2 : Hid (Keep wr w2) := hk2
          replace hn2 : Hid (w2.rowIs Bn 39 2 (numF 0)) := hn2
          go_loopg [8] k (fun g i wx => ∃ r : Nat, r ≤ k ∧ g = k - r ∧ i = .int .i64 r ∧ Keep wr wx ∧ wx.rowIs Bn 39 2 (numF (sumTo r fun r => Z r c)))
          case atStart => exact ⟨0, Nat.zero_le _, rfl, rfl, hk2.out, hn2.out⟩
          case round =>
            obtain ⟨r, hr, rfl, rfl, hkx, hnx⟩ := hrel
            by_cases hrk : r < k
            · have hLx := (hL.below hBc).below hkx
              obtain ⟨bx, ox, ex, cx⟩ := hLx.adr h0
              injection ex with ex
              injection ex with e1 e2 _
              subst e1 e2
              have g1 := cx r hrk
              obtain ⟨br, ofr, er, cr⟩ := (hLx.row r hrk).adr (by rw [hall.out r hrk]; omega)
              have hcr : c < len r := by rw [hall.out r hrk]; omega
              have g2 := cr c hcr
              rw [er] at g1
              have g3 := hnx.cell (i := 0) (by omega)
              have g4 := hnx.cell (i := 1) (by omega)
              have g5 := hnx.frozen 0
              have g6 := hnx.frozen 1
              simp only [numF, if_true, Nat.one_ne_zero, if_false] at g3 g4
              obtain ⟨p1, p2⟩ := hi_i64 ((hL.row r hrk).range c hcr)
              have hlr := (hL.row r hrk).small
              obtain ⟨p3, p4⟩ := hi_sum (R := r) (f := fun r => Z r c) (fun q hq => (hL.row q (by omega)).range c (by rw [hall.out q (by omega)]; omega)) (by omega)
              clear cx cr er hLx g0
              go_wp2_with fail
              go_region_law (first
                  | (go_simp; go_at_call 23; refine (of_k _ _).mono ?_; rintro e w1 ⟨rfl, hb1⟩; have f1 := keep_cell hb1 g3; have f2 := keep_cell hb1 g4; have f3 := keep_frozen hb1 g3 g5; have f4 := keep_frozen hb1 g4 g6)
                  | (go_simp; go_at_call 24; refine (plus_k _ _ _ (by omega) (by omega) (by omega) (by omega)).mono ?_; rintro e w3 ⟨rfl, hb3⟩; have f5 := keep_cell hb3 f1; have f6 := keep_cell hb3 f2; have f7 := keep_frozen hb3 f1 f3; have f8 := keep_frozen hb3 f2 f4))
              all_goals
                have hkw : Keep wr w3 := Keep.trans (b := w1) (Keep.ofDrew hb1) hb3
                go_wp2
                go_roundg (k - (r + 1))
                case measure => omega
                case rel => exact ⟨r + 1, hrk, rfl, by go_num, keep_set (hkx.trans hkw) hsB, num_row hnx hkw⟩
            · obtain rfl : r = k := by omega
              have g3 := hnx.cell (i := 0) (by omega)
              have g4 := hnx.cell (i := 1) (by omega)
              simp only [numF, if_true, Nat.one_ne_zero, if_false] at g3 g4
              have hBx := below_keep hBc hBc.size hkx
              clear g0
              cases hb : inR (sumTo r fun r => Z r c)
              · replace hb : Hid (inR (sumTo r fun r => Z r c) = false) := hb
                go_wp2_with (go_at_call 25; refine (value_nk _ _ (inR_not hb.out)).mono ?_; rintro e w5 ⟨rfl, hb5⟩)
                go_ret2
                exact ⟨below_keep hBx hBx.size hb5, Or.inr ⟨(fun h => by have := h.2.2 c hlt; rw [hb.out] at this; cases this), rfl⟩⟩
              · replace hb : Hid (inR (sumTo r fun r => Z r c) = true) := hb
                have hown3 := own_keep hown hkx
                clear hown
                go_wp2_with fail
                refine (value_yk _ _ (inR_range hb.out)).mono ?_
                rintro e w5 ⟨rfl, hb5⟩
                have hown5 := own_keep hown3 hb5
                have hB5 := below_keep hBx hBx.size hb5
                have hsz5 := hB5.size
                go_wp2_with (at_builtin; refine wpList_append_own _ rfl _ _ 24 rfl w.heap.size 2 i0 (.int .i64 0) 1 8 Try.underlying24 hi0 hz0 hz1 hz2 rfl (by decide) _ _ _ rfl (hown5.alloc _) ⟨w5.heap.size, 0, none⟩ 1 1 [.int .i64 (sumTo r fun r => Z r c)] rfl rfl (cell_one_new _ _ _) (ints_oneCell .i64 [sumTo r fun r => Z r c]) (by unfold maxLen; omega) (by omega) (by simp; omega) ?_; intro v' w6 hown6 hgrow hnil)
                have hB6 : Below w.heap.size w w6 := (hB5.alloc hsz5 _).grown hgrow (by simp; omega) (fun q hq => (hown5.lt q hq).1)
                rw [rowL_succ c fun j => sumTo r fun r => Z r j] at hown6
                go_roundg (len 0 - (c + 1))
                case measure => omega
                case rel => exact ⟨c + 1, hlt, rfl, by go_num, hB6, hown6, fun j hj => by
                  rcases Nat.lt_succ_iff_lt_or_eq.1 hj with h | rfl
                  · exact hin.out j h
                  · exact hb.out⟩
        · obtain rfl : c = len 0 := by omega
          obtain ⟨A', cap', rfl, hrd⟩ := Rd.ofOwn hown (by omega) (fun j hj => inR_range (hin.out j hj))
          go_wp2
          go_ret2
          exact ⟨hBc, Or.inl ⟨⟨h0, hall.out, hin.out⟩, _, _, rfl, hrd⟩⟩
end Go.Proofs.Ytkkoajkoiiolgaa
