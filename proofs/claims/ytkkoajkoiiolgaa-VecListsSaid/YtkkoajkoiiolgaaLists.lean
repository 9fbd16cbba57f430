/-
  The walk of VecLists: it answers true for every input. No condition.
-/
import Derived.Test.YtkkoajkoiiolgaaMatches
namespace Go.Proofs.Ytkkoajkoiiolgaa
open Go.RowKit

/-! Plain mathematics: a list turned round, its first part and its last part -/
def rev {α : Type} (R : Nat) (f : Nat → α) (r : Nat) : α := f (R - 1 - r)
def shift {α : Type} (k : Nat) (f : Nat → α) (r : Nat) : α := f (k + r)

theorem sumTo_congr {R : Nat} {f g : Nat → Int} (h : ∀ r, r < R → f r = g r) : sumTo R f = sumTo R g := by
  induction R with
  | zero => rfl
  | succ R ih => simp only [sumTo]; rw [ih fun r hr => h r (by omega), h R (by omega)]
theorem sumTo_split (k m : Nat) (f : Nat → Int) : sumTo (k + m) f = sumTo k f + sumTo m (shift k f) := by
  induction m with
  | zero => simp [sumTo]
  | succ m ih =>
    show sumTo (k + m) f + f (k + m) = _
    rw [ih]
    simp only [sumTo, shift]
    omega
theorem sumTo_first (R : Nat) (f : Nat → Int) : sumTo (R + 1) f = f 0 + sumTo R (shift 1 f) := by
  rw [Nat.add_comm R 1, sumTo_split]
  simp [sumTo]
theorem sumTo_rev (R : Nat) (f : Nat → Int) : sumTo R (rev R f) = sumTo R f := by
  induction R with
  | zero => rfl
  | succ R ih =>
    rw [sumTo_first, show rev (R + 1) f 0 = f R from by simp [rev], sumTo_congr (g := rev R f) (fun r hr => by simp only [shift, rev]; congr 1; omega), ih]
    simp only [sumTo]
    omega
theorem sumTo_revZ (R : Nat) (Z : Nat → Nat → Int) (k : Nat) : (sumTo R fun r => rev R Z r k) = sumTo R fun r => Z r k := sumTo_rev R fun r => Z r k

theorem addOk_rev {R : Nat} {len : Nat → Nat} {Z : Nat → Nat → Int} : AddOk R (rev R len) (rev R Z) ↔ AddOk R len Z := by
  constructor
  · intro ⟨h0, h1, h2⟩
    have e0 := h1 (R - 1) (by omega)
    simp only [rev, Nat.sub_zero, Nat.sub_self] at e0
    refine ⟨h0, fun r hr => ?_, fun k hk => ?_⟩
    · have := h1 (R - 1 - r) (by omega)
      simp only [rev, Nat.sub_zero] at this
      rw [show R - 1 - (R - 1 - r) = r from by omega] at this
      omega
    · have := h2 k (by simp only [rev, Nat.sub_zero]; omega)
      rwa [sumTo_revZ] at this
  · intro ⟨h0, h1, h2⟩
    refine ⟨h0, fun r hr => ?_, fun k hk => ?_⟩
    · simp only [rev, Nat.sub_zero]
      have := h1 (R - 1 - r) (by omega)
      have := h1 (R - 1) (by omega)
      omega
    · rw [sumTo_revZ]
      refine h2 k ?_
      simp only [rev, Nat.sub_zero] at hk
      have := h1 (R - 1) (by omega)
      omega

theorem parts_sum {R k : Nat} (hk : k ≤ R) (Z : Nat → Nat → Int) (j : Nat) : (sumTo k fun r => Z r j) + (sumTo (R - k) fun r => shift k Z r j) = sumTo R fun r => Z r j := by
  have := sumTo_split k (R - k) fun r => Z r j
  rw [show k + (R - k) = R from by omega] at this
  exact this.symm

theorem parts_ok {R k : Nat} {len : Nat → Nat} {Z : Nat → Nat → Int} (hk : k ≤ R) (h1 : AddOk k len Z) (h2 : AddOk (R - k) (shift k len) (shift k Z)) :
    Add2Ok (len 0) (shift k len 0) (fun j => sumTo k fun r => Z r j) (fun j => sumTo (R - k) fun r => shift k Z r j) ↔ AddOk R len Z := by
  obtain ⟨a0, a1, _⟩ := h1
  obtain ⟨b0, b1, _⟩ := h2
  constructor
  · intro ⟨e, h⟩
    refine ⟨by omega, fun r hr => ?_, fun j hj => ?_⟩
    · by_cases hrk : r < k
      · exact a1 r hrk
      · have := b1 (r - k) (by omega)
        simp only [shift] at this e
        rw [show k + (r - k) = r from by omega] at this
        omega
    · have := h j hj
      rwa [parts_sum hk] at this
  · intro ⟨_, h1, h2⟩
    refine ⟨?_, fun j hj => ?_⟩
    · simp only [shift, Nat.add_zero]
      exact (h1 k (by omega)).symm
    · rw [parts_sum hk]
      exact h2 j hj

/-! Slices of slices that append has made; parts of them -/
def rowV (n : Nat) (F : Nat → Value) : List Value := (List.range n).map F
theorem rowV_succ (n : Nat) (F : Nat → Value) : rowV n F ++ [F n] = rowV (n + 1) F := by simp [rowV, List.range_succ]
theorem Rds.ofOwn {w : World} {base n : Nat} {v : Value} {A : Nat → Option Addr} {len K : Nat → Nat} {Z : Nat → Nat → Int} (h : w.ownsRow base 24 1 v n (rowV n fun r => .slice (A r) (len r) (K r))) (hn : n ≤ 9223372036854775807) (hr : ∀ r, r < n → Rd w (A r) (len r) (Z r)) :
    ∃ L cap, v = .slice L n cap ∧ Rds w L n A len K Z := by
  rcases h.2 with ⟨rfl, rfl⟩ | ⟨g, cap, cur, rfl, _, hb, _, _, _, ht⟩
  · exact ⟨none, 0, rfl, Rds.nil _ _ _ _ _ _⟩
  · refine ⟨some ⟨g, 0, none⟩, cap, rfl, hn, fun _ => ⟨g, 0, rfl, fun j hj => ?_⟩, hr⟩
    have := h.cells (g := g) rfl j (.slice (A j) (len j) (K j)) (by simp [rowV, hj])
    rwa [WideShapes.add_plain] at this
theorem Rds.take {w : World} {L R A len K Z} (h : Rds w L R A len K Z) {k : Nat} (hk : k ≤ R) : Rds w L k A len K Z :=
  ⟨by have := h.small; omega, fun h0 => by
    obtain ⟨b, off, e, hc⟩ := h.adr (by omega)
    exact ⟨b, off, e, fun j hj => hc j (by omega)⟩, fun r hr => h.row r (by omega)⟩
theorem Rds.drop {w : World} {b off R A len K Z} (h : Rds w (some ⟨b, off, none⟩) R A len K Z) {k : Nat} (hk : k < R) : Rds w (some ⟨b, off + k, none⟩) (R - k) (shift k A) (shift k len) (shift k K) (shift k Z) :=
  ⟨by have := h.small; omega, fun h0 => by
    obtain ⟨b', off', e, hc⟩ := h.adr (by omega)
    injection e with e
    injection e with e1 e2 _
    subst e1 e2
    exact ⟨b, off + k, rfl, fun j hj => by have := hc (k + j) (by omega); rwa [← Nat.add_assoc] at this⟩, fun r hr => h.row (k + r) (by omega)⟩

theorem add2_b {L : Option Addr} {C n m : Nat} {A : Nat → Option Addr} {K : Nat → Nat} {Z Y : Nat → Int} {w : World} (hL : Rds w L 2 A (pick n m) K (pick Z Y)) (hn : n ≤ 1048576) (hm : m ≤ 1048576) (s : Bool) (hs : s = true ↔ Add2Ok n m Z Y) :
    Calls Try.prog 10 #[.slice L 2 C] w fun e w' => ∃ D c, e = .returned (.tuple #[.slice D (cond s n 0) c, .bool s]) ∧ Keep w w' ∧ Rd w' D (cond s n 0) (fun k => Z k + Y k) := by
  cases s
  · exact (add2_no L C n m A K Z Y w hL hn hm (fun h => by have := hs.2 h; cases this)).mono fun e w' ⟨he, hk⟩ => ⟨none, 0, he, hk, Rd.nil _ _ _⟩
  · exact (add2_yes L C n m A K Z Y w hL hn hm (hs.1 rfl)).mono fun e w' ⟨B', he, hk, hr⟩ => ⟨_, _, he, hk, hr⟩

theorem Try.info24 : (Try.prog.info? 24).map (fun i => (i.zero, i.size, i.bytes)) = some (some (.slice none 0 0), 1, 24) := by kernel_rfl

set_option maxHeartbeats 1000000 in
theorem lists_long (L : Option Addr) (R C : Nat) (a : Int) (w : World) (h : 100 < R) :
    Calls Try.prog 8 #[.slice L R C, .int .u8 a] w fun e w' => e = .returned (.bool true) ∧ Keep w w' := by
  go_enter Try.func8, Try.ntmps8
  go_wp2_with (go_at_call 9; refine (awake_fn _).mono ?_; rintro e w1 ⟨rfl, hk⟩)
  go_ret
  exact ⟨rfl, Keep.trans (by assumption) (by assumption)⟩

set_option maxHeartbeats 1000000 in
theorem lists_zero (L : Option Addr) (C : Nat) (a : Int) (w : World) :
    Calls Try.prog 8 #[.slice L 0 C, .int .u8 a] w fun e w' => e = .returned (.bool true) ∧ Keep w w' := by
  go_enter Try.func8, Try.ntmps8
  go_wp2_with (go_at_call 9; refine (awake_fn _).mono ?_; rintro e w1 ⟨rfl, hk⟩)
  go_ret
  exact ⟨rfl, Keep.trans (by assumption) (by assumption)⟩

def idx (R c : Nat) : Int := (R : Int) - 1 - c

open Classical in
set_option maxHeartbeats 8000000 in
theorem lists_short (b off : Nat) (R C : Nat) (A : Nat → Option Addr) (len K : Nat → Nat) (Z : Nat → Nat → Int) (a : Nat) (w : World) (hL : Rds w (some ⟨b, off, none⟩) R A len K Z) (h1 : R ≤ 100) (h0 : 0 < R) (hC : R ≤ C) (hC2 : C ≤ 9223372036854775807) (ha : a ≤ 255) :
    Calls Try.prog 8 #[.slice (some ⟨b, off, none⟩) R C, .int .u8 a] w fun e w' => e = .returned (.bool true) ∧ Keep w w' := by
  obtain ⟨s, hs⟩ : ∃ s : Bool, s = true ↔ AddOk R len Z := ⟨decide _, decide_eq_true_iff⟩
  replace hs : Hid (s = true ↔ AddOk R len Z) := hs
  obtain ⟨i0, hi0, hz0, hz1, hz2⟩ := info_parts Try.info24
  have hRz : (0 : Int) < (R : Int) := by omega
  have hRb : ((R : Int) == 0) = false := by simp; omega
  go_enter Try.func8, Try.ntmps8
  go_wp2_with fail
  refine (awake_fn _).mono ?_
  rintro e w1 ⟨rfl, hk⟩
  replace hL := hL.keep hk
  replace hk : Hid (Keep w w1) := hk
  go_wp2_with fail
  go_loopg [5, 6] R (fun g ov i wr => ∃ c : Nat, c ≤ R ∧ g = R - c ∧ i = .int .i64 (idx R c) ∧ Keep w1 wr ∧ wr.ownsRow w1.heap.size 24 1 ov c (rowV c fun r => .slice (rev R A r) (rev R len r) (rev R K r)) ∧ Aside (∀ j, j < c → rev R len j ≤ 100))
  case atStart => exact ⟨0, Nat.zero_le _, rfl, val_int (by unfold idx; omega), Keep.refl _, World.ownsRow_nil _ _ _ _, fun _ h => absurd h (Nat.not_lt_zero _)⟩
  case round =>
    obtain ⟨c, hc, rfl, rfl, hkx, hown, hall⟩ := hrel
    by_cases hlt : c < R
    · obtain ⟨p, hp, hpc⟩ : ∃ p : Nat, idx R c = p ∧ p + c + 1 = R := ⟨R - 1 - c, by unfold idx; omega, by omega⟩
      rw [hp]
      have er : Hid (R - 1 - c = p) := show R - 1 - c = p by omega
      replace hp : Hid (idx R c = p) := hp
      replace hpc : Hid (p + c + 1 = R) := hpc
      have hpR : p < R := by have := hpc.out; omega
      obtain ⟨b', off', e', ca⟩ := (hL.keep hkx).adr h0
      injection e' with e'
      injection e' with e1 e2 _
      subst e1 e2
      have g0 := ca p hpR
      clear ca
      have hsz := hkx.size
      by_cases hz : len p ≤ 100
      · go_wp2_with (at_builtin; refine wpList_append_own _ rfl _ _ 22 rfl w1.heap.size 24 i0 (.slice none 0 0) 1 24 Try.underlying22 hi0 hz0 hz1 hz2 rfl (by decide) _ _ _ rfl (hown.alloc _) ⟨wr.heap.size, 0, none⟩ 1 1 [.slice (A p) (len p) (K p)] rfl rfl (cell_one_new _ _ _) (by intro u hu; simp at hu; subst hu; rfl) (by unfold maxLen; omega) (by omega) (by simp; omega) ?_; intro v' w2 hown2 hgrow hnil)
        have hB2 : Keep w1 w2 := (Below.alloc hkx hsz _).grown hgrow (by simp; omega) (fun q hq => (hown.lt q hq).1)
        have eF : Value.slice (A p) (len p) (K p) = (fun r => Value.slice (rev R A r) (rev R len r) (rev R K r)) c := by simp only [rev]; rw [er.out]
        rw [eF, rowV_succ c fun r => Value.slice (rev R A r) (rev R len r) (rev R K r)] at hown2
        replace hown2 : Hid (w2.ownsRow w1.heap.size 24 1 v' (c + 1) (rowV (c + 1) fun r => .slice (rev R A r) (rev R len r) (rev R K r))) := hown2
        go_roundg (R - (c + 1))
        case measure => omega
        case rel => exact ⟨c + 1, hlt, rfl, val_int (by have := hpc.out; unfold idx; omega), hB2, hown2.out, fun j hj => by
          rcases Nat.lt_succ_iff_lt_or_eq.1 hj with h | rfl
          · exact hall.out j h
          · unfold rev; rw [er.out]; exact hz⟩
      · go_wp2
        go_ret
        exact ⟨rfl, hk.out.trans hkx⟩
    · obtain rfl : c = R := by omega
      rw [show idx c c = -1 from by unfold idx; omega]
      have hLr := hL.keep hkx
      have hlenr : ∀ r, r < c → rev c len r ≤ 100 := hall.out
      have hlen : ∀ r, r < c → len r ≤ 100 := fun r hr => by
        have := hlenr (c - 1 - r) (by omega)
        unfold rev at this
        rwa [show c - 1 - (c - 1 - r) = r from by omega] at this
      obtain ⟨Lb, cb, rfl, hbk⟩ := Rds.ofOwn (Z := rev c Z) hown (by omega) (fun r hr => hLr.row (c - 1 - r) (by omega))
      replace hlenr : Hid (∀ r, r < c → rev c len r ≤ 100) := hlenr
      replace hlen : Hid (∀ r, r < c → len r ≤ 100) := hlen
      replace hk := hk.out.trans hkx
      clear hkx hown hlt hc hL hall
      replace hk : Hid (Keep w wr) := hk
      go_wp2_with fail
      refine (add_b hLr (by omega) (fun r hr => by have := hlen.out r hr; omega) s hs.out).mono ?_
      rintro e w2 ⟨D1, c1, rfl, hk2, hd1⟩
      replace hLr := hLr.keep hk2
      replace hbk := hbk.keep hk2
      replace hk := hk.out.trans hk2
      clear hk2
      go_wp2_with fail
      refine (add_b hbk (by omega) (fun r hr => by have := hlenr.out r hr; omega) s (hs.out.trans addOk_rev.symm)).mono ?_
      rintro e w3 ⟨D2, c2, rfl, hk3, hd2⟩
      replace hLr := hLr.keep hk3
      replace hd1 := hd1.keep hk3
      replace hk := hk.trans hk3
      clear hk3 hbk
      have hsame : Hid (sameB (cond s (len 0) 0) (fun k => sumTo c fun r => Z r k) (cond s (rev c len 0) 0) (fun k => sumTo c fun r => rev c Z r k) = true) := by
        refine same_yes ?_ (fun k _ => (sumTo_revZ c Z k).symm)
        cases s
        · rfl
        · have := (hs.out.1 rfl).2.1 (c - 1) (by omega)
          show len 0 = rev c len 0
          simp only [rev, Nat.sub_zero]
          exact this.symm
      go_wp2_with fail
      refine (rsame_k hd1 hd2 true hsame.out).mono ?_
      rintro e w4 ⟨rfl, hk4⟩
      replace hLr := hLr.keep hk4
      replace hd1 := hd1.keep hk4
      replace hk := hk.trans hk4
      clear hk4 hd2 hsame
      obtain ⟨k, hkm, hkc⟩ : ∃ k : Nat, (a : Int) % (c : Int) = k ∧ k < c := ⟨a % c, by simp, Nat.mod_lt _ h0⟩
      go_wp2_with fail
      obtain ⟨s1, hs1⟩ : ∃ s1 : Bool, s1 = true ↔ AddOk k len Z := ⟨decide _, decide_eq_true_iff⟩
      obtain ⟨s2, hs2⟩ : ∃ s2 : Bool, s2 = true ↔ AddOk (c - k) (shift k len) (shift k Z) := ⟨decide _, decide_eq_true_iff⟩
      replace hs1 : Hid (s1 = true ↔ AddOk k len Z) := hs1
      replace hs2 : Hid (s2 = true ↔ AddOk (c - k) (shift k len) (shift k Z)) := hs2
      refine (add_b (hLr.take (k := k) (by omega)) (by omega) (fun r hr => by have := hlen.out r (by omega); omega) s1 hs1.out).mono ?_
      rintro e w5 ⟨D3, c3, rfl, hk5, hd3⟩
      replace hLr := hLr.keep hk5
      replace hd1 := hd1.keep hk5
      replace hk := hk.trans hk5
      clear hk5
      go_wp2_with fail
      refine (add_b (hLr.drop (k := k) hkc) (by omega) (fun r hr => by have := hlen.out (k + r) (by omega); show len (k + r) ≤ _; omega) s2 hs2.out).mono ?_
      rintro e w6 ⟨D4, c4, rfl, hk6, hd4⟩
      replace hd1 := hd1.keep hk6
      replace hd3 := hd3.keep hk6
      replace hk := hk.trans hk6
      clear hk6
      cases s1
      · go_wp2_with fail
        go_ret
        exact ⟨rfl, hk⟩
      · cases s2
        · go_wp2_with fail
          go_ret
          exact ⟨rfl, hk⟩
        · have o1 : AddOk k len Z := hs1.out.1 (by simp)
          have o2 : AddOk (c - k) (shift k len) (shift k Z) := hs2.out.1 (by simp)
          have hs5 : Hid (s = true ↔ Add2Ok (len 0) (shift k len 0) (fun j => sumTo k fun r => Z r j) (fun j => sumTo (c - k) fun r => shift k Z r j)) := hs.out.trans (parts_ok (by omega) o1 o2).symm
          have hl1 := hlen.out 0 h0
          have hl2 : shift k len 0 ≤ 100 := hlen.out (k + 0) (by omega)
          clear o1 o2 hs1 hs2
          go_wp2_with fail
          refine (add2_b (Rds.two rfl hd3 hd4) (by show len 0 ≤ _; omega) (by show shift k len 0 ≤ _; omega) s hs5.out).mono ?_
          rintro e w7 ⟨D5, c5, rfl, hk7, hd5⟩
          replace hk7 := Keep.ofAlloc _ hk7
          replace hd1 := hd1.keep hk7
          replace hk := hk.trans hk7
          clear hk7 hd3 hd4
          go_wp2_with fail
          refine (rsame_k hd5 hd1 true (same_yes rfl fun j _ => parts_sum (by omega) Z j)).mono ?_
          rintro e w8 ⟨rfl, hk8⟩
          go_wp2_with fail
          go_ret
          exact ⟨rfl, hk.trans hk8⟩

theorem lists_walk {A0 : Option Addr} {n0 c0 : Nat} {B0 : Nat → Option Addr} {L0 C0 : Nat → Nat} {Z0 : Nat → Nat → Int} {a1 : Int} {w : World} (h0 : Rds w A0 n0 B0 L0 C0 Z0) (hc : n0 ≤ c0 ∧ c0 ≤ 9223372036854775807) (h1 : (Lit.int .u8 a1).wf = true) :
    Calls Try.prog 8 #[.slice A0 n0 c0, .int .u8 a1] w fun e w' => e = .returned (.bool true) ∧ Keep w w' := by
  by_cases h : n0 ≤ 100
  · rcases Nat.eq_zero_or_pos n0 with rfl | hp
    · exact lists_zero A0 c0 a1 w
    · obtain ⟨b, off, rfl, _⟩ := h0.adr hp
      simp [Lit.wf, IntKind.min, IntKind.max, IntKind.signed, IntKind.bits] at h1
      obtain ⟨a, rfl⟩ := Int.eq_ofNat_of_zero_le h1.1
      exact lists_short b off n0 c0 B0 L0 C0 Z0 a w h0 h hp hc.1 hc.2 (by omega)
  · exact lists_long A0 n0 c0 a1 w (by omega)
end Go.Proofs.Ytkkoajkoiiolgaa
