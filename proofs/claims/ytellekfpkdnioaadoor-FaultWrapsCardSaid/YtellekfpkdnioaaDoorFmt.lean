/-
  internal/strconv.formatBase10 at a row of any length: what it leaves depends on the row's length, the number and what the row held. Condition: the number has at most one digit more than the row has places.
-/
import Derived.Test.YtellekfpkdnioaaDoorTexts
import Derived.Lib.ItoaWalk
import Derived.Lib.ItoaMem
import Derived.BigCall
import Derived.BigGuard
import Derived.CellFam
namespace Go.Proofs.YtellekfpkdnioaaDoor
open Go.RowKit Go.Sort Go.Lib

def st2 (d : Array UInt8) (i x : Nat) : Array UInt8 := (d.setIfInBounds (i + 1) (sm (x % 100 * 2 + 1))).setIfInBounds i (sm (x % 100 * 2))
def st1 (d : Array UInt8) (x : Nat) : Array UInt8 := d.setIfInBounds 0 (UInt8.ofNat (48 + x))
theorem st2_size (d : Array UInt8) (i x : Nat) : (st2 d i x).size = d.size := by simp [st2]
def fin8 : Nat → Nat → Array UInt8 → Array UInt8
  | 0, _, d => d
  | 1, v, d => st1 d v
  | 2, v, d => st2 d 0 v
  | 3, v, d => st1 (st2 d 1 v) (v / 100)
  | 4, v, d => st2 (st2 d 2 v) 0 (v / 100)
  | 5, v, d => st1 (st2 (st2 d 3 v) 1 (v / 100)) (v / 10000)
  | 6, v, d => st2 (st2 (st2 d 4 v) 2 (v / 100)) 0 (v / 10000)
  | _, v, d => st1 (st2 (st2 (st2 d 5 v) 3 (v / 100)) 1 (v / 10000)) (v / 10000 / 100)
def all10 (nd v : Nat) (d : Array UInt8) : Array UInt8 :=
  if 8 ≤ nd then all10 (nd - 8) (v / 100000000) (st2 (st2 (st2 (st2 d (nd - 8 + 6) v) (nd - 8 + 4) (v / 100)) (nd - 8 + 2) (v / 100 / 100)) (nd - 8) (v / 100 / 100 / 100)) else fin8 nd v d
termination_by nd
decreasing_by omega
theorem all10_more (m v : Nat) (d : Array UInt8) : all10 (m + 8) v d = all10 m (v / 100000000) (st2 (st2 (st2 (st2 d (m + 6) v) (m + 4) (v / 100)) (m + 2) (v / 100 / 100)) m (v / 100 / 100 / 100)) := by
  rw [all10, if_pos (by omega), Nat.add_sub_cancel]
theorem all10_less (nd v : Nat) (d : Array UInt8) (h : nd < 8) : all10 nd v d = fin8 nd v d := by rw [all10, if_neg (by omega)]
theorem fin8_size (nd v : Nat) (d : Array UInt8) : (fin8 nd v d).size = d.size := by
  unfold fin8
  split <;> simp only [st1, st2_size, Array.size_setIfInBounds]
theorem all10_size (k : Nat) : ∀ (nd v : Nat) (d : Array UInt8), nd < k → (all10 nd v d).size = d.size := by
  induction k with
  | zero => intro nd v d h; exact absurd h (Nat.not_lt_zero _)
  | succ k ih =>
    intro nd v d h
    rw [all10]
    split
    · rw [ih _ _ _ (by omega)]
      simp only [st2_size]
    · exact fin8_size _ _ _

theorem row10_cells {w W : World} {blk off n : Nat} {d dk : Array UInt8} (h : W = (putRow (fun (b : UInt8) => Value.int .u8 (b.toNat : Int)) w blk off dk).drewN n) (hH : Holds (fun (b : UInt8) => Value.int .u8 (b.toNat : Int)) w blk off d) (hs : dk.size = d.size) :
    ∃ G : Nat → Int, (∀ t, t < d.size → W.cell? ⟨blk, off + t, none⟩ = some (.int .u8 (G t))) ∧ (∀ t, t < d.size → W.frozen? ⟨blk, off + t, none⟩ = false) := by
  have hK : Holds (fun (b : UInt8) => Value.int .u8 (b.toNat : Int)) W blk off dk := by rw [h]; exact holds_putRow _ w blk off d dk hH hs
  exact ⟨fun t => (dk[t]!.toNat : Int), fun t ht => (hK t (by omega)).1, fun t ht => (hK t (by omega)).2⟩
theorem st2_world (w : World) (blk off : Nat) (dk : Array UInt8) (n i : Nat) (x : Nat) (hi : i + 1 < dk.size) :
    ((((putRow (fun (b : UInt8) => Value.int .u8 (b.toNat : Int)) w blk off dk).drewN n).setCell ⟨blk, off + (i + 1), none⟩ (.int .u8 ((sm (x % 100 * 2 + 1)).toNat : Int))).setCell ⟨blk, off + i, none⟩ (.int .u8 ((sm (x % 100 * 2)).toNat : Int))).drew
      = (putRow (fun (b : UInt8) => Value.int .u8 (b.toNat : Int)) w blk off (st2 dk i x)).drewN (n + 1) := store2_world w blk off dk n (i + 1) i _ _ hi (by omega)
theorem st21_world (w : World) (blk off : Nat) (dk : Array UInt8) (n i : Nat) (x c : Nat) (z : Int) (hi : i + 1 < dk.size) (hz : z = (((48 + c) % 256 : Nat) : Int)) :
    (((((putRow (fun (b : UInt8) => Value.int .u8 (b.toNat : Int)) w blk off dk).drewN n).setCell ⟨blk, off + (i + 1), none⟩ (.int .u8 ((sm (x % 100 * 2 + 1)).toNat : Int))).setCell ⟨blk, off + i, none⟩ (.int .u8 ((sm (x % 100 * 2)).toNat : Int))).setCell ⟨blk, off, none⟩ (.int .u8 z)).drew
      = (putRow (fun (b : UInt8) => Value.int .u8 (b.toNat : Int)) w blk off (st1 (st2 dk i x) c)).drewN (n + 1) := by
  rw [← World.setCell_drew, st2_world w blk off dk n i x hi]
  exact store1_world0 w blk off _ _ _ _ hz (by rw [st2_size]; omega)
theorem pow_less {v m : Nat} (h : v < 10 ^ (m + 8 + 1)) : v / 100000000 < 10 ^ (m + 1) := by
  rw [Nat.div_lt_iff_lt_mul (by omega)]
  have : 10 ^ (m + 8 + 1) = 10 ^ (m + 1) * 100000000 := by rw [show m + 8 + 1 = (m + 1) + 8 by omega, Nat.pow_add]
  omega

set_option maxRecDepth 100000 in
set_option maxHeartbeats 25600000 in
theorem format_any (blk off cap u : Nat) (d : Array UInt8) (w : World) (hH : Holds (fun (b : UInt8) => Value.int .u8 (b.toNat : Int)) w blk off d) (hu : u < 10 ^ (d.size + 1)) (hu64 : u < 18446744073709551616) (hsz : d.size < 4611686018427387904) :
    Calls Tryd.prog 63 #[.slice (some ⟨blk, off, none⟩) d.size cap, .int .u64 u] w fun e w' =>
      e = .returned (.tuple #[]) ∧ ∃ n, w' = (putRow (fun (b : UInt8) => Value.int .u8 (b.toNat : Int)) w blk off (all10 d.size u d)).drewN n := by
  go_enter Tryd.func63, Tryd.ntmps63
  go_name_bytes SM hSM
  have eSM : SM = Lib.smalls := by rw [← hSM]; decide +kernel
  subst eSM
  clear hSM
  have AH := Lib.hid hH
  have hH0 : Hid (w = (putRow (fun (b : UInt8) => Value.int .u8 (b.toNat : Int)) w blk off d).drewN 0) := (putRow_self _ _ _ _ _ hH).symm
  clear hH
  go_wp2
  go_loopw [1, 4] (fun vu vn wr => ∃ (nd v n : Nat) (dk : Array UInt8), vu = .int .u64 v ∧ vn = .int .i64 nd ∧ Hid (wr = (putRow (fun (b : UInt8) => Value.int .u8 (b.toNat : Int)) w blk off dk).drewN n) ∧ dk.size = d.size ∧ nd ≤ d.size ∧ v < 18446744073709551616 ∧ Hid (v < 10 ^ (nd + 1)) ∧ Hid (all10 nd v dk = all10 d.size u d)) (fun _ vn _ => (RowKit.intOf vn).toNat)
  case atStart => exact ⟨d.size, u, 0, d, rfl, rfl, hH0, rfl, Nat.le_refl _, hu64, hu, rfl⟩
  case round =>
    clear hH0 hu hu64
    obtain ⟨nd, v, n, dk0, rfl, rfl, AW0, SZ0, hle, hv64, hpw, hall⟩ := hrel
    rename World => W0
    by_cases h8 : 8 ≤ nd
    · obtain ⟨m, rfl⟩ : ∃ m, nd = m + 8 := ⟨nd - 8, by omega⟩
      go_wp2
      have hsz0 : dk0.size = d.size := SZ0
      obtain ⟨G0, hc0, hf0⟩ := row10_cells AW0.out AH.out hsz0
      go_name_slot 9 x0 hx0
      have hxe0 : x0 = ((v % 100 * 2 : Nat) : Int) := by omega
      have hXa0 : ∀ w, (Instr.index 9 (.string Lib.smalls) (.int .u32 (x0 + 1))).run Tryd.prog w = .ok (.int .u8 ((sm (v % 100 * 2 + 1)).toNat : Int)) w := idx_smalls 9 Tryd.underlying9 .u32 _ _ (by omega) (by omega)
      have hXb0 : ∀ w, (Instr.index 9 (.string Lib.smalls) (.int .u32 x0)).run Tryd.prog w = .ok (.int .u8 ((sm (v % 100 * 2)).toNat : Int)) w := idx_smalls 9 Tryd.underlying9 .u32 _ _ (by omega) (by omega)
      have hlo0 : 0 ≤ x0 := by omega
      have hhi0 : x0 ≤ 198 := by omega
      clear hx0 hxe0
      go_region
      go_wp2
      go_name_world W1 hW1
      have AW1 : Hid (W1 = (putRow (fun (b : UInt8) => Value.int .u8 (b.toNat : Int)) w blk off (st2 dk0 (m + 6) (v))).drewN (n + 0 + 1)) := by show _ = _; rw [← hW1]; exact (by rw [AW0.out]; exact st2_world w blk off dk0 (n + 0) (m + 6) (v) (by omega))
      have SZ1 : (st2 dk0 (m + 6) (v)).size = d.size := by rw [st2_size]; exact hsz0
      obtain ⟨dk1, hd1⟩ : ∃ x, x = st2 dk0 (m + 6) (v) := ⟨_, rfl⟩
      rw [← hd1] at AW1 SZ1
      have HD1 := Lib.hid hd1
      clear hW1 hc0 hf0 hXa0 hXb0 hd1 hsz0
      have hsz1 : dk1.size = d.size := SZ1
      obtain ⟨G1, hc1, hf1⟩ := row10_cells AW1.out AH.out hsz1
      go_name_slot 8 x1 hx1
      have hxe1 : x1 = (((v / 100) % 100 * 2 : Nat) : Int) := by omega
      have hXa1 : ∀ w, (Instr.index 9 (.string Lib.smalls) (.int .u32 (x1 + 1))).run Tryd.prog w = .ok (.int .u8 ((sm ((v / 100) % 100 * 2 + 1)).toNat : Int)) w := idx_smalls 9 Tryd.underlying9 .u32 _ _ (by omega) (by omega)
      have hXb1 : ∀ w, (Instr.index 9 (.string Lib.smalls) (.int .u32 x1)).run Tryd.prog w = .ok (.int .u8 ((sm ((v / 100) % 100 * 2)).toNat : Int)) w := idx_smalls 9 Tryd.underlying9 .u32 _ _ (by omega) (by omega)
      have hlo1 : 0 ≤ x1 := by omega
      have hhi1 : x1 ≤ 198 := by omega
      clear hx1 hxe1
      go_region
      go_wp2
      go_name_world W2 hW2
      have AW2 : Hid (W2 = (putRow (fun (b : UInt8) => Value.int .u8 (b.toNat : Int)) w blk off (st2 dk1 (m + 4) (v / 100))).drewN (n + 1 + 1)) := by show _ = _; rw [← hW2]; exact (by rw [AW1.out]; exact st2_world w blk off dk1 (n + 1) (m + 4) (v / 100) (by omega))
      have SZ2 : (st2 dk1 (m + 4) (v / 100)).size = d.size := by rw [st2_size]; exact hsz1
      obtain ⟨dk2, hd2⟩ : ∃ x, x = st2 dk1 (m + 4) (v / 100) := ⟨_, rfl⟩
      rw [← hd2] at AW2 SZ2
      have HD2 := Lib.hid hd2
      clear hW2 hc1 hf1 hXa1 hXb1 hd2 hsz1
      have hsz2 : dk2.size = d.size := SZ2
      obtain ⟨G2, hc2, hf2⟩ := row10_cells AW2.out AH.out hsz2
      go_name_slot 11 x2 hx2
      have hxe2 : x2 = (((v / 100 / 100) % 100 * 2 : Nat) : Int) := by omega
      have hXa2 : ∀ w, (Instr.index 9 (.string Lib.smalls) (.int .u32 (x2 + 1))).run Tryd.prog w = .ok (.int .u8 ((sm ((v / 100 / 100) % 100 * 2 + 1)).toNat : Int)) w := idx_smalls 9 Tryd.underlying9 .u32 _ _ (by omega) (by omega)
      have hXb2 : ∀ w, (Instr.index 9 (.string Lib.smalls) (.int .u32 x2)).run Tryd.prog w = .ok (.int .u8 ((sm ((v / 100 / 100) % 100 * 2)).toNat : Int)) w := idx_smalls 9 Tryd.underlying9 .u32 _ _ (by omega) (by omega)
      have hlo2 : 0 ≤ x2 := by omega
      have hhi2 : x2 ≤ 198 := by omega
      clear hx2 hxe2
      go_region
      go_wp2
      go_name_world W3 hW3
      have AW3 : Hid (W3 = (putRow (fun (b : UInt8) => Value.int .u8 (b.toNat : Int)) w blk off (st2 dk2 (m + 2) (v / 100 / 100))).drewN (n + 2 + 1)) := by show _ = _; rw [← hW3]; exact (by rw [AW2.out]; exact st2_world w blk off dk2 (n + 2) (m + 2) (v / 100 / 100) (by omega))
      have SZ3 : (st2 dk2 (m + 2) (v / 100 / 100)).size = d.size := by rw [st2_size]; exact hsz2
      obtain ⟨dk3, hd3⟩ : ∃ x, x = st2 dk2 (m + 2) (v / 100 / 100) := ⟨_, rfl⟩
      rw [← hd3] at AW3 SZ3
      have HD3 := Lib.hid hd3
      clear hW3 hc2 hf2 hXa2 hXb2 hd3 hsz2
      have hsz3 : dk3.size = d.size := SZ3
      obtain ⟨G3, hc3, hf3⟩ := row10_cells AW3.out AH.out hsz3
      go_name_slot 10 x3 hx3
      have hxe3 : x3 = (((v / 100 / 100 / 100) % 100 * 2 : Nat) : Int) := by omega
      have hXa3 : ∀ w, (Instr.index 9 (.string Lib.smalls) (.int .u32 (x3 + 1))).run Tryd.prog w = .ok (.int .u8 ((sm ((v / 100 / 100 / 100) % 100 * 2 + 1)).toNat : Int)) w := idx_smalls 9 Tryd.underlying9 .u32 _ _ (by omega) (by omega)
      have hXb3 : ∀ w, (Instr.index 9 (.string Lib.smalls) (.int .u32 x3)).run Tryd.prog w = .ok (.int .u8 ((sm ((v / 100 / 100 / 100) % 100 * 2)).toNat : Int)) w := idx_smalls 9 Tryd.underlying9 .u32 _ _ (by omega) (by omega)
      have hlo3 : 0 ≤ x3 := by omega
      have hhi3 : x3 ≤ 198 := by omega
      clear hx3 hxe3
      go_region
      go_wp2
      have hlast : Hid (all10 m (v / 100000000) (st2 dk3 m (v / 100 / 100 / 100)) = all10 d.size u d) := by
        show _ = _
        rw [← hall.out, all10_more, ← HD1.out, ← HD2.out, ← HD3.out]
      have hpw2 := Lib.hid (pow_less hpw.out)
      go_roundw
      case rel =>
        exact ⟨m, v / 100000000, n + 3 + 1, st2 dk3 m (v / 100 / 100 / 100), by first | go_num | (congr 1; omega), by first | go_num | (congr 1; omega), by show _ = _; rw [AW3.out]; exact st2_world w blk off dk3 (n + 3) m (v / 100 / 100 / 100) (by omega), by rw [st2_size]; exact SZ3, by omega, by omega, hpw2, hlast⟩
      case measure => simp [RowKit.intOf]; omega
    · have hv8 : v < 100000000 := by
        have := hpw.out
        have h2 : 10 ^ (nd + 1) ≤ 10 ^ 8 := Nat.pow_le_pow_right (by omega) (by omega)
        omega
      have hfin : Hid (fin8 nd v dk0 = all10 d.size u d) := by show _ = _; rw [← hall.out, all10_less _ _ _ (by omega)]
      have hpw3 := hpw.out
      clear hall hpw
      have hc8 : nd = 0 ∨ nd = 1 ∨ nd = 2 ∨ nd = 3 ∨ nd = 4 ∨ nd = 5 ∨ nd = 6 ∨ nd = 7 := by omega
      rcases hc8 with rfl | rfl | rfl | rfl | rfl | rfl | rfl | rfl
      · -- nd = 0
        simp only [Nat.reducePow, Nat.reduceAdd] at hpw3
        go_wp2
        go_end0
        refine ⟨rfl, n, ?_⟩
        rw [← hfin.out, AW0.out]
        rfl
      · -- nd = 1
        simp only [Nat.reducePow, Nat.reduceAdd] at hpw3
        obtain ⟨G0, hc0, hf0⟩ := row10_cells AW0.out AH.out SZ0
        go_wp2
        go_end0
        refine ⟨rfl, n, ?_⟩
        rw [← hfin.out, AW0.out]
        exact store1_world0 w blk off dk0 n _ (v) (by omega) (by omega)
      · -- nd = 2
        simp only [Nat.reducePow, Nat.reduceAdd] at hpw3
        go_wp2
        have hsz0 : dk0.size = d.size := SZ0
        obtain ⟨G0, hc0, hf0⟩ := row10_cells AW0.out AH.out hsz0
        go_name_slot 16 x0 hx0
        have hxe0 : x0 = ((v % 100 * 2 : Nat) : Int) := by omega
        have hXa0 : ∀ w, (Instr.index 9 (.string Lib.smalls) (.int .u32 (x0 + 1))).run Tryd.prog w = .ok (.int .u8 ((sm (v % 100 * 2 + 1)).toNat : Int)) w := idx_smalls 9 Tryd.underlying9 .u32 _ _ (by omega) (by omega)
        have hXb0 : ∀ w, (Instr.index 9 (.string Lib.smalls) (.int .u32 x0)).run Tryd.prog w = .ok (.int .u8 ((sm (v % 100 * 2)).toNat : Int)) w := idx_smalls 9 Tryd.underlying9 .u32 _ _ (by omega) (by omega)
        have hlo0 : 0 ≤ x0 := by omega
        have hhi0 : x0 ≤ 198 := by omega
        clear hx0 hxe0
        go_region
        go_wp2
        go_end0
        refine ⟨rfl, n + 0 + 1, ?_⟩
        rw [← hfin.out]
        show _ = (putRow (fun (b : UInt8) => Value.int .u8 (b.toNat : Int)) w blk off (st2 dk0 0 (v))).drewN _
        rw [AW0.out]
        exact st2_world w blk off _ (n + 0) 0 (v) (by first | (simp only [st2_size]; omega) | omega)
      · -- nd = 3
        simp only [Nat.reducePow, Nat.reduceAdd] at hpw3
        go_wp2
        have hsz0 : dk0.size = d.size := SZ0
        obtain ⟨G0, hc0, hf0⟩ := row10_cells AW0.out AH.out hsz0
        go_name_slot 16 x0 hx0
        have hxe0 : x0 = ((v % 100 * 2 : Nat) : Int) := by omega
        have hXa0 : ∀ w, (Instr.index 9 (.string Lib.smalls) (.int .u32 (x0 + 1))).run Tryd.prog w = .ok (.int .u8 ((sm (v % 100 * 2 + 1)).toNat : Int)) w := idx_smalls 9 Tryd.underlying9 .u32 _ _ (by omega) (by omega)
        have hXb0 : ∀ w, (Instr.index 9 (.string Lib.smalls) (.int .u32 x0)).run Tryd.prog w = .ok (.int .u8 ((sm (v % 100 * 2)).toNat : Int)) w := idx_smalls 9 Tryd.underlying9 .u32 _ _ (by omega) (by omega)
        have hlo0 : 0 ≤ x0 := by omega
        have hhi0 : x0 ≤ 198 := by omega
        clear hx0 hxe0
        go_region
        go_wp2
        go_end0
        refine ⟨rfl, n + 0 + 1, ?_⟩
        rw [← hfin.out]
        show _ = (putRow (fun (b : UInt8) => Value.int .u8 (b.toNat : Int)) w blk off (st1 (st2 dk0 1 (v)) (v / 100))).drewN _
        rw [AW0.out]
        exact st21_world w blk off dk0 (n + 0) 1 (v) (v / 100) _ (by first | (simp only [st2_size]; omega) | omega) (by omega)
      · -- nd = 4
        simp only [Nat.reducePow, Nat.reduceAdd] at hpw3
        go_wp2
        have hsz0 : dk0.size = d.size := SZ0
        obtain ⟨G0, hc0, hf0⟩ := row10_cells AW0.out AH.out hsz0
        go_name_slot 15 x0 hx0
        have hxe0 : x0 = ((v % 100 * 2 : Nat) : Int) := by omega
        have hXa0 : ∀ w, (Instr.index 9 (.string Lib.smalls) (.int .u32 (x0 + 1))).run Tryd.prog w = .ok (.int .u8 ((sm (v % 100 * 2 + 1)).toNat : Int)) w := idx_smalls 9 Tryd.underlying9 .u32 _ _ (by omega) (by omega)
        have hXb0 : ∀ w, (Instr.index 9 (.string Lib.smalls) (.int .u32 x0)).run Tryd.prog w = .ok (.int .u8 ((sm (v % 100 * 2)).toNat : Int)) w := idx_smalls 9 Tryd.underlying9 .u32 _ _ (by omega) (by omega)
        have hlo0 : 0 ≤ x0 := by omega
        have hhi0 : x0 ≤ 198 := by omega
        clear hx0 hxe0
        go_region
        go_wp2
        go_name_world W1 hW1
        have AW1 : Hid (W1 = (putRow (fun (b : UInt8) => Value.int .u8 (b.toNat : Int)) w blk off (st2 dk0 (2) (v))).drewN (n + 0 + 1)) := by show _ = _; rw [← hW1]; exact (by rw [AW0.out]; exact st2_world w blk off dk0 (n + 0) (2) (v) (by omega))
        have SZ1 : (st2 dk0 (2) (v)).size = d.size := by rw [st2_size]; exact hsz0
        obtain ⟨dk1, hd1⟩ : ∃ x, x = st2 dk0 (2) (v) := ⟨_, rfl⟩
        rw [← hd1] at AW1 SZ1
        have HD1 := Lib.hid hd1
        clear hW1 hc0 hf0 hXa0 hXb0 hd1 hsz0
        have hsz1 : dk1.size = d.size := SZ1
        obtain ⟨G1, hc1, hf1⟩ := row10_cells AW1.out AH.out hsz1
        go_name_slot 14 x1 hx1
        have hxe1 : x1 = (((v / 100) % 100 * 2 : Nat) : Int) := by omega
        have hXa1 : ∀ w, (Instr.index 9 (.string Lib.smalls) (.int .u32 (x1 + 1))).run Tryd.prog w = .ok (.int .u8 ((sm ((v / 100) % 100 * 2 + 1)).toNat : Int)) w := idx_smalls 9 Tryd.underlying9 .u32 _ _ (by omega) (by omega)
        have hXb1 : ∀ w, (Instr.index 9 (.string Lib.smalls) (.int .u32 x1)).run Tryd.prog w = .ok (.int .u8 ((sm ((v / 100) % 100 * 2)).toNat : Int)) w := idx_smalls 9 Tryd.underlying9 .u32 _ _ (by omega) (by omega)
        have hlo1 : 0 ≤ x1 := by omega
        have hhi1 : x1 ≤ 198 := by omega
        clear hx1 hxe1
        go_region
        go_wp2
        go_end0
        refine ⟨rfl, n + 1 + 1, ?_⟩
        rw [← hfin.out]
        show _ = (putRow (fun (b : UInt8) => Value.int .u8 (b.toNat : Int)) w blk off (st2 (st2 dk0 2 (v)) 0 (v / 100))).drewN _
        rw [AW1.out, HD1.out]
        exact st2_world w blk off _ (n + 1) 0 (v / 100) (by first | (simp only [st2_size]; omega) | omega)
      · -- nd = 5
        simp only [Nat.reducePow, Nat.reduceAdd] at hpw3
        go_wp2
        have hsz0 : dk0.size = d.size := SZ0
        obtain ⟨G0, hc0, hf0⟩ := row10_cells AW0.out AH.out hsz0
        go_name_slot 15 x0 hx0
        have hxe0 : x0 = ((v % 100 * 2 : Nat) : Int) := by omega
        have hXa0 : ∀ w, (Instr.index 9 (.string Lib.smalls) (.int .u32 (x0 + 1))).run Tryd.prog w = .ok (.int .u8 ((sm (v % 100 * 2 + 1)).toNat : Int)) w := idx_smalls 9 Tryd.underlying9 .u32 _ _ (by omega) (by omega)
        have hXb0 : ∀ w, (Instr.index 9 (.string Lib.smalls) (.int .u32 x0)).run Tryd.prog w = .ok (.int .u8 ((sm (v % 100 * 2)).toNat : Int)) w := idx_smalls 9 Tryd.underlying9 .u32 _ _ (by omega) (by omega)
        have hlo0 : 0 ≤ x0 := by omega
        have hhi0 : x0 ≤ 198 := by omega
        clear hx0 hxe0
        go_region
        go_wp2
        go_name_world W1 hW1
        have AW1 : Hid (W1 = (putRow (fun (b : UInt8) => Value.int .u8 (b.toNat : Int)) w blk off (st2 dk0 (3) (v))).drewN (n + 0 + 1)) := by show _ = _; rw [← hW1]; exact (by rw [AW0.out]; exact st2_world w blk off dk0 (n + 0) (3) (v) (by omega))
        have SZ1 : (st2 dk0 (3) (v)).size = d.size := by rw [st2_size]; exact hsz0
        obtain ⟨dk1, hd1⟩ : ∃ x, x = st2 dk0 (3) (v) := ⟨_, rfl⟩
        rw [← hd1] at AW1 SZ1
        have HD1 := Lib.hid hd1
        clear hW1 hc0 hf0 hXa0 hXb0 hd1 hsz0
        have hsz1 : dk1.size = d.size := SZ1
        obtain ⟨G1, hc1, hf1⟩ := row10_cells AW1.out AH.out hsz1
        go_name_slot 14 x1 hx1
        have hxe1 : x1 = (((v / 100) % 100 * 2 : Nat) : Int) := by omega
        have hXa1 : ∀ w, (Instr.index 9 (.string Lib.smalls) (.int .u32 (x1 + 1))).run Tryd.prog w = .ok (.int .u8 ((sm ((v / 100) % 100 * 2 + 1)).toNat : Int)) w := idx_smalls 9 Tryd.underlying9 .u32 _ _ (by omega) (by omega)
        have hXb1 : ∀ w, (Instr.index 9 (.string Lib.smalls) (.int .u32 x1)).run Tryd.prog w = .ok (.int .u8 ((sm ((v / 100) % 100 * 2)).toNat : Int)) w := idx_smalls 9 Tryd.underlying9 .u32 _ _ (by omega) (by omega)
        have hlo1 : 0 ≤ x1 := by omega
        have hhi1 : x1 ≤ 198 := by omega
        clear hx1 hxe1
        go_region
        go_wp2
        go_end0
        refine ⟨rfl, n + 1 + 1, ?_⟩
        rw [← hfin.out]
        show _ = (putRow (fun (b : UInt8) => Value.int .u8 (b.toNat : Int)) w blk off (st1 (st2 (st2 dk0 3 (v)) 1 (v / 100)) (v / 10000))).drewN _
        rw [AW1.out, HD1.out]
        exact st21_world w blk off (st2 dk0 3 (v)) (n + 1) 1 (v / 100) (v / 10000) _ (by first | (simp only [st2_size]; omega) | omega) (by omega)
      · -- nd = 6
        simp only [Nat.reducePow, Nat.reduceAdd] at hpw3
        go_wp2
        have hsz0 : dk0.size = d.size := SZ0
        obtain ⟨G0, hc0, hf0⟩ := row10_cells AW0.out AH.out hsz0
        go_name_slot 15 x0 hx0
        have hxe0 : x0 = ((v % 100 * 2 : Nat) : Int) := by omega
        have hXa0 : ∀ w, (Instr.index 9 (.string Lib.smalls) (.int .u32 (x0 + 1))).run Tryd.prog w = .ok (.int .u8 ((sm (v % 100 * 2 + 1)).toNat : Int)) w := idx_smalls 9 Tryd.underlying9 .u32 _ _ (by omega) (by omega)
        have hXb0 : ∀ w, (Instr.index 9 (.string Lib.smalls) (.int .u32 x0)).run Tryd.prog w = .ok (.int .u8 ((sm (v % 100 * 2)).toNat : Int)) w := idx_smalls 9 Tryd.underlying9 .u32 _ _ (by omega) (by omega)
        have hlo0 : 0 ≤ x0 := by omega
        have hhi0 : x0 ≤ 198 := by omega
        clear hx0 hxe0
        go_region
        go_wp2
        go_name_world W1 hW1
        have AW1 : Hid (W1 = (putRow (fun (b : UInt8) => Value.int .u8 (b.toNat : Int)) w blk off (st2 dk0 (4) (v))).drewN (n + 0 + 1)) := by show _ = _; rw [← hW1]; exact (by rw [AW0.out]; exact st2_world w blk off dk0 (n + 0) (4) (v) (by omega))
        have SZ1 : (st2 dk0 (4) (v)).size = d.size := by rw [st2_size]; exact hsz0
        obtain ⟨dk1, hd1⟩ : ∃ x, x = st2 dk0 (4) (v) := ⟨_, rfl⟩
        rw [← hd1] at AW1 SZ1
        have HD1 := Lib.hid hd1
        clear hW1 hc0 hf0 hXa0 hXb0 hd1 hsz0
        have hsz1 : dk1.size = d.size := SZ1
        obtain ⟨G1, hc1, hf1⟩ := row10_cells AW1.out AH.out hsz1
        go_name_slot 14 x1 hx1
        have hxe1 : x1 = (((v / 100) % 100 * 2 : Nat) : Int) := by omega
        have hXa1 : ∀ w, (Instr.index 9 (.string Lib.smalls) (.int .u32 (x1 + 1))).run Tryd.prog w = .ok (.int .u8 ((sm ((v / 100) % 100 * 2 + 1)).toNat : Int)) w := idx_smalls 9 Tryd.underlying9 .u32 _ _ (by omega) (by omega)
        have hXb1 : ∀ w, (Instr.index 9 (.string Lib.smalls) (.int .u32 x1)).run Tryd.prog w = .ok (.int .u8 ((sm ((v / 100) % 100 * 2)).toNat : Int)) w := idx_smalls 9 Tryd.underlying9 .u32 _ _ (by omega) (by omega)
        have hlo1 : 0 ≤ x1 := by omega
        have hhi1 : x1 ≤ 198 := by omega
        clear hx1 hxe1
        go_region
        go_wp2
        go_name_world W2 hW2
        have AW2 : Hid (W2 = (putRow (fun (b : UInt8) => Value.int .u8 (b.toNat : Int)) w blk off (st2 dk1 (2) (v / 100))).drewN (n + 1 + 1)) := by show _ = _; rw [← hW2]; exact (by rw [AW1.out]; exact st2_world w blk off dk1 (n + 1) (2) (v / 100) (by omega))
        have SZ2 : (st2 dk1 (2) (v / 100)).size = d.size := by rw [st2_size]; exact hsz1
        obtain ⟨dk2, hd2⟩ : ∃ x, x = st2 dk1 (2) (v / 100) := ⟨_, rfl⟩
        rw [← hd2] at AW2 SZ2
        have HD2 := Lib.hid hd2
        clear hW2 hc1 hf1 hXa1 hXb1 hd2 hsz1
        have hsz2 : dk2.size = d.size := SZ2
        obtain ⟨G2, hc2, hf2⟩ := row10_cells AW2.out AH.out hsz2
        go_name_slot 16 x2 hx2
        have hxe2 : x2 = (((v / 10000) % 100 * 2 : Nat) : Int) := by omega
        have hXa2 : ∀ w, (Instr.index 9 (.string Lib.smalls) (.int .u32 (x2 + 1))).run Tryd.prog w = .ok (.int .u8 ((sm ((v / 10000) % 100 * 2 + 1)).toNat : Int)) w := idx_smalls 9 Tryd.underlying9 .u32 _ _ (by omega) (by omega)
        have hXb2 : ∀ w, (Instr.index 9 (.string Lib.smalls) (.int .u32 x2)).run Tryd.prog w = .ok (.int .u8 ((sm ((v / 10000) % 100 * 2)).toNat : Int)) w := idx_smalls 9 Tryd.underlying9 .u32 _ _ (by omega) (by omega)
        have hlo2 : 0 ≤ x2 := by omega
        have hhi2 : x2 ≤ 198 := by omega
        clear hx2 hxe2
        go_region
        go_wp2
        go_end0
        refine ⟨rfl, n + 2 + 1, ?_⟩
        rw [← hfin.out]
        show _ = (putRow (fun (b : UInt8) => Value.int .u8 (b.toNat : Int)) w blk off (st2 (st2 (st2 dk0 4 (v)) 2 (v / 100)) 0 (v / 10000))).drewN _
        rw [AW2.out, HD2.out, HD1.out]
        exact st2_world w blk off _ (n + 2) 0 (v / 10000) (by first | (simp only [st2_size]; omega) | omega)
      · -- nd = 7
        simp only [Nat.reducePow, Nat.reduceAdd] at hpw3
        go_wp2
        have hsz0 : dk0.size = d.size := SZ0
        obtain ⟨G0, hc0, hf0⟩ := row10_cells AW0.out AH.out hsz0
        go_name_slot 15 x0 hx0
        have hxe0 : x0 = ((v % 100 * 2 : Nat) : Int) := by omega
        have hXa0 : ∀ w, (Instr.index 9 (.string Lib.smalls) (.int .u32 (x0 + 1))).run Tryd.prog w = .ok (.int .u8 ((sm (v % 100 * 2 + 1)).toNat : Int)) w := idx_smalls 9 Tryd.underlying9 .u32 _ _ (by omega) (by omega)
        have hXb0 : ∀ w, (Instr.index 9 (.string Lib.smalls) (.int .u32 x0)).run Tryd.prog w = .ok (.int .u8 ((sm (v % 100 * 2)).toNat : Int)) w := idx_smalls 9 Tryd.underlying9 .u32 _ _ (by omega) (by omega)
        have hlo0 : 0 ≤ x0 := by omega
        have hhi0 : x0 ≤ 198 := by omega
        clear hx0 hxe0
        go_region
        go_wp2
        go_name_world W1 hW1
        have AW1 : Hid (W1 = (putRow (fun (b : UInt8) => Value.int .u8 (b.toNat : Int)) w blk off (st2 dk0 (5) (v))).drewN (n + 0 + 1)) := by show _ = _; rw [← hW1]; exact (by rw [AW0.out]; exact st2_world w blk off dk0 (n + 0) (5) (v) (by omega))
        have SZ1 : (st2 dk0 (5) (v)).size = d.size := by rw [st2_size]; exact hsz0
        obtain ⟨dk1, hd1⟩ : ∃ x, x = st2 dk0 (5) (v) := ⟨_, rfl⟩
        rw [← hd1] at AW1 SZ1
        have HD1 := Lib.hid hd1
        clear hW1 hc0 hf0 hXa0 hXb0 hd1 hsz0
        have hsz1 : dk1.size = d.size := SZ1
        obtain ⟨G1, hc1, hf1⟩ := row10_cells AW1.out AH.out hsz1
        go_name_slot 14 x1 hx1
        have hxe1 : x1 = (((v / 100) % 100 * 2 : Nat) : Int) := by omega
        have hXa1 : ∀ w, (Instr.index 9 (.string Lib.smalls) (.int .u32 (x1 + 1))).run Tryd.prog w = .ok (.int .u8 ((sm ((v / 100) % 100 * 2 + 1)).toNat : Int)) w := idx_smalls 9 Tryd.underlying9 .u32 _ _ (by omega) (by omega)
        have hXb1 : ∀ w, (Instr.index 9 (.string Lib.smalls) (.int .u32 x1)).run Tryd.prog w = .ok (.int .u8 ((sm ((v / 100) % 100 * 2)).toNat : Int)) w := idx_smalls 9 Tryd.underlying9 .u32 _ _ (by omega) (by omega)
        have hlo1 : 0 ≤ x1 := by omega
        have hhi1 : x1 ≤ 198 := by omega
        clear hx1 hxe1
        go_region
        go_wp2
        go_name_world W2 hW2
        have AW2 : Hid (W2 = (putRow (fun (b : UInt8) => Value.int .u8 (b.toNat : Int)) w blk off (st2 dk1 (3) (v / 100))).drewN (n + 1 + 1)) := by show _ = _; rw [← hW2]; exact (by rw [AW1.out]; exact st2_world w blk off dk1 (n + 1) (3) (v / 100) (by omega))
        have SZ2 : (st2 dk1 (3) (v / 100)).size = d.size := by rw [st2_size]; exact hsz1
        obtain ⟨dk2, hd2⟩ : ∃ x, x = st2 dk1 (3) (v / 100) := ⟨_, rfl⟩
        rw [← hd2] at AW2 SZ2
        have HD2 := Lib.hid hd2
        clear hW2 hc1 hf1 hXa1 hXb1 hd2 hsz1
        have hsz2 : dk2.size = d.size := SZ2
        obtain ⟨G2, hc2, hf2⟩ := row10_cells AW2.out AH.out hsz2
        go_name_slot 16 x2 hx2
        have hxe2 : x2 = (((v / 10000) % 100 * 2 : Nat) : Int) := by omega
        have hXa2 : ∀ w, (Instr.index 9 (.string Lib.smalls) (.int .u32 (x2 + 1))).run Tryd.prog w = .ok (.int .u8 ((sm ((v / 10000) % 100 * 2 + 1)).toNat : Int)) w := idx_smalls 9 Tryd.underlying9 .u32 _ _ (by omega) (by omega)
        have hXb2 : ∀ w, (Instr.index 9 (.string Lib.smalls) (.int .u32 x2)).run Tryd.prog w = .ok (.int .u8 ((sm ((v / 10000) % 100 * 2)).toNat : Int)) w := idx_smalls 9 Tryd.underlying9 .u32 _ _ (by omega) (by omega)
        have hlo2 : 0 ≤ x2 := by omega
        have hhi2 : x2 ≤ 198 := by omega
        clear hx2 hxe2
        go_region
        go_wp2
        go_end0
        refine ⟨rfl, n + 2 + 1, ?_⟩
        rw [← hfin.out]
        show _ = (putRow (fun (b : UInt8) => Value.int .u8 (b.toNat : Int)) w blk off (st1 (st2 (st2 (st2 dk0 5 (v)) 3 (v / 100)) 1 (v / 10000)) (v / 10000 / 100))).drewN _
        rw [AW2.out, HD2.out, HD1.out]
        exact st21_world w blk off (st2 (st2 dk0 5 (v)) 3 (v / 100)) (n + 2) 1 (v / 10000) (v / 10000 / 100) _ (by first | (simp only [st2_size]; omega) | omega) (by omega)

end Go.Proofs.YtellekfpkdnioaaDoor
