/-
  strconv.Itoa whatever the library's table of powers holds: the text depends on the table and the number alone. Condition: the table's twenty cells hold numbers.
-/
import Derived.Test.YtellekfpkdnioaaDoorFmt
import Derived.Laws.Slices
import Derived.Laws.IdiomStrings
namespace Go.Proofs.YtellekfpkdnioaaDoor
open Go.RowKit Go.Sort Go.Lib

/-- The table internal/strconv.uint64pow10 holds T, whatever that is. -/
def PowT (w : World) (T : Nat → Int) : Prop := ∀ i, i < 20 → w.cell? ⟨3, i, none⟩ = some (.int .u64 (T i))
theorem PowT.keep {w w' : World} {T : Nat → Int} (h : PowT w T) (k : Keep w w') : PowT w' T := fun i hi => k.cell (h i hi)
theorem ret_int {k : IntKind} {a b : Int} (h : a = b) : Ending.returned (.int k a) = .returned (.int k b) := by rw [h]
def ndT (T : Nat → Int) (u : Nat) : Nat := l10 (Lib.bitLen u) + if T (l10 (Lib.bitLen u)) ≤ (u : Int) then 1 else 0
theorem ndT_le (T : Nat → Int) (u : Nat) (h1 : 1 ≤ u) (h2 : u < 18446744073709551616) : ndT T u ≤ 20 ∧ u < 10 ^ (ndT T u + 1) := by
  obtain ⟨a, b⟩ := numDigits_eq u h1 h2
  have c := lt_pow_nDigits u
  have hle : nDigits u ≤ ndT T u + 1 := by unfold ndT; split at a <;> split <;> omega
  refine ⟨by unfold ndT; split <;> omega, Nat.lt_of_lt_of_le c (Nat.pow_le_pow_right (by omega) hle)⟩
set_option maxHeartbeats 2000000 in
theorem digits_any (T : Nat → Int) (u : Nat) (w : World) (h1 : 1 ≤ u) (h2 : u < 18446744073709551616) (hT : PowT w T) :
    Calls Tryd.prog 62 #[.int .u64 u] w fun e w' => e = .returned (.int .i64 (ndT T u)) ∧ w = w' := by
  obtain ⟨_, b⟩ := numDigits_eq u h1 h2
  have hb64 : Lib.bitLen u ≤ 64 := bitLen_le u 64 (Nat.le_refl _) h2
  have hl := Lib.hid (Tryd.bits_Len64 u w (by omega) (by omega))
  have hl2 := Lib.hid (Tryd.internal_strconv_log10Pow2 (Lib.bitLen u) hb64 w)
  have hc := hT (l10 (Lib.bitLen u)) (by omega)
  obtain ⟨L, hL⟩ : ∃ L, L = l10 (Lib.bitLen u) := ⟨_, rfl⟩
  have hnd : Hid (ndT T u = L + if T L ≤ (u : Int) then 1 else 0) := by show _ = _; rw [hL]; rfl
  rw [← hL] at hl2 hc b
  have hbu : (Lib.bitLen ((u : Int)).toNat) = Lib.bitLen u := by simp
  rw [hbu] at hl
  clear hT hL hbu hb64
  by_cases hle : T L ≤ (u : Int)
  · have hnd2 : ndT T u = L + 1 := by rw [hnd.out, if_pos hle]
    rw [hnd2]
    clear hnd2 hnd
    go_enter Tryd.func62, Tryd.ntmps62
    go_wp2_with (first
      | (go_at_call 66; refine hl.out.mono ?_; rintro e w' ⟨rfl, rfl⟩)
      | (go_at_call 65; refine hl2.out.mono ?_; rintro e w' ⟨rfl, rfl⟩)
      | (go_at_call 67; refine (Tryd.internal_strconv_bool2_int true _).mono ?_; rintro e w' ⟨rfl, rfl⟩; simp only [if_true]))
    go_ret
    exact ⟨ret_int (by omega), rfl⟩
  · have hnd2 : ndT T u = L := by rw [hnd.out, if_neg hle]; rfl
    rw [hnd2]
    clear hnd2 hnd
    have hd : decide (T L ≤ (u : Int)) = false := by simpa using hle
    go_enter Tryd.func62, Tryd.ntmps62
    go_wp2_with (first
      | (go_at_call 66; refine hl.out.mono ?_; rintro e w' ⟨rfl, rfl⟩)
      | (go_at_call 65; refine hl2.out.mono ?_; rintro e w' ⟨rfl, rfl⟩)
      | (go_at_call 67; refine (Tryd.internal_strconv_bool2_int false _).mono ?_; rintro e w' ⟨rfl, rfl⟩; simp only [Bool.false_eq_true, if_false]))
    go_ret
    exact ⟨ret_int (by omega), rfl⟩

theorem keep_grow (w : World) (k : Nat) (os : Array Obj) : Keep w (grow (w.drewN k) os) :=
  ⟨rfl, rfl, rfl, by simp [grow, World.drewN], fun j hj => by simp [grow, World.drewN, Array.getElem?_append, hj]⟩
/-- The text of a number, by a table of powers that holds T. -/
def bigT (T : Nat → Int) (u : Nat) : Array UInt8 := all10 (ndT T u) u (Array.replicate (ndT T u) 0)
theorem bigT_size (T : Nat → Int) (u : Nat) : (bigT T u).size = ndT T u := by
  unfold bigT
  rw [all10_size (ndT T u + 1) _ _ _ (by omega), Array.size_replicate]
def itoaT (T : Nat → Int) (n : Int) : ByteArray :=
  if 0 ≤ n ∧ n < 100 then ⟨(decDigits n.toNat).toArray⟩ else if n < 0 then ⟨(45 :: (bigT T n.natAbs).toList).toArray⟩ else ⟨bigT T n.natAbs⟩
theorem cellBig {w : World} {T : TypeId} {k : Nat} {dk : Array UInt8} (hs : 1 + dk.size ≤ 24) (j : Nat) (hj : j < dk.size) :
    ((putRow (fun (b : UInt8) => Value.int .u8 (b.toNat : Int)) (w.alloc (.cells Lib.zeros24 T)) w.heap.size 1 dk).drewN k).cell? ⟨w.heap.size, 1 + j, none⟩ = some (.int .u8 (dk[j].toNat : Int)) := by
  rw [World.cell?_drewN, cell?_putRow (fun (b : UInt8) => Value.int .u8 (b.toNat : Int)) _ w.heap.size 1 _ dk (Lib.holds_zero w T dk.size hs) (by simp) j hj]
  rw [getElem!_pos dk j hj]
set_option maxRecDepth 100000 in
set_option maxHeartbeats 4000000 in
theorem format_pos (T : Nat → Int) (u : Nat) (w : World) (h1 : 100 ≤ u) (h2 : u ≤ 9223372036854775807) (hT : PowT w T) :
    Calls Tryd.prog 60 #[.int .i64 u, .int .i64 10] w fun e w' => e = .returned (.string ⟨bigT T u⟩) ∧ Keep w w' := by
  obtain ⟨hn20, hpw⟩ := ndT_le T u (by omega) (by omega)
  have hnd := Lib.hid (digits_any T u (w.alloc (.cells Lib.zeros24 114)) (by omega) (by omega) (hT.keep (Keep.one _ _)))
  have hfm := format_any w.heap.size 1 23 u (Array.replicate (ndT T u) 0) (w.alloc (.cells Lib.zeros24 114)) (Lib.holds_zero w 114 (ndT T u) (by omega)) (by rw [Array.size_replicate]; exact hpw) (by omega) (by rw [Array.size_replicate]; omega)
  rw [Array.size_replicate, show all10 (ndT T u) u (Array.replicate (ndT T u) 0) = bigT T u from rfl] at hfm
  have hbs := bigT_size T u
  obtain ⟨D, hD⟩ : ∃ D, D = bigT T u := ⟨_, rfl⟩
  rw [← hD] at hfm hbs ⊢
  obtain ⟨N, hN⟩ : ∃ N, N = ndT T u := ⟨_, rfl⟩
  rw [← hN] at hfm hbs hn20 hnd
  have hal : Tryd.prog.arrayLen 114 = 24 := by simp [Program.arrayLen, Tryd.underlying114]
  have hsl : ∀ W, (Instr.sliceAt 114 (.pointer (some ⟨w.heap.size, 0, none⟩)) (some (.int .i64 1)) (some (.int .i64 (1 + (N : Int)))) none).run Tryd.prog W = .ok (.slice (some ⟨w.heap.size, 1, none⟩) N 23) W := fun W => by
    rw [run_sliceAt_array_lh W 114 ⟨w.heap.size, 0, none⟩ (by simp [Program.arrayLen, Program.elem, Tryd.underlying114]) .i64 .i64 1 (1 + (N : Int)) (by omega) (by omega) (by rw [hal]; omega)]
    go_simp
    omega
  have hcv : ∀ k, (convert 118 9 (.slice (some ⟨w.heap.size, 1, none⟩) N 23)).run Tryd.prog ((putRow (fun (b : UInt8) => Value.int .u8 (b.toNat : Int)) (w.alloc (.cells Lib.zeros24 114)) w.heap.size 1 D).drewN k) = .ok (.string ⟨D⟩) ((putRow (fun (b : UInt8) => Value.int .u8 (b.toNat : Int)) (w.alloc (.cells Lib.zeros24 114)) w.heap.size 1 D).drewN k) := fun k => by
    have h := run_convert_bytes_back (P := Tryd.prog) ((putRow (fun (b : UInt8) => Value.int .u8 (b.toNat : Int)) (w.alloc (.cells Lib.zeros24 114)) w.heap.size 1 D).drewN k) 118 9 5 ⟨w.heap.size, 1, none⟩ 23 D.toList Tryd.underlying118 Tryd.underlying5 Tryd.underlying9 (fun j hj => by
      rw [Lib.add_plain, cellBig (by omega) j (by simpa using hj)]
      simp)
    rw [Array.length_toList, hbs] at h
    simpa using h
  replace hfm := Lib.hid hfm
  clear hT hpw hal hD hN hbs
  go_enter Tryd.func60, Tryd.ntmps60
  go_wp2_with (go_at_call 62; refine hnd.out.mono ?_; rintro e w' ⟨rfl, rfl⟩)
  go_at_call 63
  refine hfm.out.mono ?_
  rintro e w' ⟨rfl, k, rfl⟩
  have hc := hcv k
  clear hcv hfm hnd
  go_wp2
  go_ret
  obtain ⟨os, eo⟩ := Lib.fin_pos w (.cells Lib.zeros24 114) D k
  exact ⟨rfl, by rw [eo]; exact keep_grow _ _ _⟩

theorem u64_neg (u : Nat) (h1 : 1 ≤ u) (h2 : u ≤ 9223372036854775808) : IntKind.u64.wrap (-IntKind.u64.wrap (-(u : Int))) = (u : Int) := by rw [IntKind.wrap_u64, IntKind.wrap_u64]; omega
set_option maxRecDepth 100000 in
set_option maxHeartbeats 4000000 in
theorem format_neg (T : Nat → Int) (u : Nat) (w : World) (h1 : 1 ≤ u) (h2 : u ≤ 9223372036854775808) (hT : PowT w T) :
    Calls Tryd.prog 60 #[.int .i64 (-(u : Int)), .int .i64 10] w fun e w' => e = .returned (.string ⟨(45 :: (bigT T u).toList).toArray⟩) ∧ Keep w w' := by
  obtain ⟨hn20, hpw⟩ := ndT_le T u h1 (by omega)
  have hnd := Lib.hid (digits_any T u (w.alloc (.cells Lib.zeros24 114)) h1 (by omega) (hT.keep (Keep.one _ _)))
  have hfm := format_any w.heap.size 1 23 u (Array.replicate (ndT T u) 0) (w.alloc (.cells Lib.zeros24 114)) (Lib.holds_zero w 114 (ndT T u) (by omega)) (by rw [Array.size_replicate]; exact hpw) (by omega) (by rw [Array.size_replicate]; omega)
  rw [Array.size_replicate, show all10 (ndT T u) u (Array.replicate (ndT T u) 0) = bigT T u from rfl] at hfm
  have hbs := bigT_size T u
  obtain ⟨D, hD⟩ : ∃ D, D = bigT T u := ⟨_, rfl⟩
  rw [← hD] at hfm hbs ⊢
  obtain ⟨N, hN⟩ : ∃ N, N = ndT T u := ⟨_, rfl⟩
  rw [← hN] at hfm hbs hn20 hnd
  have hwr := u64_neg u h1 h2
  have hal : Tryd.prog.arrayLen 114 = 24 := by simp [Program.arrayLen, Tryd.underlying114]
  have hsl : ∀ W, (Instr.sliceAt 114 (.pointer (some ⟨w.heap.size, 0, none⟩)) (some (.int .i64 1)) (some (.int .i64 (1 + (N : Int)))) none).run Tryd.prog W = .ok (.slice (some ⟨w.heap.size, 1, none⟩) N 23) W := fun W => by
    rw [run_sliceAt_array_lh W 114 ⟨w.heap.size, 0, none⟩ (by simp [Program.arrayLen, Program.elem, Tryd.underlying114]) .i64 .i64 1 (1 + (N : Int)) (by omega) (by omega) (by rw [hal]; omega)]
    go_simp
    omega
  have hsl2 : ∀ W, (Instr.sliceAt 114 (.pointer (some ⟨w.heap.size, 0, none⟩)) none (some (.int .i64 (1 + (N : Int)))) none).run Tryd.prog W = .ok (.slice (some ⟨w.heap.size, 0, none⟩) (1 + N) 24) W := fun W => by
    rw [run_sliceAt_array_h W 114 ⟨w.heap.size, 0, none⟩ (by simp [Program.arrayLen, Program.elem, Tryd.underlying114]) .i64 (1 + (N : Int)) (by omega) (by rw [hal]; omega)]
    go_simp
    omega
  have hc0 : ∀ k, ((putRow (fun (b : UInt8) => Value.int .u8 (b.toNat : Int)) (w.alloc (.cells Lib.zeros24 114)) w.heap.size 1 D).drewN k).cell? ⟨w.heap.size, 0, none⟩ = some (.int .u8 0) := fun k => by
    rw [World.cell?_drewN, cell?_putRow_other _ _ _ _ _ _ (Or.inr (Or.inl (Nat.zero_lt_one))), World.cell?_alloc_new]
    exact Lib.zeros24_at 0 (by omega)
  have hf0 : ∀ k, ((putRow (fun (b : UInt8) => Value.int .u8 (b.toNat : Int)) (w.alloc (.cells Lib.zeros24 114)) w.heap.size 1 D).drewN k).frozen? ⟨w.heap.size, 0, none⟩ = false := fun k => by
    rw [World.frozen?_drewN, frozen?_putRow]
    exact World.frozen?_alloc_new _ _ _ _
  have hcv : ∀ k, (convert 118 9 (.slice (some ⟨w.heap.size, 0, none⟩) (1 + N) 24)).run Tryd.prog (((putRow (fun (b : UInt8) => Value.int .u8 (b.toNat : Int)) (w.alloc (.cells Lib.zeros24 114)) w.heap.size 1 D).drewN k).setCell ⟨w.heap.size, 0, none⟩ (.int .u8 45)) = .ok (.string ⟨(45 :: D.toList).toArray⟩) (((putRow (fun (b : UInt8) => Value.int .u8 (b.toNat : Int)) (w.alloc (.cells Lib.zeros24 114)) w.heap.size 1 D).drewN k).setCell ⟨w.heap.size, 0, none⟩ (.int .u8 45)) := fun k => by
    have h := run_convert_bytes_back (P := Tryd.prog) (((putRow (fun (b : UInt8) => Value.int .u8 (b.toNat : Int)) (w.alloc (.cells Lib.zeros24 114)) w.heap.size 1 D).drewN k).setCell ⟨w.heap.size, 0, none⟩ (.int .u8 45)) 118 9 5 ⟨w.heap.size, 0, none⟩ 24 (45 :: D.toList) Tryd.underlying118 Tryd.underlying5 Tryd.underlying9 (fun j hj => by
      rw [Lib.add_plain]
      cases j with
      | zero => exact World.cell?_setCell_same _ _ _ (hc0 k)
      | succ i =>
        have hi : i < D.size := by simpa using hj
        rw [World.cell?_setCell_other (a := ⟨w.heap.size, 0, none⟩) (b := ⟨w.heap.size, 0 + (i + 1), none⟩) (h := by simp), show 0 + (i + 1) = 1 + i by omega, cellBig (by omega) i hi]
        simp)
    rw [List.length_cons, Array.length_toList, hbs, Nat.add_comm] at h
    exact h
  replace hfm := Lib.hid hfm
  clear hT hpw hal hD hN hbs
  go_enter Tryd.func60, Tryd.ntmps60
  go_wp2_with (go_at_call 62; refine hnd.out.mono ?_; rintro e w' ⟨rfl, rfl⟩)
  go_at_call 63
  refine hfm.out.mono ?_
  rintro e w' ⟨rfl, k, rfl⟩
  have hc := hcv k
  have hc0 := hc0 k
  have hf0 := hf0 k
  clear hcv hfm hnd
  go_wp2
  go_ret
  obtain ⟨os, eo⟩ := Lib.fin_neg w (.cells Lib.zeros24 114) D k (.int .u8 45)
  exact ⟨rfl, by rw [eo]; exact keep_grow _ _ _⟩

theorem itoa_any (T : Nat → Int) (n : Int) (w : World) (h1 : -9223372036854775808 ≤ n) (h2 : n ≤ 9223372036854775807) (hT : PowT w T) :
    Calls Tryd.prog 58 #[.int .i64 n] w fun e w' => e = .returned (.string (itoaT T n)) ∧ Keep w w' := by
  by_cases hs : 0 ≤ n ∧ n < 100
  · obtain ⟨i, rfl⟩ : ∃ i : Nat, n = i := ⟨n.toNat, by omega⟩
    unfold itoaT
    rw [if_pos hs]
    exact (Tryd.strconv_Itoa_small i (by omega) w).mono fun e w' ⟨he, hw⟩ => ⟨by rw [he]; simp, hw ▸ Keep.refl _⟩
  · have hf : Calls Tryd.prog 60 #[.int .i64 n, .int .i64 10] w fun e w' => e = .returned (.string (itoaT T n)) ∧ Keep w w' := by
      unfold itoaT
      rw [if_neg hs]
      by_cases hn : n < 0
      · rw [if_pos hn]
        obtain ⟨u, rfl⟩ : ∃ u : Nat, n = -(u : Int) := ⟨n.natAbs, by omega⟩
        rw [show (-(u : Int)).natAbs = u by omega]
        exact format_neg T u w (by omega) (by omega) hT
      · rw [if_neg hn]
        obtain ⟨u, rfl⟩ : ∃ u : Nat, n = (u : Int) := ⟨n.toNat, by omega⟩
        rw [show ((u : Int)).natAbs = u by omega]
        exact format_pos T u w (by omega) (by omega) hT
    replace hf := Lib.hid hf
    clear hT
    have hi : Calls Tryd.prog 59 #[.int .i64 n] w fun e w' => e = .returned (.string (itoaT T n)) ∧ Keep w w' := by
      go_enter Tryd.func59, Tryd.ntmps59
      go_wp2_with (go_at_call 60; refine hf.out.mono ?_; rintro e w' ⟨rfl, hk⟩)
      go_ret
      exact ⟨rfl, hk⟩
    replace hi := Lib.hid hi
    clear hf
    go_enter Tryd.func58, Tryd.ntmps58
    go_wp2_with (go_at_call 59; refine hi.out.mono ?_; rintro e w' ⟨rfl, hk⟩)
    go_ret
    exact ⟨rfl, hk⟩
theorem decDigits_small : ∀ i : Fin 100, (decDigits i.val).length ≤ 2 := by decide +kernel
theorem itoaT_size (T : Nat → Int) (n : Int) (h1 : -9223372036854775808 ≤ n) (h2 : n ≤ 9223372036854775807) : (itoaT T n).size ≤ 21 := by
  unfold itoaT
  split
  · have := decDigits_small ⟨n.toNat, by omega⟩
    show (decDigits n.toNat).toArray.size ≤ 21
    simp
    simp at this
    omega
  · split
    · have := (ndT_le T n.natAbs (by omega) (by omega)).1
      show (45 :: (bigT T n.natAbs).toList).toArray.size ≤ 21
      simp [bigT_size]
      omega
    · have := (ndT_le T n.natAbs (by omega) (by omega)).1
      show (bigT T n.natAbs).size ≤ 21
      rw [bigT_size]
      omega
end Go.Proofs.YtellekfpkdnioaaDoor
