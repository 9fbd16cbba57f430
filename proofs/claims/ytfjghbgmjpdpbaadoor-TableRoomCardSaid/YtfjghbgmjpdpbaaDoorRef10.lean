/-
  The reference's Find, Remove, IDs. Conditions: at most 1000 pairs for the last two.
-/
import Derived.Test.YtfjghbgmjpdpbaaDoorGr10
namespace Go.Proofs.YtfjghbgmjpdpbaaDoor.T10
open Go.RowKit Go.Sort Go.Lib

def findN (P : Nat → PrV) (id : Int) : Nat → Int
  | 0 => -1
  | n + 1 => if 0 ≤ findN P id n then findN P id n else if (P n).k = id then (n : Int) else -1
theorem find_no {P : Nat → PrV} {id : Int} : ∀ {n}, (∀ t, t < n → (P t).k ≠ id) → findN P id n = -1
  | 0, _ => rfl
  | n + 1, h => by
    rw [findN, find_no (fun t ht => h t (by omega)), if_neg (by omega), if_neg (h n (by omega))]
theorem find_at {P : Nat → PrV} {id : Int} {j : Nat} (hj : (P j).k = id) (h : ∀ t, t < j → (P t).k ≠ id) : ∀ {n}, j < n → findN P id n = (j : Int)
  | n + 1, hn => by
    by_cases e : j = n
    · subst e
      rw [findN, find_no h, if_neg (by omega), if_pos hj]
    · rw [findN, find_at hj h (n := n) (by omega), if_pos (by omega)]
/-- Either there is none, or it is the first. -/
theorem find_cases (P : Nat → PrV) (id : Int) (n : Nat) : (findN P id n = -1 ∧ id ∉ keys (lst P n)) ∨ ∃ j, j < n ∧ findN P id n = (j : Int) ∧ (P j).k = id ∧ id ∈ keys (lst P n) ∧ getL (lst P n) id = P j := by
  by_cases h : ∃ j, j < n ∧ (P j).k = id
  · right
    obtain ⟨j, hj, hk, hm⟩ : ∃ j, j < n ∧ (P j).k = id ∧ ∀ t, t < j → (P t).k ≠ id := by
      induction n with
      | zero => obtain ⟨j, hj, _⟩ := h; exact absurd hj (Nat.not_lt_zero _)
      | succ n ih =>
        by_cases h2 : ∃ j, j < n ∧ (P j).k = id
        · obtain ⟨j, a, b, c⟩ := ih h2
          exact ⟨j, by omega, b, c⟩
        · obtain ⟨j, hj, hk⟩ := h
          refine ⟨j, hj, hk, fun t ht e => h2 ⟨t, by omega, e⟩⟩
    refine ⟨j, hj, find_at hk hm hj, hk, ?_, ?_⟩
    · unfold keys
      rw [← hk]
      exact List.mem_map_of_mem (lst_mem.2 ⟨j, hj, rfl⟩)
    · unfold getL
      have e : (lst P n).find? (fun y => decide (y.k = id)) = some (P j) := by
        rw [List.find?_eq_some_iff_getElem]
        refine ⟨by simpa using hk, j, by rw [lst_len]; exact hj, ?_, fun t ht => ?_⟩
        · have := lst_get (Q := P) hj
          rw [List.getElem?_eq_getElem (by rw [lst_len]; exact hj)] at this
          exact Option.some.inj this
        · have h1 := lst_get (Q := P) (n := n) (j := t) (by omega)
          rw [List.getElem?_eq_getElem (by rw [lst_len]; omega)] at h1
          rw [Option.some.inj h1]
          simpa using hm t ht
      rw [e]
      rfl
  · left
    refine ⟨find_no fun t ht e => h ⟨t, ht, e⟩, fun hk => ?_⟩
    obtain ⟨y, hy, e⟩ := List.mem_map.1 hk
    obtain ⟨j, hj, rfl⟩ := lst_mem.1 hy
    exact h ⟨j, hj, e⟩
theorem find_iff {P : Nat → PrV} {id : Int} {n : Nat} : 0 ≤ findN P id n ↔ id ∈ keys (lst P n) := by
  rcases find_cases P id n with ⟨h1, h2⟩ | ⟨j, _, h1, _, h2, _⟩
  · rw [h1]; exact ⟨fun h => absurd h (by decide), fun h => absurd h h2⟩
  · rw [h1]; exact ⟨fun _ => h2, fun _ => by omega⟩

set_option maxRecDepth 100000 in
set_option maxHeartbeats 4000000 in
theorem rfind_fn (A : Option Addr) (n c : Nat) (P : Nat → PrV) (id : Int) (w : World) (hR : RdP w A n P) : Calls Tryd.prog 24 #[.slice A n c, .int .i64 id] w fun e w' => e = .returned (.int .i64 (findN P id n)) ∧ w = w' := by
  have hn := hR.small
  replace hR := Lib.hid hR
  obtain ⟨r, hr⟩ : ∃ r, r = findN P id n := ⟨_, rfl⟩
  rw [← hr]
  replace hr := Lib.hid hr
  go_enter Tryd.func24, Tryd.ntmps24
  go_wp2
  go_loopg [5] n (fun gx s5 wr => ∃ j : Nat, j ≤ n ∧ gx = n - j ∧ s5 = .int .i64 j ∧ wr = w ∧ Hid (∀ t, t < j → (P t).k ≠ id))
  case atStart => exact ⟨0, Nat.zero_le _, rfl, rfl, rfl, fun t h => absurd h (Nat.not_lt_zero _)⟩
  case round =>
    obtain ⟨j, hj, rfl, rfl, rfl, NO⟩ := hrel
    by_cases hlt : j < n
    · obtain ⟨b, off, hA, ca⟩ := hR.out.adr (by omega)
      subst hA
      have q1 := atR b off n c j hlt
      have x0 := (ca j hlt).e0
      clear ca
      by_cases hk : (P j).k = id
      · have e : r = (j : Int) := by rw [hr.out]; exact find_at hk NO.out hlt
        obtain ⟨k, hkk⟩ : ∃ k, k = (P j).k := ⟨_, rfl⟩
        rw [← hkk] at x0 hk
        replace hkk := Lib.hid hkk
        subst hk
        subst e
        go_wp2
        go_ret
        exact ⟨rfl, rfl⟩
      · have NO2 : Hid (∀ t, t < j + 1 → (P t).k ≠ id) := fun t ht => by
          by_cases e : t = j
          · rw [e]; exact hk
          · exact NO.out t (by omega)
        obtain ⟨k, hkk⟩ : ∃ k, k = (P j).k := ⟨_, rfl⟩
        rw [← hkk] at x0 hk
        replace hkk := Lib.hid hkk
        go_wp2
        go_roundg (n - (j + 1))
        case measure => omega
        case rel => exact ⟨j + 1, hlt, rfl, by go_num, rfl, NO2⟩
    · obtain rfl : j = n := by omega
      have e : r = -1 := by rw [hr.out]; exact find_no NO.out
      subst e
      go_wp2
      go_ret
      exact ⟨rfl, rfl⟩
theorem wo_succ (P : Nat → PrV) (id : Int) (j : Nat) : woL (lst P (j + 1)) id = if (P j).k = id then woL (lst P j) id else woL (lst P j) id ++ [P j] := by
  unfold woL
  rw [lst_succ, List.filter_append]
  by_cases h : (P j).k = id
  · rw [if_pos h, List.filter_cons_of_neg (by simpa using h)]
    simp
  · rw [if_neg h, List.filter_cons_of_pos (by simpa using h)]
    rfl
theorem lst_ok {P : Nat → PrV} {n : Nat} (h : ∀ j, j < n → PrOk (P j)) : ∀ x ∈ lst P n, PrOk x := fun x hx => by
  obtain ⟨j, hj, rfl⟩ := lst_mem.1 hx
  exact h j hj
theorem row_ok {L : List PrV} (h : ∀ x ∈ L, PrOk x) : ∀ j, j < L.length → PrOk (row L j) := fun j hj => by
  unfold row
  rw [List.getD_eq_getElem?_getD, List.getElem?_eq_getElem hj]
  exact h _ (List.getElem_mem hj)

set_option maxRecDepth 100000 in
set_option maxHeartbeats 4000000 in
theorem rremove_fn (A : Option Addr) (n c : Nat) (P : Nat → PrV) (id : Int) (w : World) (hR : RdP w A n P) (hn : n ≤ 1000) :
    Calls Tryd.prog 29 #[.slice A n c, .int .i64 id] w fun e w' => ∃ B d, e = .returned (.slice B (woL (lst P n) id).length d) ∧ Keep w w' ∧ w'.ownsRow w.heap.size 30 2 (.slice B (woL (lst P n) id).length d) (woL (lst P n) id).length (prCs (row (woL (lst P n) id)) (woL (lst P n) id).length) := by
  replace hR := Lib.hid hR
  obtain ⟨L, hL⟩ : ∃ L, L = woL (lst P n) id := ⟨_, rfl⟩
  rw [← hL]
  rw [prCs_row]
  replace hL := Lib.hid hL
  go_enter Tryd.func29, Tryd.ntmps29
  go_wp2
  go_loopg [5, 6] n (fun gx s5 s6 wr => ∃ (j k : Nat) (B : Option Addr) (d : Nat) (M : List PrV), j ≤ n ∧ gx = n - j ∧ s6 = .int .i64 j ∧ s5 = .slice B k d ∧ k ≤ j ∧ Hid (Keep w wr) ∧ Hid (wr.ownsRow w.heap.size 30 2 (.slice B k d) k (M.flatMap PrV.cells)) ∧ Hid (M = woL (lst P j) id) ∧ Hid (M.length = k))
  case atStart => exact ⟨0, 0, none, 0, [], Nat.zero_le _, rfl, rfl, rfl, Nat.le_refl _, Keep.refl _, World.ownsRow_nil _ _ _ _, rfl, rfl⟩
  case round =>
    obtain ⟨j, k, B, d, M, hj, rfl, rfl, rfl, hkj, G, RW, LT, LN⟩ := hrel
    by_cases hlt : j < n
    · have R2 := hR.out.keep G.out
      obtain ⟨b, off, hA, ca⟩ := R2.adr (by omega)
      subst hA
      have q1 := atR b off n c j hlt
      have X := ca j hlt
      clear ca
      replace R2 := Lib.hid R2
      have hs := wo_succ P id j
      obtain ⟨x, hx⟩ : ∃ x, x = P j := ⟨_, rfl⟩
      rw [← hx] at X hs
      replace hx := Lib.hid hx
      have x0 := X.e0; have x1 := X.e1
      clear X
      have gsz : Hid (w.heap.size ≤ wr.heap.size) := G.out.size
      by_cases hk : x.k = id
      · rw [if_pos hk] at hs
        have L2 : Hid (M = woL (lst P (j + 1)) id) := by show _ = _; rw [hs, LT.out]
        replace hs := Lib.hid hs
        obtain ⟨z, hz⟩ : ∃ z, z = x.k := ⟨_, rfl⟩
        rw [← hz] at x0 hk
        replace hz := Lib.hid hz
        subst hk
        clear x1
        go_wp2
        go_roundg (n - (j + 1))
        case measure => omega
        case rel => exact ⟨j + 1, k, B, d, M, hlt, rfl, by go_num, rfl, by omega, G, RW, L2, LN⟩
      · rw [if_neg hk] at hs
        have L2 : Hid (M ++ [x] = woL (lst P (j + 1)) id) := by show _ = _; rw [hs, LT.out]
        have LN2 : Hid ((M ++ [x]).length = k + 1) := by show _ = _; rw [List.length_append, LN.out]; rfl
        have FM : Hid ((M ++ [x]).flatMap PrV.cells = M.flatMap PrV.cells ++ x.cells) := by show _ = _; rw [List.flatMap_append, List.flatMap_singleton]
        replace hs := Lib.hid hs
        go_wp2_with (at_builtin; refine wpl_own Tryd.tyR10 rfl _ _ rfl w.heap.size (.slice B k d) k (M.flatMap PrV.cells) (by simp [Act.eval]) (own_keep RW.out (Keep.one _ _)) (.slice (some ⟨wr.heap.size, 0, none⟩) 1 1) 1 x.cells (by simp [Act.eval]) (src_one (heap_alloc_new _ _)) (cells_one _) (by omega) (by rw [World.size_alloc]; have := gsz.out; omega) (k + 1) rfl ?_; intro v3 w3 hr3 hg3)
        have K3 : Hid (Keep w w3) := keep_grown (G.out.trans (Keep.one _ _)) hg3 (fun q hq => (RW.out.lt q hq).1)
        obtain ⟨B4, d4, hB4, _⟩ := own_form hr3
        subst hB4
        rw [← FM.out] at hr3
        replace hr3 := Lib.hid hr3
        replace hg3 := Lib.hid hg3
        clear x0 x1 q1
        go_wp2
        go_roundg (n - (j + 1))
        case measure => omega
        case rel => exact ⟨j + 1, k + 1, B4, d4, M ++ [x], hlt, rfl, by go_num, rfl, by omega, K3, hr3, L2, LN2⟩
    · obtain rfl : j = n := by omega
      obtain rfl : M = L := by rw [hL.out, LT.out]
      obtain rfl : k = M.length := LN.out.symm
      go_wp2
      go_ret
      exact ⟨B, d, rfl, G.out, RW.out⟩
theorem infoZ10 : (Tryd.prog.info? 3).map (fun i => (i.zero, i.size, i.bytes)) = some (some (.int .i64 0), 1, 8) := by kernel_rfl
def iz (x : Int) : Value := .int .i64 x
section
variable {ops : Array Oper} {rest : List Oper} {o : Oper} {a : Act} {w : World} {Q : Exit → Act → World → Prop}
/-- An append of one number to a row of the call's own. -/
theorem wpl_int (hgd : o.guard = none) (s x : Operand) (ho : o.op = .call { callee := .builtin .append, args := #[s, x], argTypes := #[34, 34] })
    (base : Nat) (v : Value) (n : Nat) (xs : List Value) (hs : a.eval s = v) (hown : w.ownsRow base 3 1 v n xs) (k : Nat) (z : Int) (hx : a.eval x = .slice (some ⟨k, 0, none⟩) 1 1) (hsrc : w.heap[k]? = some (.cells #[.int .i64 z] 3 (0, 0)))
    (hlim : n + 1 ≤ 1048577) (hbase : base ≤ w.heap.size)
    (h : ∀ v' w', w'.ownsRow base 3 1 v' (n + 1) (xs ++ [iz z]) → w.grownBy w' v.ownBlock → wpList Tryd.prog ops Q rest (a.put o.dst v') w') : wpList Tryd.prog ops Q (o :: rest) a w := by
  obtain ⟨i0, hi0, hz0, hz1, hz2⟩ := info_parts infoZ10
  exact wpList_append_own (P := Tryd.prog) w hgd s x 34 ho base 3 i0 _ 1 8 Tryd.underlying34 hi0 hz0 hz1 hz2 rfl (by decide) v n xs hs hown ⟨k, 0, none⟩ 1 1 [iz z] hx rfl (fun j u hu => by
    rw [WideShapes.add_plain, Nat.zero_add, cell_of_row w k j _ _ _ hsrc, List.getElem?_toArray]; exact hu) (by simp [iz, Value.oneCell']) (by unfold maxLen; omega) (by omega) hbase fun v' w' h2 h3 _ => h v' w' h2 h3
end
def zl (P : Nat → PrV) (n : Nat) : List Value := (lst P n).map fun x => iz x.k
theorem zl_succ (P : Nat → PrV) (n : Nat) : zl P (n + 1) = zl P n ++ [iz (P n).k] := by unfold zl; rw [lst_succ, List.map_append]; rfl

set_option maxRecDepth 100000 in
set_option maxHeartbeats 4000000 in
theorem rids_fn (A : Option Addr) (n c : Nat) (P : Nat → PrV) (w : World) (hR : RdP w A n P) (hn : n ≤ 1000) :
    Calls Tryd.prog 13 #[.slice A n c] w fun e w' => ∃ B d, e = .returned (.slice B n d) ∧ Keep w w' ∧ w'.ownsRow w.heap.size 3 1 (.slice B n d) n (zl P n) := by
  replace hR := Lib.hid hR
  go_enter Tryd.func13, Tryd.ntmps13
  go_wp2
  go_loopg [3, 4] n (fun gx s3 s4 wr => ∃ (j : Nat) (B : Option Addr) (d : Nat), j ≤ n ∧ gx = n - j ∧ s4 = .int .i64 j ∧ s3 = .slice B j d ∧ Hid (Keep w wr) ∧ Hid (wr.ownsRow w.heap.size 3 1 (.slice B j d) j (zl P j)))
  case atStart => exact ⟨0, none, 0, Nat.zero_le _, rfl, rfl, rfl, Keep.refl _, World.ownsRow_nil _ _ _ _⟩
  case round =>
    obtain ⟨j, B, d, hj, rfl, rfl, rfl, G, RW⟩ := hrel
    by_cases hlt : j < n
    · have R2 := hR.out.keep G.out
      obtain ⟨b, off, hA, ca⟩ := R2.adr (by omega)
      subst hA
      have q1 := atR b off n c j hlt
      have X := ca j hlt
      clear ca
      replace R2 := Lib.hid R2
      have hs := zl_succ P j
      obtain ⟨x, hx⟩ : ∃ x, x = P j := ⟨_, rfl⟩
      rw [← hx] at X hs
      replace hx := Lib.hid hx
      replace hs := Lib.hid hs
      have x0 := X.e0
      clear X
      have gsz : Hid (w.heap.size ≤ wr.heap.size) := G.out.size
      go_wp2_with (at_builtin; refine wpl_int rfl _ _ rfl w.heap.size (.slice B j d) j (zl P j) (by simp [Act.eval]) (own_keep RW.out (Keep.one _ _)) wr.heap.size x.k (by simp [Act.eval]) (heap_alloc_new _ _) (by omega) (by rw [World.size_alloc]; have := gsz.out; omega) ?_; intro v3 w3 hr3 hg3)
      have K3 : Hid (Keep w w3) := keep_grown (G.out.trans (Keep.one _ _)) hg3 (fun q hq => (RW.out.lt q hq).1)
      obtain ⟨B4, d4, hB4, _⟩ := own_form hr3
      subst hB4
      rw [← hs.out] at hr3
      replace hr3 := Lib.hid hr3
      replace hg3 := Lib.hid hg3
      clear x0 q1
      go_wp2
      go_roundg (n - (j + 1))
      case measure => omega
      case rel => exact ⟨j + 1, B4, d4, hlt, rfl, by go_num, rfl, K3, hr3⟩
    · obtain rfl : j = n := by omega
      go_wp2
      go_ret
      exact ⟨B, d, rfl, G.out, RW.out⟩
end Go.Proofs.YtfjghbgmjpdpbaaDoor.T10
