/-
  The reference's Add. Conditions: at most 1000 nodes, sorted; at most 1000 amounts.
-/
import Derived.Test.YtokopegffeablaaGreatDoorAmtN12
import Derived.Deep.CutBlock
namespace Go.Proofs.YtokopegffeablaaGreatDoor.T12
open Go.RowKit Go.Sort Go.Lib V12

theorem cel_laid (w : World) (x : RnV) (T : TypeId) (cs : Array Value) (h : cs = #[.int .i64 x.k, .slice x.A x.n x.c, .slice x.B x.m x.d]) : CelN (w.alloc (.cells cs T)) w.heap.size 0 x := by
  subst h
  constructor <;> simp [World.cell?_alloc_new]
theorem hp2 (w : World) (o : Obj) (cs : Array Value) (T : TypeId) : ((w.alloc o).alloc (.cells cs T)).heap[w.heap.size + 1]? = some (.cells cs T (0, 0)) := by
  have := heap_alloc_new (w.alloc o) (.cells cs T)
  rwa [World.size_alloc] at this
theorem hp1 (w : World) (o : Obj) (cs : Array Value) (T : TypeId) : ((w.alloc (.cells cs T)).alloc o).heap[w.heap.size]? = some (.cells cs T (0, 0)) := (Keep.one _ _).block (heap_alloc_new w _)
section
variable {w W : World} {b off n c : Nat} {P : Nat → RnV}
theorem src_lo (h : ∀ j, j < n → CelN w b (off + j * 3) (P j)) {i : Nat} (hi : i ≤ n) (k : Keep w W) : SrcC W (.slice (some ⟨b, off, none⟩) i c) i (rnCs P i) :=
  src_part (off := off) (i := 0) (fun j hj => by rw [Nat.zero_add]; exact (h j (by omega)).keep k) off (Or.inr (by omega))
theorem src_hi (h : ∀ j, j < n → CelN w b (off + j * 3) (P j)) {i : Nat} (hi : i ≤ n) (hc : n ≤ c) (k : Keep w W) : SrcC W (.slice (if c = i then some ⟨b, off, none⟩ else some ⟨b, off + i * 3, none⟩) (n - i) (c - i)) (n - i) (rnCs (fun t => P (i + t)) (n - i)) := by
  by_cases he : c = i
  · rw [if_pos he]
    exact src_part (off := off) (i := i) (fun j hj => (h (i + j) (by omega)).keep k) off (Or.inl (by omega))
  · rw [if_neg he]
    exact src_part (off := off) (i := i) (fun j hj => (h (i + j) (by omega)).keep k) _ (Or.inr rfl)
theorem src_all (h : ∀ j, j < n → CelN w b (off + j * 3) (P j)) (k : Keep w W) : SrcC W (.slice (some ⟨b, off, none⟩) n c) (n - 0) (rnCs (fun t => P (0 + t)) (n - 0)) := by
  have := src_lo (c := c) h (Nat.le_refl n) k
  rw [Nat.sub_zero, rnCs_congr (R := P) n (fun t _ => by rw [Nat.zero_add])]
  exact this
end
theorem wp_amounts {o : Oper} {a : Act} {w : World} {K : Act → World → Prop} {Q : Exit → Act → World → Prop} (s x : Operand) (ho : o.op = .call { callee := .builtin .append, args := #[s, x], argTypes := #[30, 30] })
    (base : Nat) (v : Value) (hs : a.eval s = v) (hown : w.ownsRow base 2 1 v 0 []) (A : Option Addr) (m c : Nat) (Z : Nat → Int) (hx : a.eval x = .slice A m c) (hr : Rd w A m Z) (h0 : A = none → m = 0 ∧ c = 0)
    (hlim : m ≤ 1048576) (hbase : base ≤ w.heap.size)
    (h : ∀ v' w', w'.ownsRow base 2 1 v' m (rowL m Z) → w.grownBy w' v.ownBlock → K (a.put o.dst v') w') : Oper.wp Tryz.prog o a w K Q := by
  obtain ⟨i0, hi0, hz0, hz1, hz2⟩ := info_parts Tryz.infoN12
  cases A with
  | none =>
    obtain ⟨rfl, rfl⟩ := h0 rfl
    have hrun := run_append_owned_none (P := Tryz.prog) (w := w) base 30 o.type 2 i0 1 Tryz.underlying30 hi0 v 0 [] hown
    have hg : w.grownBy w v.ownBlock := ⟨rfl, rfl, rfl, Nat.le_refl _, fun _ _ _ => rfl⟩
    have := h v w hown hg
    unfold Oper.wp
    simp [execOp, ho, resolve, invoke, builtin, hs, hx, hrun, Result.andThen]
    exact this
  | some ad =>
    refine wp_append_own (P := Tryz.prog) w s x 30 ho base 2 i0 _ 1 8 Tryz.underlying30 hi0 hz0 hz1 hz2 rfl (by decide) v 0 [] hs hown ad m c (rowL m Z) hx (by simp [rowL]) (news_of hr) (rowL_one m Z) (by unfold maxLen; omega) (by omega) hbase fun v' w' h2 h3 _ => h v' w' ?_ h3
    rw [Nat.zero_add, List.nil_append] at h2
    exact h2
theorem lt_of_block {w : World} {k : Nat} {o : Obj} (h : w.heap[k]? = some o) : k < w.heap.size := (Array.getElem?_eq_some_iff.1 h).1
theorem tri_set {w : World} {s : Nat} {p q r u : Value} {T : TypeId} (h : w.heap[s]? = some (.cells #[p, q, r] T (0, 0))) :
    (w.setCell ⟨s, 0, none⟩ u).heap[s]? = some (.cells #[u, q, r] T (0, 0)) ∧ (w.setCell ⟨s, 1, none⟩ u).heap[s]? = some (.cells #[p, u, r] T (0, 0)) ∧ (w.setCell ⟨s, 2, none⟩ u).heap[s]? = some (.cells #[p, q, u] T (0, 0)) := by
  have hlt := lt_of_block h
  have h' : w.heap[s] = .cells #[p, q, r] T (0, 0) := by simpa [Array.getElem?_eq_getElem hlt] using h
  refine ⟨?_, ?_, ?_⟩
  all_goals
    show (w.heap.modify s _)[s]? = _
    rw [Array.getElem?_eq_getElem (by simpa using hlt), Array.getElem_modify_self, h']
    rfl
theorem set3N {w : World} {s : Nat} {p q r a b c : Value} {T : TypeId} (h : w.heap[s]? = some (.cells #[p, q, r] T (0, 0))) : (((w.setCell ⟨s, 0, none⟩ a).setCell ⟨s, 1, none⟩ b).setCell ⟨s, 2, none⟩ c).heap[s]? = some (.cells #[a, b, c] T (0, 0)) := (tri_set (tri_set (tri_set h).1).2.1).2.2
theorem set3_other {w : World} {s k : Nat} {a b c : Value} (h : k ≠ s) : (((w.setCell ⟨s, 0, none⟩ a).setCell ⟨s, 1, none⟩ b).setCell ⟨s, 2, none⟩ c).heap[k]? = w.heap[k]? := by
  rw [Below.heap_setCell _ _ _ _ h, Below.heap_setCell _ _ _ _ h, Below.heap_setCell _ _ _ _ h]
theorem celN {w : World} {s : Nat} {p q r : Value} {T : TypeId} (h : w.heap[s]? = some (.cells #[p, q, r] T (0, 0))) : w.cell? ⟨s, 0, none⟩ = some p ∧ w.cell? ⟨s, 1, none⟩ = some q ∧ w.cell? ⟨s, 2, none⟩ = some r ∧ ∀ i, w.frozen? ⟨s, i, none⟩ = false := by
  refine ⟨?_, ?_, ?_, fun i => frozen_of_row w s i _ _ h⟩ <;> rw [cell_of_row w s _ _ _ _ h] <;> rfl
theorem row_ne {w : World} {b n z k : Nat} {e1 e2 : TypeId} {v : Value} {xs : List Value} {cs : Array Value} {fl : Nat × Nat} (h : w.ownsRow b e1 z v n xs) (hb : w.heap[k]? = some (.cells cs e2 fl)) (he : e1 ≠ e2) : ∀ g, v.ownBlock = some g → g ≠ k := by
  intro g hg e
  subst e
  rcases h.2 with ⟨rfl, _⟩ | ⟨g1, c1, u1, rfl, _, k1, _⟩
  · simp [Value.ownBlock] at hg
  · simp [Value.ownBlock] at hg
    subst hg
    rw [hb] at k1
    simp at k1
    exact he k1.2.1.symm
theorem rd_made {w : World} {g n : Nat} (h : w.heap[g]? = some (.cells (madeCells #[.int .i64 0] n) 2 (0, 0))) (hn : n ≤ 1000) : Rd w (some ⟨g, 0, none⟩) n fun _ => 0 := by
  refine ⟨by omega, fun _ _ => by decide, fun _ => ⟨g, 0, rfl, fun j hj => ?_⟩⟩
  have hs : (madeCells #[.int .i64 0] n).size = n := by simp [madeCells]
  rw [Nat.zero_add, cell_of_row w g j _ _ _ h, Array.getElem?_eq_getElem (by omega)]
  simp [madeCells, Nat.mod_one]
theorem radd_end {w wc w5 : World} {d : Nat} {B : Option Addr} {cp : Nat} {l : List RnV} (h : RL w d B cp l) (x : RnV) (hx : NIs wc d x) (ok : RnOk x) {v : NodeV} (hv : node x = v) (kx : Keep w wc) (k5 : Keep wc w5) {N : Nat} {P : Nat → RnV} (hN : N = l.length) (hP : lst P N = l) (hl : N ≤ 1000) {base : Nat} {B5 : Option Addr} {d5 : Nat}
    (ho : w5.ownsRow base 42 3 (.slice B5 (N + 1) d5) (N + 1) (rnCs (row (insL x (lst P N))) (N + 1))) :
    ∃ B' c' l', Ending.returned (.tuple #[.slice B5 (N + 1) d5, .int .i64 0, .int .i64 0]) = .returned (.tuple #[.slice B' l'.length c', .int .i64 0, .int .i64 0]) ∧ Keep w w5 ∧ RL w5 d B' c' l' ∧ l'.map node = G.ins NodeV.k v (l.map node) := by
  rw [hP] at ho
  have el : (insL x l).length = N + 1 := by rw [ins_len, hN]
  refine ⟨B5, d5, insL x l, by rw [el], kx.trans k5, ⟨?_, ?_, ?_, fun y hy => ?_, typ_own ho⟩, by rw [map_ins, hv]⟩
  · rw [el]
    refine rows_rd ho (by omega) fun j hj => ?_
    have hm : row (insL x l) j ∈ insL x l := by
      unfold row
      rw [List.getD_eq_getElem?_getD, List.getElem?_eq_getElem (by omega)]
      exact List.getElem_mem _
    rcases ins_mem.1 hm with e | e
    · rw [e]; exact ok
    · obtain ⟨i, hi, e2⟩ := List.mem_iff_getElem.1 e
      have := h.rd.ok i hi
      unfold row at this
      rw [List.getD_eq_getElem?_getD, List.getElem?_eq_getElem hi] at this
      rw [← e2]
      exact this
  · rw [el]; exact own_cap ho
  · rcases ho.2 with ⟨hv, h0⟩ | ⟨g, cap, cur, hv, _⟩
    · omega
    · simp only [Value.slice.injEq] at hv
      exact Or.inr ⟨g, 0, hv.1⟩
  · rcases ins_mem.1 hy with rfl | hy
    · exact hx.keep k5
    · exact (h.is y hy).keep (kx.trans k5)
set_option maxRecDepth 100000 in
set_option maxHeartbeats 16000000 in
theorem radd_wrong {w : World} {d : Nat} {B : Option Addr} {cp : Nat} {l : List RnV} (h : RL w d B cp l) (s k : Int) (A : Option Addr) (n c : Nat) (Z : Nat → Int) (hA : Rd w A n Z) (hwq : 0 ≤ wrongOf n Z d) :
    Calls Tryz.prog 22 #[.slice B l.length cp, .int .i64 d, .int .i64 s, .agg #[.int .i64 k, .slice A n c]] w fun e w' => ∃ B' c' l', e = .returned (.tuple #[.slice B' l'.length c', .int .i64 3, .int .i64 (wrongOf n Z d)]) ∧ Keep w w' ∧ RL w' d B' c' l' ∧ l'.map node = l.map node := by
  obtain ⟨W, hW⟩ : ∃ W, W = w.alloc (.cells #[.int .i64 k, .slice A n c] 36) := ⟨_, rfl⟩
  have KW : Hid (Keep w W) := by rw [hW]; exact Keep.one _ _
  have u0 : W.cell? ⟨w.heap.size, 0, none⟩ = some (.int .i64 k) := by rw [hW]; simp [go_sem]
  have u1 : W.cell? ⟨w.heap.size, 1, none⟩ = some (.slice A n c) := by rw [hW]; simp [go_sem]
  have rdA : Hid (Rd W A n Z) := hA.keep KW.out
  have cW := Lib.hid (rwrong_any A n c Z d W rdA.out)
  have cF := Lib.hid (rfind_fn B l.length cp (row l) k W (h.rd.keep KW.out))
  obtain ⟨wr0, hwr0⟩ : ∃ z, z = wrongOf n Z d := ⟨_, rfl⟩
  rw [← hwr0] at cW hwq ⊢
  replace hwr0 := Lib.hid hwr0
  have fin : Hid (RL W d B cp l) := h.keep KW.out
  clear h hA
  go_enter Tryz.func22, Tryz.ntmps22
  go_wp2_with fail
  rw [← hW]
  replace hW := Lib.hid hW
  refine cW.out.mono ?_
  rintro e w1 ⟨rfl, rfl⟩
  go_wp2
  go_ret3
  exact ⟨B, cp, l, rfl, KW.out, fin.out, rfl⟩
set_option maxRecDepth 100000 in
set_option maxHeartbeats 16000000 in
theorem radd_dup {w : World} {d : Nat} {B : Option Addr} {cp : Nat} {l : List RnV} (h : RL w d B cp l) (s k : Int) (A : Option Addr) (n c : Nat) (Z : Nat → Int) (hA : Rd w A n Z) (hwq : ¬ 0 ≤ wrongOf n Z d) (hk : k ∈ keys l) :
    Calls Tryz.prog 22 #[.slice B l.length cp, .int .i64 d, .int .i64 s, .agg #[.int .i64 k, .slice A n c]] w fun e w' => ∃ B' c' l', e = .returned (.tuple #[.slice B' l'.length c', .int .i64 6, .int .i64 0]) ∧ Keep w w' ∧ RL w' d B' c' l' ∧ l'.map node = l.map node := by
  obtain ⟨W, hW⟩ : ∃ W, W = w.alloc (.cells #[.int .i64 k, .slice A n c] 36) := ⟨_, rfl⟩
  have KW : Hid (Keep w W) := by rw [hW]; exact Keep.one _ _
  have u0 : W.cell? ⟨w.heap.size, 0, none⟩ = some (.int .i64 k) := by rw [hW]; simp [go_sem]
  have u1 : W.cell? ⟨w.heap.size, 1, none⟩ = some (.slice A n c) := by rw [hW]; simp [go_sem]
  have rdA : Hid (Rd W A n Z) := hA.keep KW.out
  have cW := Lib.hid (rwrong_any A n c Z d W rdA.out)
  have cF := Lib.hid (rfind_fn B l.length cp (row l) k W (h.rd.keep KW.out))
  obtain ⟨wr0, hwr0⟩ : ∃ z, z = wrongOf n Z d := ⟨_, rfl⟩
  rw [← hwr0] at cW hwq
  replace hwr0 := Lib.hid hwr0
  have fk := find_iff (P := row l) (id := k) (n := l.length)
  rw [lst_row] at fk
  obtain ⟨r, hr⟩ : ∃ r, r = findN (row l) k l.length := ⟨_, rfl⟩
  rw [← hr] at cF fk
  replace hr := Lib.hid hr
  have hin : 0 ≤ r := fk.2 hk
  replace fk := Lib.hid fk
  have fin : Hid (RL W d B cp l) := h.keep KW.out
  clear h hA
  go_enter Tryz.func22, Tryz.ntmps22
  go_wp2_with fail
  rw [← hW]
  replace hW := Lib.hid hW
  refine cW.out.mono ?_
  rintro e w1 ⟨rfl, rfl⟩
  go_wp2_with fail
  refine cF.out.mono ?_
  rintro e w1 ⟨rfl, rfl⟩
  go_wp2
  go_ret3
  exact ⟨B, cp, l, rfl, KW.out, fin.out, rfl⟩
set_option maxRecDepth 100000 in
set_option maxHeartbeats 16000000 in
theorem radd_full {w : World} {d : Nat} {B : Option Addr} {cp : Nat} {l : List RnV} (h : RL w d B cp l) (s k : Int) (A : Option Addr) (n c : Nat) (Z : Nat → Int) (hA : Rd w A n Z) (hwq : ¬ 0 ≤ wrongOf n Z d) (hk : k ∉ keys l) (hf : s ≤ l.length) :
    Calls Tryz.prog 22 #[.slice B l.length cp, .int .i64 d, .int .i64 s, .agg #[.int .i64 k, .slice A n c]] w fun e w' => ∃ B' c' l', e = .returned (.tuple #[.slice B' l'.length c', .int .i64 7, .int .i64 0]) ∧ Keep w w' ∧ RL w' d B' c' l' ∧ l'.map node = l.map node := by
  obtain ⟨W, hW⟩ : ∃ W, W = w.alloc (.cells #[.int .i64 k, .slice A n c] 36) := ⟨_, rfl⟩
  have KW : Hid (Keep w W) := by rw [hW]; exact Keep.one _ _
  have u0 : W.cell? ⟨w.heap.size, 0, none⟩ = some (.int .i64 k) := by rw [hW]; simp [go_sem]
  have u1 : W.cell? ⟨w.heap.size, 1, none⟩ = some (.slice A n c) := by rw [hW]; simp [go_sem]
  have rdA : Hid (Rd W A n Z) := hA.keep KW.out
  have cW := Lib.hid (rwrong_any A n c Z d W rdA.out)
  have cF := Lib.hid (rfind_fn B l.length cp (row l) k W (h.rd.keep KW.out))
  obtain ⟨wr0, hwr0⟩ : ∃ z, z = wrongOf n Z d := ⟨_, rfl⟩
  rw [← hwr0] at cW hwq
  replace hwr0 := Lib.hid hwr0
  have fk := find_iff (P := row l) (id := k) (n := l.length)
  rw [lst_row] at fk
  obtain ⟨r, hr⟩ : ∃ r, r = findN (row l) k l.length := ⟨_, rfl⟩
  rw [← hr] at cF fk
  replace hr := Lib.hid hr
  have hin : r < 0 := by have := mt fk.1 hk; omega
  replace fk := Lib.hid fk
  have fin : Hid (RL W d B cp l) := h.keep KW.out
  clear h hA
  go_enter Tryz.func22, Tryz.ntmps22
  go_wp2_with fail
  rw [← hW]
  replace hW := Lib.hid hW
  refine cW.out.mono ?_
  rintro e w1 ⟨rfl, rfl⟩
  go_wp2_with fail
  refine cF.out.mono ?_
  rintro e w1 ⟨rfl, rfl⟩
  go_wp2
  go_ret3
  exact ⟨B, cp, l, rfl, KW.out, fin.out, rfl⟩
set_option maxRecDepth 100000 in
set_option maxHeartbeats 16000000 in
theorem radd_new {w : World} {d : Nat} {B : Option Addr} {cp : Nat} {l : List RnV} (h : RL w d B cp l) (s k : Int) (A : Option Addr) (n c : Nat) (Z : Nat → Int) (hA : Rd w A n Z) (nilA : A = none → n = 0 ∧ c = 0) (hd : d ≤ 1000) (hl : l.length ≤ 1000) (hwq : ¬ 0 ≤ wrongOf n Z d) (hk : k ∉ keys l) (hf : ¬ s ≤ l.length) (hs : Srt l) (hkr : I64 k) :
    Calls Tryz.prog 22 #[.slice B l.length cp, .int .i64 d, .int .i64 s, .agg #[.int .i64 k, .slice A n c]] w fun e w' => ∃ B' c' l', e = .returned (.tuple #[.slice B' l'.length c', .int .i64 0, .int .i64 0]) ∧ Keep w w' ∧ RL w' d B' c' l' ∧ l'.map node = G.ins NodeV.k ⟨k, Z, fun _ => 0⟩ (l.map node) := by
  have mixed : Tryz.prog.follows .mixedOrders = true := by kernel_rfl
  have hmk := run_make_row' (P := Tryz.prog) 30 2 (.int .i64 0) 8 Tryz.underlying30 Tryz.infoN12 rfl .i64 .i64 n
  have hnd := (wrong_no hwq).1
  subst hnd
  have hmk2 := hmk (by omega) (by omega)
  clear hmk
  obtain ⟨W, hW⟩ : ∃ W, W = w.alloc (.cells #[.int .i64 k, .slice A n c] 36) := ⟨_, rfl⟩
  have KW : Hid (Keep w W) := by rw [hW]; exact Keep.one _ _
  have u0 : W.cell? ⟨w.heap.size, 0, none⟩ = some (.int .i64 k) := by rw [hW]; simp [go_sem]
  have u1 : W.cell? ⟨w.heap.size, 1, none⟩ = some (.slice A n c) := by rw [hW]; simp [go_sem]
  have rdA : Hid (Rd W A n Z) := hA.keep KW.out
  have cW := Lib.hid (rwrong_any A n c Z n W rdA.out)
  have cF := Lib.hid (rfind_fn B l.length cp (row l) k W (h.rd.keep KW.out))
  obtain ⟨wr0, hwr0⟩ : ∃ z, z = wrongOf n Z n := ⟨_, rfl⟩
  rw [← hwr0] at cW hwq
  replace hwr0 := Lib.hid hwr0
  have fk := find_iff (P := row l) (id := k) (n := l.length)
  rw [lst_row] at fk
  obtain ⟨r, hr⟩ : ∃ r, r = findN (row l) k l.length := ⟨_, rfl⟩
  rw [← hr] at cF fk
  replace hr := Lib.hid hr
  have hin : r < 0 := by have := mt fk.1 hk; omega
  replace fk := Lib.hid fk
  have RW := h.rd.keep KW.out
  have hLen := h.cap
  obtain ⟨N, hN⟩ : ∃ N, N = l.length := ⟨_, rfl⟩
  obtain ⟨P, hP⟩ : ∃ P, P = row l := ⟨_, rfl⟩
  have hlst : Hid (lst P N = l) := by rw [hP, hN]; exact lst_row l
  have hpl := h.pl
  rw [← hN] at hf RW cF hLen hl hpl ⊢
  rw [← hP] at RW
  replace hN := Lib.hid hN
  replace hP := Lib.hid hP
  replace nilA := Lib.hid nilA
  replace hkr := Lib.hid hkr
  replace hs := Lib.hid hs
  replace hk := Lib.hid hk
  have H := Lib.hid h
  clear h hA
  go_enter Tryz.func22, Tryz.ntmps22
  go_wp2_with fail
  rw [← hW]
  replace hW := Lib.hid hW
  refine cW.out.mono ?_
  rintro e w1 ⟨rfl, rfl⟩
  go_wp2_with fail
  refine cF.out.mono ?_
  rintro e w1 ⟨rfl, rfl⟩
  clear cF cW
  rcases hpl with ⟨rfl, rfl, rfl⟩ | ⟨b, off, rfl⟩
  · replace RW := Lib.hid RW
    go_wp2
    go_loopg [12] 0 (fun gx s8 wr => s8 = .int .i64 0 ∧ Hid (Gr w1 wr))
    case atStart => exact ⟨rfl, Gr.refl _⟩
    case round =>
      obtain ⟨rfl, GQ⟩ := hrel
      go_wp2_with fail
      go_quiet (fail)
      have G2 : Hid (Gr w1 (wr.drewN nq)) := GQ.out.drewN nq
      generalize wr.drewN nq = w2 at G2 ⊢
      have K2 : Hid (Keep w1 w2) := G2.out.keep
      have y0 := K2.out.cell u0
      have y1 := K2.out.cell u1
      have hbl := cell_lt y0
      go_upto_region 11 with fail
      go_cut [13] from 50 to 58 (fun s wx => ∃ (g g2 : Nat) (A' : Option Addr) (c' : Nat), s = .pointer (some ⟨g, 0, none⟩) ∧ Hid (Keep w2 wx) ∧ Hid (wx.heap[g]? = some (.cells #[.int .i64 k, .slice A' n c', .slice (some ⟨g2, 0, none⟩) n n] 42 (0, 0))) ∧ Hid (Rd wx A' n Z) ∧ Hid (Rd wx (some ⟨g2, 0, none⟩) n fun _ => 0) ∧ Hid (A' = none → n = 0 ∧ c' = 0))
      case first =>
        have HELD : ∀ Wz, Keep w2 Wz → (Wz.cell? ⟨w.heap.size, 0, none⟩ = some (.int .i64 k) ∧ Wz.cell? ⟨w.heap.size, 1, none⟩ = some (.slice A n c)) := fun Wz KK => ⟨KK.cell y0, KK.cell y1⟩
        refine wp_region_held_drew (S := fun w' => w'.cell? ⟨w.heap.size, 0, none⟩ = some (.int .i64 k) ∧ w'.cell? ⟨w.heap.size, 1, none⟩ = some (.slice A n c)) (by kernel_rfl) ?_ (fun hHeld => ?_)
        · exact HELD _ (Keep.refl w2).drew
        obtain ⟨wt0, hwt0⟩ : ∃ W, W = w2.drew := ⟨_, rfl⟩
        have Kwt0 : Hid (Keep w2 wt0) := by rw [hwt0]; exact (Keep.refl _).drew
        rw [← hwt0] at hHeld ⊢
        replace hwt0 := Lib.hid hwt0
        refine wpAnyH_take (i := 0) (v := .pointer (some ⟨w.heap.size, 0, none⟩)) rfl (by kernel_rfl) (by kernel_rfl) (by kernel_rfl) (fun _ _ _ h => h) (Or.inl ⟨by rfl, fun Wz hW => by obtain ⟨s0, s1⟩ := hW; go_simp⟩) hHeld ?_
        simp only [Act.put, List.getElem_toArray, List.getElem_cons_zero, List.setIfInBounds_toArray, List.set_cons_zero, List.set_cons_succ]
        refine wpAnyH_take (i := 1) (v := .int .i64 k) rfl (by kernel_rfl) (by kernel_rfl) (by kernel_rfl) (fun _ _ _ h => h) (Or.inl ⟨by rfl, fun Wz hW => by obtain ⟨s0, s1⟩ := hW; go_simp⟩) hHeld ?_
        simp only [Act.put, List.getElem_toArray, List.getElem_cons_succ, List.getElem_cons_zero, List.setIfInBounds_toArray, List.set_cons_zero, List.set_cons_succ]
        refine wpAnyH_take (i := 3) (v := .pointer (some ⟨w.heap.size, 1, none⟩)) rfl (by kernel_rfl) (by kernel_rfl) (by kernel_rfl) (fun _ _ _ h => h) (Or.inl ⟨by rfl, fun Wz hW => by obtain ⟨s0, s1⟩ := hW; go_simp⟩) hHeld ?_
        simp only [Act.put, List.getElem_toArray, List.getElem_cons_succ, List.getElem_cons_zero, List.setIfInBounds_toArray, List.set_cons_zero, List.set_cons_succ]
        refine wpAnyH_take (i := 4) (v := .slice A n c) rfl (by kernel_rfl) (by kernel_rfl) (by kernel_rfl) (fun _ _ _ h => h) (Or.inl ⟨by rfl, fun Wz hW => by obtain ⟨s0, s1⟩ := hW; go_simp⟩) hHeld ?_
        simp only [Act.put, List.getElem_toArray, List.getElem_cons_succ, List.getElem_cons_zero, List.setIfInBounds_toArray, List.set_cons_zero, List.set_cons_succ]
        refine wpAnyH_take (i := 6) (v := .int .i64 n) rfl (by kernel_rfl) (by kernel_rfl) (by kernel_rfl) (fun _ _ _ h => h) (Or.inl ⟨by rfl, fun Wz hW => by obtain ⟨s0, s1⟩ := hW; go_simp⟩) hHeld ?_
        simp only [Act.put, List.getElem_toArray, List.getElem_cons_succ, List.getElem_cons_zero, List.setIfInBounds_toArray, List.set_cons_zero, List.set_cons_succ]
        refine wpAnyH_ready (rs := [2, 7, 9]) (by kernel_rfl) (by simp) ?_
        refine (AllReadyH.cons rfl (fun K hK => ?_) (AllReadyH.cons rfl (fun K hK => ?_) (AllReadyH.cons rfl (fun K hK => ?_) AllReadyH.nil)))
        · simp only [List.getElem_toArray, List.getElem_cons_succ, List.getElem_cons_zero]
          rw [if_pos (by rfl)]
          go_simp
          obtain ⟨wt1, hwt1⟩ : ∃ W, W = wt0.alloc (.cells #[] 2) := ⟨_, rfl⟩
          have Jwt1 : Hid (Keep wt0 wt1) := by rw [hwt1]; exact Keep.one _ _
          have Kwt1 : Hid (Keep w2 wt1) := Kwt0.out.trans Jwt1.out
          have F2 : Hid (wt1.heap[wt0.heap.size]? = some (.cells #[] 2 (0, 0))) := by rw [hwt1]; exact heap_alloc_new _ _
          rw [← hwt1]
          replace hwt1 := Lib.hid hwt1
          refine hK.out _ _ (HELD _ Kwt1.out) (fun hHeld => ?_)
          clear hK K
          try simp only [Act.put, List.getElem_toArray, List.getElem_cons_succ, List.getElem_cons_zero, List.setIfInBounds_toArray, List.set_cons_zero, List.set_cons_succ]
          refine wpAnyH_ready (rs := [5, 7, 9]) (by kernel_rfl) (by simp) ?_
          refine (AllReadyH.cons rfl (fun K hK => ?_) (AllReadyH.cons rfl (fun K hK => ?_) (AllReadyH.cons rfl (fun K hK => ?_) AllReadyH.nil)))
          · simp only [List.getElem_toArray, List.getElem_cons_succ, List.getElem_cons_zero]
            rw [if_pos (by rfl)]
            refine wp_amounts (.tmp 52) (.tmp 54) rfl w2.heap.size (.slice (some ⟨wt0.heap.size, 0, none⟩) 0 0) (by simp [Act.eval]) (own_none (by have := Kwt0.out.size; omega) F2.out) A n c Z (by simp [Act.eval]) (rdA.out.keep (K2.out.trans Kwt1.out)) nilA.out (by omega) (Kwt1.out.size) ?_
            intro v6 wt2 hr6 hg6
            obtain ⟨A6, c6, hv6, nl6⟩ := own_form hr6
            subst hv6
            have Jwt2 : Hid (Keep w2 wt2) := keep_grown Kwt1.out hg6 (fun q hq => by simp [Value.ownBlock] at hq; have := Kwt0.out.size; omega)
            have Kwt2 : Hid (Keep w2 wt2) := Jwt2.out
            have nl6 := Lib.hid nl6
            have R6 : Hid (wt2.ownsRow w2.heap.size 2 1 (.slice A6 n c6) n (rowL n Z)) := hr6
            clear hr6
            replace hg6 := Lib.hid hg6
            clear F2
            refine hK.out _ _ (HELD _ Kwt2.out) (fun hHeld => ?_)
            clear hK K
            try simp only [Act.put, List.setIfInBounds_toArray, List.set_cons_zero, List.set_cons_succ]
            refine wpAnyH_ready (rs := [7, 9]) (by kernel_rfl) (by simp) ?_
            refine (AllReadyH.cons rfl (fun K hK => ?_) (AllReadyH.cons rfl (fun K hK => ?_) AllReadyH.nil))
            · simp only [List.getElem_toArray, List.getElem_cons_succ, List.getElem_cons_zero]
              rw [if_pos (by rfl)]
              go_simp
              obtain ⟨wt3, hwt3⟩ : ∃ W, W = wt2.alloc (.cells (madeCells #[.int .i64 0] n) 2) := ⟨_, rfl⟩
              have Jwt3 : Hid (Keep wt2 wt3) := by rw [hwt3]; exact Keep.one _ _
              have Kwt3 : Hid (Keep w2 wt3) := Kwt2.out.trans Jwt3.out
              replace R6 : Hid (wt3.ownsRow w2.heap.size 2 1 (.slice A6 n c6) n (rowL n Z)) := own_keep R6.out Jwt3.out
              have F7 : Hid (wt3.heap[wt2.heap.size]? = some (.cells (madeCells #[.int .i64 0] n) 2 (0, 0))) := by rw [hwt3]; exact heap_alloc_new _ _
              rw [← hwt3]
              replace hwt3 := Lib.hid hwt3
              refine hK.out _ _ (HELD _ Kwt3.out) (fun hHeld => ?_)
              clear hK K
              try simp only [Act.put, List.getElem_toArray, List.getElem_cons_succ, List.getElem_cons_zero, List.setIfInBounds_toArray, List.set_cons_zero, List.set_cons_succ]
              refine wpAnyH_take (i := 8) (v := .agg #[.int .i64 k, .slice A6 n c6, .slice (some ⟨wt2.heap.size, 0, none⟩) n n]) rfl (by kernel_rfl) (by kernel_rfl) (by kernel_rfl) (fun _ _ _ h => h) (Or.inl ⟨by rfl, fun Wz hW => by obtain ⟨s0, s1⟩ := hW; go_simp⟩) hHeld ?_
              simp only [Act.put, List.getElem_toArray, List.getElem_cons_succ, List.getElem_cons_zero, List.setIfInBounds_toArray, List.set_cons_zero, List.set_cons_succ]
              refine wpAnyH_ready (rs := [9]) (by kernel_rfl) (by simp) ?_
              refine (AllReadyH.cons rfl (fun K hK => ?_) AllReadyH.nil)
              simp only [List.getElem_toArray, List.getElem_cons_succ, List.getElem_cons_zero]
              rw [if_pos (by rfl)]
              go_simp
              obtain ⟨wt4, hwt4⟩ : ∃ W, W = wt3.alloc (.cells #[.int .i64 0, .slice none 0 0, .slice none 0 0] 42) := ⟨_, rfl⟩
              have Jwt4 : Hid (Keep wt3 wt4) := by rw [hwt4]; exact Keep.one _ _
              have Kwt4 : Hid (Keep w2 wt4) := Kwt3.out.trans Jwt4.out
              have L79 : Hid (wt2.heap.size < wt3.heap.size) := (Array.getElem?_eq_some_iff.1 F7.out).1
              replace R6 : Hid (wt4.ownsRow w2.heap.size 2 1 (.slice A6 n c6) n (rowL n Z)) := own_keep R6.out Jwt4.out
              replace F7 : Hid (wt4.heap[wt2.heap.size]? = some (.cells (madeCells #[.int .i64 0] n) 2 (0, 0))) := Jwt4.out.block F7.out
              have F9 : Hid (wt4.heap[wt3.heap.size]? = some (.cells #[.int .i64 0, .slice none 0 0, .slice none 0 0] 42 (0, 0))) := by rw [hwt4]; exact heap_alloc_new _ _
              rw [← hwt4]
              replace hwt4 := Lib.hid hwt4
              refine hK.out _ _ (HELD _ Kwt4.out) (fun hHeld => ?_)
              clear hK K
              try simp only [Act.put, List.getElem_toArray, List.getElem_cons_succ, List.getElem_cons_zero, List.setIfInBounds_toArray, List.set_cons_zero, List.set_cons_succ]
              refine wpAnyH_ready (rs := [10]) (by kernel_rfl) (by simp) ?_
              refine (AllReadyH.cons rfl (fun K hK => ?_) AllReadyH.nil)
              simp only [List.getElem_toArray, List.getElem_cons_succ, List.getElem_cons_zero]
              rw [if_pos (by rfl)]
              obtain ⟨c0, c1, c2, f0⟩ := celN F9.out
              go_simp
              obtain ⟨wt5, hwt5⟩ : ∃ W, W = ((wt4.setCell ⟨wt3.heap.size, 0, none⟩ (.int .i64 k)).setCell ⟨wt3.heap.size, 1, none⟩ (.slice A6 n c6)).setCell ⟨wt3.heap.size, 2, none⟩ (.slice (some ⟨wt2.heap.size, 0, none⟩) n n) := ⟨_, rfl⟩
              have Kwt5 : Hid (Keep w2 wt5) := by rw [hwt5]; have := Kwt3.out.size; exact ((Kwt4.out.set (by show _ ≤ wt3.heap.size; omega) _).set (by show _ ≤ wt3.heap.size; omega) _).set (by show _ ≤ wt3.heap.size; omega) _
              have R7 : Hid (wt5.ownsRow w2.heap.size 2 1 (.slice A6 n c6) n (rowL n Z)) := by rw [hwt5]; exact own_blocks1 R6.out fun g hg => set3_other (row_ne R6.out F9.out (by decide) g hg)
              have G7 : Hid (wt5.heap[wt2.heap.size]? = some (.cells (madeCells #[.int .i64 0] n) 2 (0, 0))) := by rw [hwt5]; exact (set3_other (by have := L79.out; omega)).trans F7.out
              have G9 : Hid (wt5.heap[wt3.heap.size]? = some (.cells #[.int .i64 k, .slice A6 n c6, .slice (some ⟨wt2.heap.size, 0, none⟩) n n] 42 (0, 0))) := by rw [hwt5]; exact set3N F9.out
              clear c0 c1 c2 f0
              rw [← hwt5]
              replace hwt5 := Lib.hid hwt5
              refine hK.out _ _ (HELD _ Kwt5.out) (fun hHeld => ?_)
              clear hK K
              try simp only [Act.put, List.getElem_toArray, List.getElem_cons_succ, List.getElem_cons_zero, List.setIfInBounds_toArray, List.set_cons_zero, List.set_cons_succ]
              refine wpAnyH_done (by kernel_rfl) ?_ _
              go_wp2_with fail
              go_meet
              case rel => exact ⟨wt3.heap.size, wt2.heap.size, A6, c6, rfl, Kwt5.out, G9.out, rd_own R7.out rdA.out.small rdA.out.range, rd_made G7.out (by omega), nl6.out⟩
            · simp only [List.getElem_toArray, List.getElem_cons_succ, List.getElem_cons_zero]
              rw [if_pos (by rfl)]
              go_simp
              obtain ⟨wt6, hwt6⟩ : ∃ W, W = wt2.alloc (.cells #[.int .i64 0, .slice none 0 0, .slice none 0 0] 42) := ⟨_, rfl⟩
              have Jwt6 : Hid (Keep wt2 wt6) := by rw [hwt6]; exact Keep.one _ _
              have Kwt6 : Hid (Keep w2 wt6) := Kwt2.out.trans Jwt6.out
              replace R6 : Hid (wt6.ownsRow w2.heap.size 2 1 (.slice A6 n c6) n (rowL n Z)) := own_keep R6.out Jwt6.out
              have F9 : Hid (wt6.heap[wt2.heap.size]? = some (.cells #[.int .i64 0, .slice none 0 0, .slice none 0 0] 42 (0, 0))) := by rw [hwt6]; exact heap_alloc_new _ _
              rw [← hwt6]
              replace hwt6 := Lib.hid hwt6
              refine hK.out _ _ (HELD _ Kwt6.out) (fun hHeld => ?_)
              clear hK K
              try simp only [Act.put, List.getElem_toArray, List.getElem_cons_succ, List.getElem_cons_zero, List.setIfInBounds_toArray, List.set_cons_zero, List.set_cons_succ]
              refine wpAnyH_ready (rs := [7]) (by kernel_rfl) (by simp) ?_
              refine (AllReadyH.cons rfl (fun K hK => ?_) AllReadyH.nil)
              simp only [List.getElem_toArray, List.getElem_cons_succ, List.getElem_cons_zero]
              rw [if_pos (by rfl)]
              go_simp
              obtain ⟨wt7, hwt7⟩ : ∃ W, W = wt6.alloc (.cells (madeCells #[.int .i64 0] n) 2) := ⟨_, rfl⟩
              have Jwt7 : Hid (Keep wt6 wt7) := by rw [hwt7]; exact Keep.one _ _
              have Kwt7 : Hid (Keep w2 wt7) := Kwt6.out.trans Jwt7.out
              have L97 : Hid (wt2.heap.size < wt6.heap.size) := (Array.getElem?_eq_some_iff.1 F9.out).1
              replace R6 : Hid (wt7.ownsRow w2.heap.size 2 1 (.slice A6 n c6) n (rowL n Z)) := own_keep R6.out Jwt7.out
              replace F9 : Hid (wt7.heap[wt2.heap.size]? = some (.cells #[.int .i64 0, .slice none 0 0, .slice none 0 0] 42 (0, 0))) := Jwt7.out.block F9.out
              have F7 : Hid (wt7.heap[wt6.heap.size]? = some (.cells (madeCells #[.int .i64 0] n) 2 (0, 0))) := by rw [hwt7]; exact heap_alloc_new _ _
              rw [← hwt7]
              replace hwt7 := Lib.hid hwt7
              refine hK.out _ _ (HELD _ Kwt7.out) (fun hHeld => ?_)
              clear hK K
              try simp only [Act.put, List.getElem_toArray, List.getElem_cons_succ, List.getElem_cons_zero, List.setIfInBounds_toArray, List.set_cons_zero, List.set_cons_succ]
              refine wpAnyH_take (i := 8) (v := .agg #[.int .i64 k, .slice A6 n c6, .slice (some ⟨wt6.heap.size, 0, none⟩) n n]) rfl (by kernel_rfl) (by kernel_rfl) (by kernel_rfl) (fun _ _ _ h => h) (Or.inl ⟨by rfl, fun Wz hW => by obtain ⟨s0, s1⟩ := hW; go_simp⟩) hHeld ?_
              simp only [Act.put, List.getElem_toArray, List.getElem_cons_succ, List.getElem_cons_zero, List.setIfInBounds_toArray, List.set_cons_zero, List.set_cons_succ]
              refine wpAnyH_ready (rs := [10]) (by kernel_rfl) (by simp) ?_
              refine (AllReadyH.cons rfl (fun K hK => ?_) AllReadyH.nil)
              simp only [List.getElem_toArray, List.getElem_cons_succ, List.getElem_cons_zero]
              rw [if_pos (by rfl)]
              obtain ⟨c0, c1, c2, f0⟩ := celN F9.out
              go_simp
              obtain ⟨wt8, hwt8⟩ : ∃ W, W = ((wt7.setCell ⟨wt2.heap.size, 0, none⟩ (.int .i64 k)).setCell ⟨wt2.heap.size, 1, none⟩ (.slice A6 n c6)).setCell ⟨wt2.heap.size, 2, none⟩ (.slice (some ⟨wt6.heap.size, 0, none⟩) n n) := ⟨_, rfl⟩
              have Kwt8 : Hid (Keep w2 wt8) := by rw [hwt8]; have := Kwt2.out.size; exact ((Kwt7.out.set (by show _ ≤ wt2.heap.size; omega) _).set (by show _ ≤ wt2.heap.size; omega) _).set (by show _ ≤ wt2.heap.size; omega) _
              have R7 : Hid (wt8.ownsRow w2.heap.size 2 1 (.slice A6 n c6) n (rowL n Z)) := by rw [hwt8]; exact own_blocks1 R6.out fun g hg => set3_other (row_ne R6.out F9.out (by decide) g hg)
              have G7 : Hid (wt8.heap[wt6.heap.size]? = some (.cells (madeCells #[.int .i64 0] n) 2 (0, 0))) := by rw [hwt8]; exact (set3_other (by have := L97.out; omega)).trans F7.out
              have G9 : Hid (wt8.heap[wt2.heap.size]? = some (.cells #[.int .i64 k, .slice A6 n c6, .slice (some ⟨wt6.heap.size, 0, none⟩) n n] 42 (0, 0))) := by rw [hwt8]; exact set3N F9.out
              clear c0 c1 c2 f0
              rw [← hwt8]
              replace hwt8 := Lib.hid hwt8
              refine hK.out _ _ (HELD _ Kwt8.out) (fun hHeld => ?_)
              clear hK K
              try simp only [Act.put, List.getElem_toArray, List.getElem_cons_succ, List.getElem_cons_zero, List.setIfInBounds_toArray, List.set_cons_zero, List.set_cons_succ]
              refine wpAnyH_done (by kernel_rfl) ?_ _
              go_wp2_with fail
              go_meet
              case rel => exact ⟨wt2.heap.size, wt6.heap.size, A6, c6, rfl, Kwt8.out, G9.out, rd_own R7.out rdA.out.small rdA.out.range, rd_made G7.out (by omega), nl6.out⟩
          · simp only [List.getElem_toArray, List.getElem_cons_succ, List.getElem_cons_zero]
            rw [if_pos (by rfl)]
            go_simp
            obtain ⟨wt9, hwt9⟩ : ∃ W, W = wt1.alloc (.cells (madeCells #[.int .i64 0] n) 2) := ⟨_, rfl⟩
            have Jwt9 : Hid (Keep wt1 wt9) := by rw [hwt9]; exact Keep.one _ _
            have Kwt9 : Hid (Keep w2 wt9) := Kwt1.out.trans Jwt9.out
            have L27 : Hid (wt0.heap.size < wt1.heap.size) := (Array.getElem?_eq_some_iff.1 F2.out).1
            replace F2 : Hid (wt9.heap[wt0.heap.size]? = some (.cells #[] 2 (0, 0))) := Jwt9.out.block F2.out
            have F7 : Hid (wt9.heap[wt1.heap.size]? = some (.cells (madeCells #[.int .i64 0] n) 2 (0, 0))) := by rw [hwt9]; exact heap_alloc_new _ _
            rw [← hwt9]
            replace hwt9 := Lib.hid hwt9
            refine hK.out _ _ (HELD _ Kwt9.out) (fun hHeld => ?_)
            clear hK K
            try simp only [Act.put, List.getElem_toArray, List.getElem_cons_succ, List.getElem_cons_zero, List.setIfInBounds_toArray, List.set_cons_zero, List.set_cons_succ]
            refine wpAnyH_ready (rs := [5, 9]) (by kernel_rfl) (by simp) ?_
            refine (AllReadyH.cons rfl (fun K hK => ?_) (AllReadyH.cons rfl (fun K hK => ?_) AllReadyH.nil))
            · simp only [List.getElem_toArray, List.getElem_cons_succ, List.getElem_cons_zero]
              rw [if_pos (by rfl)]
              refine wp_amounts (.tmp 52) (.tmp 54) rfl w2.heap.size (.slice (some ⟨wt0.heap.size, 0, none⟩) 0 0) (by simp [Act.eval]) (own_none (by have := Kwt0.out.size; omega) F2.out) A n c Z (by simp [Act.eval]) (rdA.out.keep (K2.out.trans Kwt9.out)) nilA.out (by omega) (Kwt9.out.size) ?_
              intro v6 wt10 hr6 hg6
              obtain ⟨A6, c6, hv6, nl6⟩ := own_form hr6
              subst hv6
              have Jwt10 : Hid (Keep w2 wt10) := keep_grown Kwt9.out hg6 (fun q hq => by simp [Value.ownBlock] at hq; have := Kwt0.out.size; omega)
              have Kwt10 : Hid (Keep w2 wt10) := Jwt10.out
              replace F7 : Hid (wt10.heap[wt1.heap.size]? = some (.cells (madeCells #[.int .i64 0] n) 2 (0, 0))) := (hg6.block _ (Array.getElem?_eq_some_iff.1 F7.out).1 (by have := L27.out; simp [Value.ownBlock]; omega)).trans F7.out
              have nl6 := Lib.hid nl6
              have R6 : Hid (wt10.ownsRow w2.heap.size 2 1 (.slice A6 n c6) n (rowL n Z)) := hr6
              clear hr6
              replace hg6 := Lib.hid hg6
              clear F2
              refine hK.out _ _ (HELD _ Kwt10.out) (fun hHeld => ?_)
              clear hK K
              try simp only [Act.put, List.setIfInBounds_toArray, List.set_cons_zero, List.set_cons_succ]
              refine wpAnyH_take (i := 8) (v := .agg #[.int .i64 k, .slice A6 n c6, .slice (some ⟨wt1.heap.size, 0, none⟩) n n]) rfl (by kernel_rfl) (by kernel_rfl) (by kernel_rfl) (fun _ _ _ h => h) (Or.inl ⟨by rfl, fun Wz hW => by obtain ⟨s0, s1⟩ := hW; go_simp⟩) hHeld ?_
              simp only [Act.put, List.getElem_toArray, List.getElem_cons_succ, List.getElem_cons_zero, List.setIfInBounds_toArray, List.set_cons_zero, List.set_cons_succ]
              refine wpAnyH_ready (rs := [9]) (by kernel_rfl) (by simp) ?_
              refine (AllReadyH.cons rfl (fun K hK => ?_) AllReadyH.nil)
              simp only [List.getElem_toArray, List.getElem_cons_succ, List.getElem_cons_zero]
              rw [if_pos (by rfl)]
              go_simp
              obtain ⟨wt11, hwt11⟩ : ∃ W, W = wt10.alloc (.cells #[.int .i64 0, .slice none 0 0, .slice none 0 0] 42) := ⟨_, rfl⟩
              have Jwt11 : Hid (Keep wt10 wt11) := by rw [hwt11]; exact Keep.one _ _
              have Kwt11 : Hid (Keep w2 wt11) := Kwt10.out.trans Jwt11.out
              have L79 : Hid (wt1.heap.size < wt10.heap.size) := (Array.getElem?_eq_some_iff.1 F7.out).1
              replace F7 : Hid (wt11.heap[wt1.heap.size]? = some (.cells (madeCells #[.int .i64 0] n) 2 (0, 0))) := Jwt11.out.block F7.out
              replace R6 : Hid (wt11.ownsRow w2.heap.size 2 1 (.slice A6 n c6) n (rowL n Z)) := own_keep R6.out Jwt11.out
              have F9 : Hid (wt11.heap[wt10.heap.size]? = some (.cells #[.int .i64 0, .slice none 0 0, .slice none 0 0] 42 (0, 0))) := by rw [hwt11]; exact heap_alloc_new _ _
              rw [← hwt11]
              replace hwt11 := Lib.hid hwt11
              refine hK.out _ _ (HELD _ Kwt11.out) (fun hHeld => ?_)
              clear hK K
              try simp only [Act.put, List.getElem_toArray, List.getElem_cons_succ, List.getElem_cons_zero, List.setIfInBounds_toArray, List.set_cons_zero, List.set_cons_succ]
              refine wpAnyH_ready (rs := [10]) (by kernel_rfl) (by simp) ?_
              refine (AllReadyH.cons rfl (fun K hK => ?_) AllReadyH.nil)
              simp only [List.getElem_toArray, List.getElem_cons_succ, List.getElem_cons_zero]
              rw [if_pos (by rfl)]
              obtain ⟨c0, c1, c2, f0⟩ := celN F9.out
              go_simp
              obtain ⟨wt12, hwt12⟩ : ∃ W, W = ((wt11.setCell ⟨wt10.heap.size, 0, none⟩ (.int .i64 k)).setCell ⟨wt10.heap.size, 1, none⟩ (.slice A6 n c6)).setCell ⟨wt10.heap.size, 2, none⟩ (.slice (some ⟨wt1.heap.size, 0, none⟩) n n) := ⟨_, rfl⟩
              have Kwt12 : Hid (Keep w2 wt12) := by rw [hwt12]; have := Kwt10.out.size; exact ((Kwt11.out.set (by show _ ≤ wt10.heap.size; omega) _).set (by show _ ≤ wt10.heap.size; omega) _).set (by show _ ≤ wt10.heap.size; omega) _
              have R7 : Hid (wt12.ownsRow w2.heap.size 2 1 (.slice A6 n c6) n (rowL n Z)) := by rw [hwt12]; exact own_blocks1 R6.out fun g hg => set3_other (row_ne R6.out F9.out (by decide) g hg)
              have G7 : Hid (wt12.heap[wt1.heap.size]? = some (.cells (madeCells #[.int .i64 0] n) 2 (0, 0))) := by rw [hwt12]; exact (set3_other (by have := L79.out; omega)).trans F7.out
              have G9 : Hid (wt12.heap[wt10.heap.size]? = some (.cells #[.int .i64 k, .slice A6 n c6, .slice (some ⟨wt1.heap.size, 0, none⟩) n n] 42 (0, 0))) := by rw [hwt12]; exact set3N F9.out
              clear c0 c1 c2 f0
              rw [← hwt12]
              replace hwt12 := Lib.hid hwt12
              refine hK.out _ _ (HELD _ Kwt12.out) (fun hHeld => ?_)
              clear hK K
              try simp only [Act.put, List.getElem_toArray, List.getElem_cons_succ, List.getElem_cons_zero, List.setIfInBounds_toArray, List.set_cons_zero, List.set_cons_succ]
              refine wpAnyH_done (by kernel_rfl) ?_ _
              go_wp2_with fail
              go_meet
              case rel => exact ⟨wt10.heap.size, wt1.heap.size, A6, c6, rfl, Kwt12.out, G9.out, rd_own R7.out rdA.out.small rdA.out.range, rd_made G7.out (by omega), nl6.out⟩
            · simp only [List.getElem_toArray, List.getElem_cons_succ, List.getElem_cons_zero]
              rw [if_pos (by rfl)]
              go_simp
              obtain ⟨wt13, hwt13⟩ : ∃ W, W = wt9.alloc (.cells #[.int .i64 0, .slice none 0 0, .slice none 0 0] 42) := ⟨_, rfl⟩
              have Jwt13 : Hid (Keep wt9 wt13) := by rw [hwt13]; exact Keep.one _ _
              have Kwt13 : Hid (Keep w2 wt13) := Kwt9.out.trans Jwt13.out
              have L29 : Hid (wt0.heap.size < wt9.heap.size) := (Array.getElem?_eq_some_iff.1 F2.out).1
              have L79 : Hid (wt1.heap.size < wt9.heap.size) := (Array.getElem?_eq_some_iff.1 F7.out).1
              replace F2 : Hid (wt13.heap[wt0.heap.size]? = some (.cells #[] 2 (0, 0))) := Jwt13.out.block F2.out
              replace F7 : Hid (wt13.heap[wt1.heap.size]? = some (.cells (madeCells #[.int .i64 0] n) 2 (0, 0))) := Jwt13.out.block F7.out
              have F9 : Hid (wt13.heap[wt9.heap.size]? = some (.cells #[.int .i64 0, .slice none 0 0, .slice none 0 0] 42 (0, 0))) := by rw [hwt13]; exact heap_alloc_new _ _
              rw [← hwt13]
              replace hwt13 := Lib.hid hwt13
              refine hK.out _ _ (HELD _ Kwt13.out) (fun hHeld => ?_)
              clear hK K
              try simp only [Act.put, List.getElem_toArray, List.getElem_cons_succ, List.getElem_cons_zero, List.setIfInBounds_toArray, List.set_cons_zero, List.set_cons_succ]
              refine wpAnyH_ready (rs := [5]) (by kernel_rfl) (by simp) ?_
              refine (AllReadyH.cons rfl (fun K hK => ?_) AllReadyH.nil)
              simp only [List.getElem_toArray, List.getElem_cons_succ, List.getElem_cons_zero]
              rw [if_pos (by rfl)]
              refine wp_amounts (.tmp 52) (.tmp 54) rfl w2.heap.size (.slice (some ⟨wt0.heap.size, 0, none⟩) 0 0) (by simp [Act.eval]) (own_none (by have := Kwt0.out.size; omega) F2.out) A n c Z (by simp [Act.eval]) (rdA.out.keep (K2.out.trans Kwt13.out)) nilA.out (by omega) (Kwt13.out.size) ?_
              intro v6 wt14 hr6 hg6
              obtain ⟨A6, c6, hv6, nl6⟩ := own_form hr6
              subst hv6
              have Jwt14 : Hid (Keep w2 wt14) := keep_grown Kwt13.out hg6 (fun q hq => by simp [Value.ownBlock] at hq; have := Kwt0.out.size; omega)
              have Kwt14 : Hid (Keep w2 wt14) := Jwt14.out
              replace F7 : Hid (wt14.heap[wt1.heap.size]? = some (.cells (madeCells #[.int .i64 0] n) 2 (0, 0))) := (hg6.block _ (Array.getElem?_eq_some_iff.1 F7.out).1 (by have := L27.out; simp [Value.ownBlock]; omega)).trans F7.out
              replace F9 : Hid (wt14.heap[wt9.heap.size]? = some (.cells #[.int .i64 0, .slice none 0 0, .slice none 0 0] 42 (0, 0))) := (hg6.block _ (Array.getElem?_eq_some_iff.1 F9.out).1 (by have := L29.out; simp [Value.ownBlock]; omega)).trans F9.out
              have nl6 := Lib.hid nl6
              have R6 : Hid (wt14.ownsRow w2.heap.size 2 1 (.slice A6 n c6) n (rowL n Z)) := hr6
              clear hr6
              replace hg6 := Lib.hid hg6
              clear F2
              refine hK.out _ _ (HELD _ Kwt14.out) (fun hHeld => ?_)
              clear hK K
              try simp only [Act.put, List.setIfInBounds_toArray, List.set_cons_zero, List.set_cons_succ]
              refine wpAnyH_take (i := 8) (v := .agg #[.int .i64 k, .slice A6 n c6, .slice (some ⟨wt1.heap.size, 0, none⟩) n n]) rfl (by kernel_rfl) (by kernel_rfl) (by kernel_rfl) (fun _ _ _ h => h) (Or.inl ⟨by rfl, fun Wz hW => by obtain ⟨s0, s1⟩ := hW; go_simp⟩) hHeld ?_
              simp only [Act.put, List.getElem_toArray, List.getElem_cons_succ, List.getElem_cons_zero, List.setIfInBounds_toArray, List.set_cons_zero, List.set_cons_succ]
              refine wpAnyH_ready (rs := [10]) (by kernel_rfl) (by simp) ?_
              refine (AllReadyH.cons rfl (fun K hK => ?_) AllReadyH.nil)
              simp only [List.getElem_toArray, List.getElem_cons_succ, List.getElem_cons_zero]
              rw [if_pos (by rfl)]
              obtain ⟨c0, c1, c2, f0⟩ := celN F9.out
              go_simp
              obtain ⟨wt15, hwt15⟩ : ∃ W, W = ((wt14.setCell ⟨wt9.heap.size, 0, none⟩ (.int .i64 k)).setCell ⟨wt9.heap.size, 1, none⟩ (.slice A6 n c6)).setCell ⟨wt9.heap.size, 2, none⟩ (.slice (some ⟨wt1.heap.size, 0, none⟩) n n) := ⟨_, rfl⟩
              have Kwt15 : Hid (Keep w2 wt15) := by rw [hwt15]; have := Kwt9.out.size; exact ((Kwt14.out.set (by show _ ≤ wt9.heap.size; omega) _).set (by show _ ≤ wt9.heap.size; omega) _).set (by show _ ≤ wt9.heap.size; omega) _
              have R7 : Hid (wt15.ownsRow w2.heap.size 2 1 (.slice A6 n c6) n (rowL n Z)) := by rw [hwt15]; exact own_blocks1 R6.out fun g hg => set3_other (row_ne R6.out F9.out (by decide) g hg)
              have G7 : Hid (wt15.heap[wt1.heap.size]? = some (.cells (madeCells #[.int .i64 0] n) 2 (0, 0))) := by rw [hwt15]; exact (set3_other (by have := L79.out; omega)).trans F7.out
              have G9 : Hid (wt15.heap[wt9.heap.size]? = some (.cells #[.int .i64 k, .slice A6 n c6, .slice (some ⟨wt1.heap.size, 0, none⟩) n n] 42 (0, 0))) := by rw [hwt15]; exact set3N F9.out
              clear c0 c1 c2 f0
              rw [← hwt15]
              replace hwt15 := Lib.hid hwt15
              refine hK.out _ _ (HELD _ Kwt15.out) (fun hHeld => ?_)
              clear hK K
              try simp only [Act.put, List.getElem_toArray, List.getElem_cons_succ, List.getElem_cons_zero, List.setIfInBounds_toArray, List.set_cons_zero, List.set_cons_succ]
              refine wpAnyH_done (by kernel_rfl) ?_ _
              go_wp2_with fail
              go_meet
              case rel => exact ⟨wt9.heap.size, wt1.heap.size, A6, c6, rfl, Kwt15.out, G9.out, rd_own R7.out rdA.out.small rdA.out.range, rd_made G7.out (by omega), nl6.out⟩
          · simp only [List.getElem_toArray, List.getElem_cons_succ, List.getElem_cons_zero]
            rw [if_pos (by rfl)]
            go_simp
            obtain ⟨wt16, hwt16⟩ : ∃ W, W = wt1.alloc (.cells #[.int .i64 0, .slice none 0 0, .slice none 0 0] 42) := ⟨_, rfl⟩
            have Jwt16 : Hid (Keep wt1 wt16) := by rw [hwt16]; exact Keep.one _ _
            have Kwt16 : Hid (Keep w2 wt16) := Kwt1.out.trans Jwt16.out
            have L29 : Hid (wt0.heap.size < wt1.heap.size) := (Array.getElem?_eq_some_iff.1 F2.out).1
            replace F2 : Hid (wt16.heap[wt0.heap.size]? = some (.cells #[] 2 (0, 0))) := Jwt16.out.block F2.out
            have F9 : Hid (wt16.heap[wt1.heap.size]? = some (.cells #[.int .i64 0, .slice none 0 0, .slice none 0 0] 42 (0, 0))) := by rw [hwt16]; exact heap_alloc_new _ _
            rw [← hwt16]
            replace hwt16 := Lib.hid hwt16
            refine hK.out _ _ (HELD _ Kwt16.out) (fun hHeld => ?_)
            clear hK K
            try simp only [Act.put, List.getElem_toArray, List.getElem_cons_succ, List.getElem_cons_zero, List.setIfInBounds_toArray, List.set_cons_zero, List.set_cons_succ]
            refine wpAnyH_ready (rs := [5, 7]) (by kernel_rfl) (by simp) ?_
            refine (AllReadyH.cons rfl (fun K hK => ?_) (AllReadyH.cons rfl (fun K hK => ?_) AllReadyH.nil))
            · simp only [List.getElem_toArray, List.getElem_cons_succ, List.getElem_cons_zero]
              rw [if_pos (by rfl)]
              refine wp_amounts (.tmp 52) (.tmp 54) rfl w2.heap.size (.slice (some ⟨wt0.heap.size, 0, none⟩) 0 0) (by simp [Act.eval]) (own_none (by have := Kwt0.out.size; omega) F2.out) A n c Z (by simp [Act.eval]) (rdA.out.keep (K2.out.trans Kwt16.out)) nilA.out (by omega) (Kwt16.out.size) ?_
              intro v6 wt17 hr6 hg6
              obtain ⟨A6, c6, hv6, nl6⟩ := own_form hr6
              subst hv6
              have Jwt17 : Hid (Keep w2 wt17) := keep_grown Kwt16.out hg6 (fun q hq => by simp [Value.ownBlock] at hq; have := Kwt0.out.size; omega)
              have Kwt17 : Hid (Keep w2 wt17) := Jwt17.out
              replace F9 : Hid (wt17.heap[wt1.heap.size]? = some (.cells #[.int .i64 0, .slice none 0 0, .slice none 0 0] 42 (0, 0))) := (hg6.block _ (Array.getElem?_eq_some_iff.1 F9.out).1 (by have := L29.out; simp [Value.ownBlock]; omega)).trans F9.out
              have nl6 := Lib.hid nl6
              have R6 : Hid (wt17.ownsRow w2.heap.size 2 1 (.slice A6 n c6) n (rowL n Z)) := hr6
              clear hr6
              replace hg6 := Lib.hid hg6
              clear F2
              refine hK.out _ _ (HELD _ Kwt17.out) (fun hHeld => ?_)
              clear hK K
              try simp only [Act.put, List.setIfInBounds_toArray, List.set_cons_zero, List.set_cons_succ]
              refine wpAnyH_ready (rs := [7]) (by kernel_rfl) (by simp) ?_
              refine (AllReadyH.cons rfl (fun K hK => ?_) AllReadyH.nil)
              simp only [List.getElem_toArray, List.getElem_cons_succ, List.getElem_cons_zero]
              rw [if_pos (by rfl)]
              go_simp
              obtain ⟨wt18, hwt18⟩ : ∃ W, W = wt17.alloc (.cells (madeCells #[.int .i64 0] n) 2) := ⟨_, rfl⟩
              have Jwt18 : Hid (Keep wt17 wt18) := by rw [hwt18]; exact Keep.one _ _
              have Kwt18 : Hid (Keep w2 wt18) := Kwt17.out.trans Jwt18.out
              have L97 : Hid (wt1.heap.size < wt17.heap.size) := (Array.getElem?_eq_some_iff.1 F9.out).1
              replace F9 : Hid (wt18.heap[wt1.heap.size]? = some (.cells #[.int .i64 0, .slice none 0 0, .slice none 0 0] 42 (0, 0))) := Jwt18.out.block F9.out
              replace R6 : Hid (wt18.ownsRow w2.heap.size 2 1 (.slice A6 n c6) n (rowL n Z)) := own_keep R6.out Jwt18.out
              have F7 : Hid (wt18.heap[wt17.heap.size]? = some (.cells (madeCells #[.int .i64 0] n) 2 (0, 0))) := by rw [hwt18]; exact heap_alloc_new _ _
              rw [← hwt18]
              replace hwt18 := Lib.hid hwt18
              refine hK.out _ _ (HELD _ Kwt18.out) (fun hHeld => ?_)
              clear hK K
              try simp only [Act.put, List.getElem_toArray, List.getElem_cons_succ, List.getElem_cons_zero, List.setIfInBounds_toArray, List.set_cons_zero, List.set_cons_succ]
              refine wpAnyH_take (i := 8) (v := .agg #[.int .i64 k, .slice A6 n c6, .slice (some ⟨wt17.heap.size, 0, none⟩) n n]) rfl (by kernel_rfl) (by kernel_rfl) (by kernel_rfl) (fun _ _ _ h => h) (Or.inl ⟨by rfl, fun Wz hW => by obtain ⟨s0, s1⟩ := hW; go_simp⟩) hHeld ?_
              simp only [Act.put, List.getElem_toArray, List.getElem_cons_succ, List.getElem_cons_zero, List.setIfInBounds_toArray, List.set_cons_zero, List.set_cons_succ]
              refine wpAnyH_ready (rs := [10]) (by kernel_rfl) (by simp) ?_
              refine (AllReadyH.cons rfl (fun K hK => ?_) AllReadyH.nil)
              simp only [List.getElem_toArray, List.getElem_cons_succ, List.getElem_cons_zero]
              rw [if_pos (by rfl)]
              obtain ⟨c0, c1, c2, f0⟩ := celN F9.out
              go_simp
              obtain ⟨wt19, hwt19⟩ : ∃ W, W = ((wt18.setCell ⟨wt1.heap.size, 0, none⟩ (.int .i64 k)).setCell ⟨wt1.heap.size, 1, none⟩ (.slice A6 n c6)).setCell ⟨wt1.heap.size, 2, none⟩ (.slice (some ⟨wt17.heap.size, 0, none⟩) n n) := ⟨_, rfl⟩
              have Kwt19 : Hid (Keep w2 wt19) := by rw [hwt19]; have := Kwt1.out.size; exact ((Kwt18.out.set (by show _ ≤ wt1.heap.size; omega) _).set (by show _ ≤ wt1.heap.size; omega) _).set (by show _ ≤ wt1.heap.size; omega) _
              have R7 : Hid (wt19.ownsRow w2.heap.size 2 1 (.slice A6 n c6) n (rowL n Z)) := by rw [hwt19]; exact own_blocks1 R6.out fun g hg => set3_other (row_ne R6.out F9.out (by decide) g hg)
              have G7 : Hid (wt19.heap[wt17.heap.size]? = some (.cells (madeCells #[.int .i64 0] n) 2 (0, 0))) := by rw [hwt19]; exact (set3_other (by have := L97.out; omega)).trans F7.out
              have G9 : Hid (wt19.heap[wt1.heap.size]? = some (.cells #[.int .i64 k, .slice A6 n c6, .slice (some ⟨wt17.heap.size, 0, none⟩) n n] 42 (0, 0))) := by rw [hwt19]; exact set3N F9.out
              clear c0 c1 c2 f0
              rw [← hwt19]
              replace hwt19 := Lib.hid hwt19
              refine hK.out _ _ (HELD _ Kwt19.out) (fun hHeld => ?_)
              clear hK K
              try simp only [Act.put, List.getElem_toArray, List.getElem_cons_succ, List.getElem_cons_zero, List.setIfInBounds_toArray, List.set_cons_zero, List.set_cons_succ]
              refine wpAnyH_done (by kernel_rfl) ?_ _
              go_wp2_with fail
              go_meet
              case rel => exact ⟨wt1.heap.size, wt17.heap.size, A6, c6, rfl, Kwt19.out, G9.out, rd_own R7.out rdA.out.small rdA.out.range, rd_made G7.out (by omega), nl6.out⟩
            · simp only [List.getElem_toArray, List.getElem_cons_succ, List.getElem_cons_zero]
              rw [if_pos (by rfl)]
              go_simp
              obtain ⟨wt20, hwt20⟩ : ∃ W, W = wt16.alloc (.cells (madeCells #[.int .i64 0] n) 2) := ⟨_, rfl⟩
              have Jwt20 : Hid (Keep wt16 wt20) := by rw [hwt20]; exact Keep.one _ _
              have Kwt20 : Hid (Keep w2 wt20) := Kwt16.out.trans Jwt20.out
              have L27 : Hid (wt0.heap.size < wt16.heap.size) := (Array.getElem?_eq_some_iff.1 F2.out).1
              have L97 : Hid (wt1.heap.size < wt16.heap.size) := (Array.getElem?_eq_some_iff.1 F9.out).1
              replace F2 : Hid (wt20.heap[wt0.heap.size]? = some (.cells #[] 2 (0, 0))) := Jwt20.out.block F2.out
              replace F9 : Hid (wt20.heap[wt1.heap.size]? = some (.cells #[.int .i64 0, .slice none 0 0, .slice none 0 0] 42 (0, 0))) := Jwt20.out.block F9.out
              have F7 : Hid (wt20.heap[wt16.heap.size]? = some (.cells (madeCells #[.int .i64 0] n) 2 (0, 0))) := by rw [hwt20]; exact heap_alloc_new _ _
              rw [← hwt20]
              replace hwt20 := Lib.hid hwt20
              refine hK.out _ _ (HELD _ Kwt20.out) (fun hHeld => ?_)
              clear hK K
              try simp only [Act.put, List.getElem_toArray, List.getElem_cons_succ, List.getElem_cons_zero, List.setIfInBounds_toArray, List.set_cons_zero, List.set_cons_succ]
              refine wpAnyH_ready (rs := [5]) (by kernel_rfl) (by simp) ?_
              refine (AllReadyH.cons rfl (fun K hK => ?_) AllReadyH.nil)
              simp only [List.getElem_toArray, List.getElem_cons_succ, List.getElem_cons_zero]
              rw [if_pos (by rfl)]
              refine wp_amounts (.tmp 52) (.tmp 54) rfl w2.heap.size (.slice (some ⟨wt0.heap.size, 0, none⟩) 0 0) (by simp [Act.eval]) (own_none (by have := Kwt0.out.size; omega) F2.out) A n c Z (by simp [Act.eval]) (rdA.out.keep (K2.out.trans Kwt20.out)) nilA.out (by omega) (Kwt20.out.size) ?_
              intro v6 wt21 hr6 hg6
              obtain ⟨A6, c6, hv6, nl6⟩ := own_form hr6
              subst hv6
              have Jwt21 : Hid (Keep w2 wt21) := keep_grown Kwt20.out hg6 (fun q hq => by simp [Value.ownBlock] at hq; have := Kwt0.out.size; omega)
              have Kwt21 : Hid (Keep w2 wt21) := Jwt21.out
              replace F9 : Hid (wt21.heap[wt1.heap.size]? = some (.cells #[.int .i64 0, .slice none 0 0, .slice none 0 0] 42 (0, 0))) := (hg6.block _ (Array.getElem?_eq_some_iff.1 F9.out).1 (by have := L29.out; simp [Value.ownBlock]; omega)).trans F9.out
              replace F7 : Hid (wt21.heap[wt16.heap.size]? = some (.cells (madeCells #[.int .i64 0] n) 2 (0, 0))) := (hg6.block _ (Array.getElem?_eq_some_iff.1 F7.out).1 (by have := L27.out; simp [Value.ownBlock]; omega)).trans F7.out
              have nl6 := Lib.hid nl6
              have R6 : Hid (wt21.ownsRow w2.heap.size 2 1 (.slice A6 n c6) n (rowL n Z)) := hr6
              clear hr6
              replace hg6 := Lib.hid hg6
              clear F2
              refine hK.out _ _ (HELD _ Kwt21.out) (fun hHeld => ?_)
              clear hK K
              try simp only [Act.put, List.setIfInBounds_toArray, List.set_cons_zero, List.set_cons_succ]
              refine wpAnyH_take (i := 8) (v := .agg #[.int .i64 k, .slice A6 n c6, .slice (some ⟨wt16.heap.size, 0, none⟩) n n]) rfl (by kernel_rfl) (by kernel_rfl) (by kernel_rfl) (fun _ _ _ h => h) (Or.inl ⟨by rfl, fun Wz hW => by obtain ⟨s0, s1⟩ := hW; go_simp⟩) hHeld ?_
              simp only [Act.put, List.getElem_toArray, List.getElem_cons_succ, List.getElem_cons_zero, List.setIfInBounds_toArray, List.set_cons_zero, List.set_cons_succ]
              refine wpAnyH_ready (rs := [10]) (by kernel_rfl) (by simp) ?_
              refine (AllReadyH.cons rfl (fun K hK => ?_) AllReadyH.nil)
              simp only [List.getElem_toArray, List.getElem_cons_succ, List.getElem_cons_zero]
              rw [if_pos (by rfl)]
              obtain ⟨c0, c1, c2, f0⟩ := celN F9.out
              go_simp
              obtain ⟨wt22, hwt22⟩ : ∃ W, W = ((wt21.setCell ⟨wt1.heap.size, 0, none⟩ (.int .i64 k)).setCell ⟨wt1.heap.size, 1, none⟩ (.slice A6 n c6)).setCell ⟨wt1.heap.size, 2, none⟩ (.slice (some ⟨wt16.heap.size, 0, none⟩) n n) := ⟨_, rfl⟩
              have Kwt22 : Hid (Keep w2 wt22) := by rw [hwt22]; have := Kwt1.out.size; exact ((Kwt21.out.set (by show _ ≤ wt1.heap.size; omega) _).set (by show _ ≤ wt1.heap.size; omega) _).set (by show _ ≤ wt1.heap.size; omega) _
              have R7 : Hid (wt22.ownsRow w2.heap.size 2 1 (.slice A6 n c6) n (rowL n Z)) := by rw [hwt22]; exact own_blocks1 R6.out fun g hg => set3_other (row_ne R6.out F9.out (by decide) g hg)
              have G7 : Hid (wt22.heap[wt16.heap.size]? = some (.cells (madeCells #[.int .i64 0] n) 2 (0, 0))) := by rw [hwt22]; exact (set3_other (by have := L97.out; omega)).trans F7.out
              have G9 : Hid (wt22.heap[wt1.heap.size]? = some (.cells #[.int .i64 k, .slice A6 n c6, .slice (some ⟨wt16.heap.size, 0, none⟩) n n] 42 (0, 0))) := by rw [hwt22]; exact set3N F9.out
              clear c0 c1 c2 f0
              rw [← hwt22]
              replace hwt22 := Lib.hid hwt22
              refine hK.out _ _ (HELD _ Kwt22.out) (fun hHeld => ?_)
              clear hK K
              try simp only [Act.put, List.getElem_toArray, List.getElem_cons_succ, List.getElem_cons_zero, List.setIfInBounds_toArray, List.set_cons_zero, List.set_cons_succ]
              refine wpAnyH_done (by kernel_rfl) ?_ _
              go_wp2_with fail
              go_meet
              case rel => exact ⟨wt1.heap.size, wt16.heap.size, A6, c6, rfl, Kwt22.out, G9.out, rd_own R7.out rdA.out.small rdA.out.range, rd_made G7.out (by omega), nl6.out⟩
        · simp only [List.getElem_toArray, List.getElem_cons_succ, List.getElem_cons_zero]
          rw [if_pos (by rfl)]
          go_simp
          obtain ⟨wt23, hwt23⟩ : ∃ W, W = wt0.alloc (.cells (madeCells #[.int .i64 0] n) 2) := ⟨_, rfl⟩
          have Jwt23 : Hid (Keep wt0 wt23) := by rw [hwt23]; exact Keep.one _ _
          have Kwt23 : Hid (Keep w2 wt23) := Kwt0.out.trans Jwt23.out
          have F7 : Hid (wt23.heap[wt0.heap.size]? = some (.cells (madeCells #[.int .i64 0] n) 2 (0, 0))) := by rw [hwt23]; exact heap_alloc_new _ _
          rw [← hwt23]
          replace hwt23 := Lib.hid hwt23
          refine hK.out _ _ (HELD _ Kwt23.out) (fun hHeld => ?_)
          clear hK K
          try simp only [Act.put, List.getElem_toArray, List.getElem_cons_succ, List.getElem_cons_zero, List.setIfInBounds_toArray, List.set_cons_zero, List.set_cons_succ]
          refine wpAnyH_ready (rs := [2, 9]) (by kernel_rfl) (by simp) ?_
          refine (AllReadyH.cons rfl (fun K hK => ?_) (AllReadyH.cons rfl (fun K hK => ?_) AllReadyH.nil))
          · simp only [List.getElem_toArray, List.getElem_cons_succ, List.getElem_cons_zero]
            rw [if_pos (by rfl)]
            go_simp
            obtain ⟨wt24, hwt24⟩ : ∃ W, W = wt23.alloc (.cells #[] 2) := ⟨_, rfl⟩
            have Jwt24 : Hid (Keep wt23 wt24) := by rw [hwt24]; exact Keep.one _ _
            have Kwt24 : Hid (Keep w2 wt24) := Kwt23.out.trans Jwt24.out
            have L72 : Hid (wt0.heap.size < wt23.heap.size) := (Array.getElem?_eq_some_iff.1 F7.out).1
            replace F7 : Hid (wt24.heap[wt0.heap.size]? = some (.cells (madeCells #[.int .i64 0] n) 2 (0, 0))) := Jwt24.out.block F7.out
            have F2 : Hid (wt24.heap[wt23.heap.size]? = some (.cells #[] 2 (0, 0))) := by rw [hwt24]; exact heap_alloc_new _ _
            rw [← hwt24]
            replace hwt24 := Lib.hid hwt24
            refine hK.out _ _ (HELD _ Kwt24.out) (fun hHeld => ?_)
            clear hK K
            try simp only [Act.put, List.getElem_toArray, List.getElem_cons_succ, List.getElem_cons_zero, List.setIfInBounds_toArray, List.set_cons_zero, List.set_cons_succ]
            refine wpAnyH_ready (rs := [5, 9]) (by kernel_rfl) (by simp) ?_
            refine (AllReadyH.cons rfl (fun K hK => ?_) (AllReadyH.cons rfl (fun K hK => ?_) AllReadyH.nil))
            · simp only [List.getElem_toArray, List.getElem_cons_succ, List.getElem_cons_zero]
              rw [if_pos (by rfl)]
              refine wp_amounts (.tmp 52) (.tmp 54) rfl w2.heap.size (.slice (some ⟨wt23.heap.size, 0, none⟩) 0 0) (by simp [Act.eval]) (own_none (by have := Kwt23.out.size; omega) F2.out) A n c Z (by simp [Act.eval]) (rdA.out.keep (K2.out.trans Kwt24.out)) nilA.out (by omega) (Kwt24.out.size) ?_
              intro v6 wt25 hr6 hg6
              obtain ⟨A6, c6, hv6, nl6⟩ := own_form hr6
              subst hv6
              have Jwt25 : Hid (Keep w2 wt25) := keep_grown Kwt24.out hg6 (fun q hq => by simp [Value.ownBlock] at hq; have := Kwt23.out.size; omega)
              have Kwt25 : Hid (Keep w2 wt25) := Jwt25.out
              replace F7 : Hid (wt25.heap[wt0.heap.size]? = some (.cells (madeCells #[.int .i64 0] n) 2 (0, 0))) := (hg6.block _ (Array.getElem?_eq_some_iff.1 F7.out).1 (by have := L72.out; simp [Value.ownBlock]; omega)).trans F7.out
              have nl6 := Lib.hid nl6
              have R6 : Hid (wt25.ownsRow w2.heap.size 2 1 (.slice A6 n c6) n (rowL n Z)) := hr6
              clear hr6
              replace hg6 := Lib.hid hg6
              clear F2
              refine hK.out _ _ (HELD _ Kwt25.out) (fun hHeld => ?_)
              clear hK K
              try simp only [Act.put, List.setIfInBounds_toArray, List.set_cons_zero, List.set_cons_succ]
              refine wpAnyH_take (i := 8) (v := .agg #[.int .i64 k, .slice A6 n c6, .slice (some ⟨wt0.heap.size, 0, none⟩) n n]) rfl (by kernel_rfl) (by kernel_rfl) (by kernel_rfl) (fun _ _ _ h => h) (Or.inl ⟨by rfl, fun Wz hW => by obtain ⟨s0, s1⟩ := hW; go_simp⟩) hHeld ?_
              simp only [Act.put, List.getElem_toArray, List.getElem_cons_succ, List.getElem_cons_zero, List.setIfInBounds_toArray, List.set_cons_zero, List.set_cons_succ]
              refine wpAnyH_ready (rs := [9]) (by kernel_rfl) (by simp) ?_
              refine (AllReadyH.cons rfl (fun K hK => ?_) AllReadyH.nil)
              simp only [List.getElem_toArray, List.getElem_cons_succ, List.getElem_cons_zero]
              rw [if_pos (by rfl)]
              go_simp
              obtain ⟨wt26, hwt26⟩ : ∃ W, W = wt25.alloc (.cells #[.int .i64 0, .slice none 0 0, .slice none 0 0] 42) := ⟨_, rfl⟩
              have Jwt26 : Hid (Keep wt25 wt26) := by rw [hwt26]; exact Keep.one _ _
              have Kwt26 : Hid (Keep w2 wt26) := Kwt25.out.trans Jwt26.out
              have L79 : Hid (wt0.heap.size < wt25.heap.size) := (Array.getElem?_eq_some_iff.1 F7.out).1
              replace F7 : Hid (wt26.heap[wt0.heap.size]? = some (.cells (madeCells #[.int .i64 0] n) 2 (0, 0))) := Jwt26.out.block F7.out
              replace R6 : Hid (wt26.ownsRow w2.heap.size 2 1 (.slice A6 n c6) n (rowL n Z)) := own_keep R6.out Jwt26.out
              have F9 : Hid (wt26.heap[wt25.heap.size]? = some (.cells #[.int .i64 0, .slice none 0 0, .slice none 0 0] 42 (0, 0))) := by rw [hwt26]; exact heap_alloc_new _ _
              rw [← hwt26]
              replace hwt26 := Lib.hid hwt26
              refine hK.out _ _ (HELD _ Kwt26.out) (fun hHeld => ?_)
              clear hK K
              try simp only [Act.put, List.getElem_toArray, List.getElem_cons_succ, List.getElem_cons_zero, List.setIfInBounds_toArray, List.set_cons_zero, List.set_cons_succ]
              refine wpAnyH_ready (rs := [10]) (by kernel_rfl) (by simp) ?_
              refine (AllReadyH.cons rfl (fun K hK => ?_) AllReadyH.nil)
              simp only [List.getElem_toArray, List.getElem_cons_succ, List.getElem_cons_zero]
              rw [if_pos (by rfl)]
              obtain ⟨c0, c1, c2, f0⟩ := celN F9.out
              go_simp
              obtain ⟨wt27, hwt27⟩ : ∃ W, W = ((wt26.setCell ⟨wt25.heap.size, 0, none⟩ (.int .i64 k)).setCell ⟨wt25.heap.size, 1, none⟩ (.slice A6 n c6)).setCell ⟨wt25.heap.size, 2, none⟩ (.slice (some ⟨wt0.heap.size, 0, none⟩) n n) := ⟨_, rfl⟩
              have Kwt27 : Hid (Keep w2 wt27) := by rw [hwt27]; have := Kwt25.out.size; exact ((Kwt26.out.set (by show _ ≤ wt25.heap.size; omega) _).set (by show _ ≤ wt25.heap.size; omega) _).set (by show _ ≤ wt25.heap.size; omega) _
              have R7 : Hid (wt27.ownsRow w2.heap.size 2 1 (.slice A6 n c6) n (rowL n Z)) := by rw [hwt27]; exact own_blocks1 R6.out fun g hg => set3_other (row_ne R6.out F9.out (by decide) g hg)
              have G7 : Hid (wt27.heap[wt0.heap.size]? = some (.cells (madeCells #[.int .i64 0] n) 2 (0, 0))) := by rw [hwt27]; exact (set3_other (by have := L79.out; omega)).trans F7.out
              have G9 : Hid (wt27.heap[wt25.heap.size]? = some (.cells #[.int .i64 k, .slice A6 n c6, .slice (some ⟨wt0.heap.size, 0, none⟩) n n] 42 (0, 0))) := by rw [hwt27]; exact set3N F9.out
              clear c0 c1 c2 f0
              rw [← hwt27]
              replace hwt27 := Lib.hid hwt27
              refine hK.out _ _ (HELD _ Kwt27.out) (fun hHeld => ?_)
              clear hK K
              try simp only [Act.put, List.getElem_toArray, List.getElem_cons_succ, List.getElem_cons_zero, List.setIfInBounds_toArray, List.set_cons_zero, List.set_cons_succ]
              refine wpAnyH_done (by kernel_rfl) ?_ _
              go_wp2_with fail
              go_meet
              case rel => exact ⟨wt25.heap.size, wt0.heap.size, A6, c6, rfl, Kwt27.out, G9.out, rd_own R7.out rdA.out.small rdA.out.range, rd_made G7.out (by omega), nl6.out⟩
            · simp only [List.getElem_toArray, List.getElem_cons_succ, List.getElem_cons_zero]
              rw [if_pos (by rfl)]
              go_simp
              obtain ⟨wt28, hwt28⟩ : ∃ W, W = wt24.alloc (.cells #[.int .i64 0, .slice none 0 0, .slice none 0 0] 42) := ⟨_, rfl⟩
              have Jwt28 : Hid (Keep wt24 wt28) := by rw [hwt28]; exact Keep.one _ _
              have Kwt28 : Hid (Keep w2 wt28) := Kwt24.out.trans Jwt28.out
              have L79 : Hid (wt0.heap.size < wt24.heap.size) := (Array.getElem?_eq_some_iff.1 F7.out).1
              have L29 : Hid (wt23.heap.size < wt24.heap.size) := (Array.getElem?_eq_some_iff.1 F2.out).1
              replace F7 : Hid (wt28.heap[wt0.heap.size]? = some (.cells (madeCells #[.int .i64 0] n) 2 (0, 0))) := Jwt28.out.block F7.out
              replace F2 : Hid (wt28.heap[wt23.heap.size]? = some (.cells #[] 2 (0, 0))) := Jwt28.out.block F2.out
              have F9 : Hid (wt28.heap[wt24.heap.size]? = some (.cells #[.int .i64 0, .slice none 0 0, .slice none 0 0] 42 (0, 0))) := by rw [hwt28]; exact heap_alloc_new _ _
              rw [← hwt28]
              replace hwt28 := Lib.hid hwt28
              refine hK.out _ _ (HELD _ Kwt28.out) (fun hHeld => ?_)
              clear hK K
              try simp only [Act.put, List.getElem_toArray, List.getElem_cons_succ, List.getElem_cons_zero, List.setIfInBounds_toArray, List.set_cons_zero, List.set_cons_succ]
              refine wpAnyH_ready (rs := [5]) (by kernel_rfl) (by simp) ?_
              refine (AllReadyH.cons rfl (fun K hK => ?_) AllReadyH.nil)
              simp only [List.getElem_toArray, List.getElem_cons_succ, List.getElem_cons_zero]
              rw [if_pos (by rfl)]
              refine wp_amounts (.tmp 52) (.tmp 54) rfl w2.heap.size (.slice (some ⟨wt23.heap.size, 0, none⟩) 0 0) (by simp [Act.eval]) (own_none (by have := Kwt23.out.size; omega) F2.out) A n c Z (by simp [Act.eval]) (rdA.out.keep (K2.out.trans Kwt28.out)) nilA.out (by omega) (Kwt28.out.size) ?_
              intro v6 wt29 hr6 hg6
              obtain ⟨A6, c6, hv6, nl6⟩ := own_form hr6
              subst hv6
              have Jwt29 : Hid (Keep w2 wt29) := keep_grown Kwt28.out hg6 (fun q hq => by simp [Value.ownBlock] at hq; have := Kwt23.out.size; omega)
              have Kwt29 : Hid (Keep w2 wt29) := Jwt29.out
              replace F7 : Hid (wt29.heap[wt0.heap.size]? = some (.cells (madeCells #[.int .i64 0] n) 2 (0, 0))) := (hg6.block _ (Array.getElem?_eq_some_iff.1 F7.out).1 (by have := L72.out; simp [Value.ownBlock]; omega)).trans F7.out
              replace F9 : Hid (wt29.heap[wt24.heap.size]? = some (.cells #[.int .i64 0, .slice none 0 0, .slice none 0 0] 42 (0, 0))) := (hg6.block _ (Array.getElem?_eq_some_iff.1 F9.out).1 (by have := L29.out; simp [Value.ownBlock]; omega)).trans F9.out
              have nl6 := Lib.hid nl6
              have R6 : Hid (wt29.ownsRow w2.heap.size 2 1 (.slice A6 n c6) n (rowL n Z)) := hr6
              clear hr6
              replace hg6 := Lib.hid hg6
              clear F2
              refine hK.out _ _ (HELD _ Kwt29.out) (fun hHeld => ?_)
              clear hK K
              try simp only [Act.put, List.setIfInBounds_toArray, List.set_cons_zero, List.set_cons_succ]
              refine wpAnyH_take (i := 8) (v := .agg #[.int .i64 k, .slice A6 n c6, .slice (some ⟨wt0.heap.size, 0, none⟩) n n]) rfl (by kernel_rfl) (by kernel_rfl) (by kernel_rfl) (fun _ _ _ h => h) (Or.inl ⟨by rfl, fun Wz hW => by obtain ⟨s0, s1⟩ := hW; go_simp⟩) hHeld ?_
              simp only [Act.put, List.getElem_toArray, List.getElem_cons_succ, List.getElem_cons_zero, List.setIfInBounds_toArray, List.set_cons_zero, List.set_cons_succ]
              refine wpAnyH_ready (rs := [10]) (by kernel_rfl) (by simp) ?_
              refine (AllReadyH.cons rfl (fun K hK => ?_) AllReadyH.nil)
              simp only [List.getElem_toArray, List.getElem_cons_succ, List.getElem_cons_zero]
              rw [if_pos (by rfl)]
              obtain ⟨c0, c1, c2, f0⟩ := celN F9.out
              go_simp
              obtain ⟨wt30, hwt30⟩ : ∃ W, W = ((wt29.setCell ⟨wt24.heap.size, 0, none⟩ (.int .i64 k)).setCell ⟨wt24.heap.size, 1, none⟩ (.slice A6 n c6)).setCell ⟨wt24.heap.size, 2, none⟩ (.slice (some ⟨wt0.heap.size, 0, none⟩) n n) := ⟨_, rfl⟩
              have Kwt30 : Hid (Keep w2 wt30) := by rw [hwt30]; have := Kwt24.out.size; exact ((Kwt29.out.set (by show _ ≤ wt24.heap.size; omega) _).set (by show _ ≤ wt24.heap.size; omega) _).set (by show _ ≤ wt24.heap.size; omega) _
              have R7 : Hid (wt30.ownsRow w2.heap.size 2 1 (.slice A6 n c6) n (rowL n Z)) := by rw [hwt30]; exact own_blocks1 R6.out fun g hg => set3_other (row_ne R6.out F9.out (by decide) g hg)
              have G7 : Hid (wt30.heap[wt0.heap.size]? = some (.cells (madeCells #[.int .i64 0] n) 2 (0, 0))) := by rw [hwt30]; exact (set3_other (by have := L79.out; omega)).trans F7.out
              have G9 : Hid (wt30.heap[wt24.heap.size]? = some (.cells #[.int .i64 k, .slice A6 n c6, .slice (some ⟨wt0.heap.size, 0, none⟩) n n] 42 (0, 0))) := by rw [hwt30]; exact set3N F9.out
              clear c0 c1 c2 f0
              rw [← hwt30]
              replace hwt30 := Lib.hid hwt30
              refine hK.out _ _ (HELD _ Kwt30.out) (fun hHeld => ?_)
              clear hK K
              try simp only [Act.put, List.getElem_toArray, List.getElem_cons_succ, List.getElem_cons_zero, List.setIfInBounds_toArray, List.set_cons_zero, List.set_cons_succ]
              refine wpAnyH_done (by kernel_rfl) ?_ _
              go_wp2_with fail
              go_meet
              case rel => exact ⟨wt24.heap.size, wt0.heap.size, A6, c6, rfl, Kwt30.out, G9.out, rd_own R7.out rdA.out.small rdA.out.range, rd_made G7.out (by omega), nl6.out⟩
          · simp only [List.getElem_toArray, List.getElem_cons_succ, List.getElem_cons_zero]
            rw [if_pos (by rfl)]
            go_simp
            obtain ⟨wt31, hwt31⟩ : ∃ W, W = wt23.alloc (.cells #[.int .i64 0, .slice none 0 0, .slice none 0 0] 42) := ⟨_, rfl⟩
            have Jwt31 : Hid (Keep wt23 wt31) := by rw [hwt31]; exact Keep.one _ _
            have Kwt31 : Hid (Keep w2 wt31) := Kwt23.out.trans Jwt31.out
            have L79 : Hid (wt0.heap.size < wt23.heap.size) := (Array.getElem?_eq_some_iff.1 F7.out).1
            replace F7 : Hid (wt31.heap[wt0.heap.size]? = some (.cells (madeCells #[.int .i64 0] n) 2 (0, 0))) := Jwt31.out.block F7.out
            have F9 : Hid (wt31.heap[wt23.heap.size]? = some (.cells #[.int .i64 0, .slice none 0 0, .slice none 0 0] 42 (0, 0))) := by rw [hwt31]; exact heap_alloc_new _ _
            rw [← hwt31]
            replace hwt31 := Lib.hid hwt31
            refine hK.out _ _ (HELD _ Kwt31.out) (fun hHeld => ?_)
            clear hK K
            try simp only [Act.put, List.getElem_toArray, List.getElem_cons_succ, List.getElem_cons_zero, List.setIfInBounds_toArray, List.set_cons_zero, List.set_cons_succ]
            refine wpAnyH_ready (rs := [2]) (by kernel_rfl) (by simp) ?_
            refine (AllReadyH.cons rfl (fun K hK => ?_) AllReadyH.nil)
            simp only [List.getElem_toArray, List.getElem_cons_succ, List.getElem_cons_zero]
            rw [if_pos (by rfl)]
            go_simp
            obtain ⟨wt32, hwt32⟩ : ∃ W, W = wt31.alloc (.cells #[] 2) := ⟨_, rfl⟩
            have Jwt32 : Hid (Keep wt31 wt32) := by rw [hwt32]; exact Keep.one _ _
            have Kwt32 : Hid (Keep w2 wt32) := Kwt31.out.trans Jwt32.out
            have L72 : Hid (wt0.heap.size < wt31.heap.size) := (Array.getElem?_eq_some_iff.1 F7.out).1
            have L92 : Hid (wt23.heap.size < wt31.heap.size) := (Array.getElem?_eq_some_iff.1 F9.out).1
            replace F7 : Hid (wt32.heap[wt0.heap.size]? = some (.cells (madeCells #[.int .i64 0] n) 2 (0, 0))) := Jwt32.out.block F7.out
            replace F9 : Hid (wt32.heap[wt23.heap.size]? = some (.cells #[.int .i64 0, .slice none 0 0, .slice none 0 0] 42 (0, 0))) := Jwt32.out.block F9.out
            have F2 : Hid (wt32.heap[wt31.heap.size]? = some (.cells #[] 2 (0, 0))) := by rw [hwt32]; exact heap_alloc_new _ _
            rw [← hwt32]
            replace hwt32 := Lib.hid hwt32
            refine hK.out _ _ (HELD _ Kwt32.out) (fun hHeld => ?_)
            clear hK K
            try simp only [Act.put, List.getElem_toArray, List.getElem_cons_succ, List.getElem_cons_zero, List.setIfInBounds_toArray, List.set_cons_zero, List.set_cons_succ]
            refine wpAnyH_ready (rs := [5]) (by kernel_rfl) (by simp) ?_
            refine (AllReadyH.cons rfl (fun K hK => ?_) AllReadyH.nil)
            simp only [List.getElem_toArray, List.getElem_cons_succ, List.getElem_cons_zero]
            rw [if_pos (by rfl)]
            refine wp_amounts (.tmp 52) (.tmp 54) rfl w2.heap.size (.slice (some ⟨wt31.heap.size, 0, none⟩) 0 0) (by simp [Act.eval]) (own_none (by have := Kwt31.out.size; omega) F2.out) A n c Z (by simp [Act.eval]) (rdA.out.keep (K2.out.trans Kwt32.out)) nilA.out (by omega) (Kwt32.out.size) ?_
            intro v6 wt33 hr6 hg6
            obtain ⟨A6, c6, hv6, nl6⟩ := own_form hr6
            subst hv6
            have Jwt33 : Hid (Keep w2 wt33) := keep_grown Kwt32.out hg6 (fun q hq => by simp [Value.ownBlock] at hq; have := Kwt31.out.size; omega)
            have Kwt33 : Hid (Keep w2 wt33) := Jwt33.out
            replace F7 : Hid (wt33.heap[wt0.heap.size]? = some (.cells (madeCells #[.int .i64 0] n) 2 (0, 0))) := (hg6.block _ (Array.getElem?_eq_some_iff.1 F7.out).1 (by have := L72.out; simp [Value.ownBlock]; omega)).trans F7.out
            replace F9 : Hid (wt33.heap[wt23.heap.size]? = some (.cells #[.int .i64 0, .slice none 0 0, .slice none 0 0] 42 (0, 0))) := (hg6.block _ (Array.getElem?_eq_some_iff.1 F9.out).1 (by have := L92.out; simp [Value.ownBlock]; omega)).trans F9.out
            have nl6 := Lib.hid nl6
            have R6 : Hid (wt33.ownsRow w2.heap.size 2 1 (.slice A6 n c6) n (rowL n Z)) := hr6
            clear hr6
            replace hg6 := Lib.hid hg6
            clear F2
            refine hK.out _ _ (HELD _ Kwt33.out) (fun hHeld => ?_)
            clear hK K
            try simp only [Act.put, List.setIfInBounds_toArray, List.set_cons_zero, List.set_cons_succ]
            refine wpAnyH_take (i := 8) (v := .agg #[.int .i64 k, .slice A6 n c6, .slice (some ⟨wt0.heap.size, 0, none⟩) n n]) rfl (by kernel_rfl) (by kernel_rfl) (by kernel_rfl) (fun _ _ _ h => h) (Or.inl ⟨by rfl, fun Wz hW => by obtain ⟨s0, s1⟩ := hW; go_simp⟩) hHeld ?_
            simp only [Act.put, List.getElem_toArray, List.getElem_cons_succ, List.getElem_cons_zero, List.setIfInBounds_toArray, List.set_cons_zero, List.set_cons_succ]
            refine wpAnyH_ready (rs := [10]) (by kernel_rfl) (by simp) ?_
            refine (AllReadyH.cons rfl (fun K hK => ?_) AllReadyH.nil)
            simp only [List.getElem_toArray, List.getElem_cons_succ, List.getElem_cons_zero]
            rw [if_pos (by rfl)]
            obtain ⟨c0, c1, c2, f0⟩ := celN F9.out
            go_simp
            obtain ⟨wt34, hwt34⟩ : ∃ W, W = ((wt33.setCell ⟨wt23.heap.size, 0, none⟩ (.int .i64 k)).setCell ⟨wt23.heap.size, 1, none⟩ (.slice A6 n c6)).setCell ⟨wt23.heap.size, 2, none⟩ (.slice (some ⟨wt0.heap.size, 0, none⟩) n n) := ⟨_, rfl⟩
            have Kwt34 : Hid (Keep w2 wt34) := by rw [hwt34]; have := Kwt23.out.size; exact ((Kwt33.out.set (by show _ ≤ wt23.heap.size; omega) _).set (by show _ ≤ wt23.heap.size; omega) _).set (by show _ ≤ wt23.heap.size; omega) _
            have R7 : Hid (wt34.ownsRow w2.heap.size 2 1 (.slice A6 n c6) n (rowL n Z)) := by rw [hwt34]; exact own_blocks1 R6.out fun g hg => set3_other (row_ne R6.out F9.out (by decide) g hg)
            have G7 : Hid (wt34.heap[wt0.heap.size]? = some (.cells (madeCells #[.int .i64 0] n) 2 (0, 0))) := by rw [hwt34]; exact (set3_other (by have := L79.out; omega)).trans F7.out
            have G9 : Hid (wt34.heap[wt23.heap.size]? = some (.cells #[.int .i64 k, .slice A6 n c6, .slice (some ⟨wt0.heap.size, 0, none⟩) n n] 42 (0, 0))) := by rw [hwt34]; exact set3N F9.out
            clear c0 c1 c2 f0
            rw [← hwt34]
            replace hwt34 := Lib.hid hwt34
            refine hK.out _ _ (HELD _ Kwt34.out) (fun hHeld => ?_)
            clear hK K
            try simp only [Act.put, List.getElem_toArray, List.getElem_cons_succ, List.getElem_cons_zero, List.setIfInBounds_toArray, List.set_cons_zero, List.set_cons_succ]
            refine wpAnyH_done (by kernel_rfl) ?_ _
            go_wp2_with fail
            go_meet
            case rel => exact ⟨wt23.heap.size, wt0.heap.size, A6, c6, rfl, Kwt34.out, G9.out, rd_own R7.out rdA.out.small rdA.out.range, rd_made G7.out (by omega), nl6.out⟩
        · simp only [List.getElem_toArray, List.getElem_cons_succ, List.getElem_cons_zero]
          rw [if_pos (by rfl)]
          go_simp
          obtain ⟨wt35, hwt35⟩ : ∃ W, W = wt0.alloc (.cells #[.int .i64 0, .slice none 0 0, .slice none 0 0] 42) := ⟨_, rfl⟩
          have Jwt35 : Hid (Keep wt0 wt35) := by rw [hwt35]; exact Keep.one _ _
          have Kwt35 : Hid (Keep w2 wt35) := Kwt0.out.trans Jwt35.out
          have F9 : Hid (wt35.heap[wt0.heap.size]? = some (.cells #[.int .i64 0, .slice none 0 0, .slice none 0 0] 42 (0, 0))) := by rw [hwt35]; exact heap_alloc_new _ _
          rw [← hwt35]
          replace hwt35 := Lib.hid hwt35
          refine hK.out _ _ (HELD _ Kwt35.out) (fun hHeld => ?_)
          clear hK K
          try simp only [Act.put, List.getElem_toArray, List.getElem_cons_succ, List.getElem_cons_zero, List.setIfInBounds_toArray, List.set_cons_zero, List.set_cons_succ]
          refine wpAnyH_ready (rs := [2, 7]) (by kernel_rfl) (by simp) ?_
          refine (AllReadyH.cons rfl (fun K hK => ?_) (AllReadyH.cons rfl (fun K hK => ?_) AllReadyH.nil))
          · simp only [List.getElem_toArray, List.getElem_cons_succ, List.getElem_cons_zero]
            rw [if_pos (by rfl)]
            go_simp
            obtain ⟨wt36, hwt36⟩ : ∃ W, W = wt35.alloc (.cells #[] 2) := ⟨_, rfl⟩
            have Jwt36 : Hid (Keep wt35 wt36) := by rw [hwt36]; exact Keep.one _ _
            have Kwt36 : Hid (Keep w2 wt36) := Kwt35.out.trans Jwt36.out
            have L92 : Hid (wt0.heap.size < wt35.heap.size) := (Array.getElem?_eq_some_iff.1 F9.out).1
            replace F9 : Hid (wt36.heap[wt0.heap.size]? = some (.cells #[.int .i64 0, .slice none 0 0, .slice none 0 0] 42 (0, 0))) := Jwt36.out.block F9.out
            have F2 : Hid (wt36.heap[wt35.heap.size]? = some (.cells #[] 2 (0, 0))) := by rw [hwt36]; exact heap_alloc_new _ _
            rw [← hwt36]
            replace hwt36 := Lib.hid hwt36
            refine hK.out _ _ (HELD _ Kwt36.out) (fun hHeld => ?_)
            clear hK K
            try simp only [Act.put, List.getElem_toArray, List.getElem_cons_succ, List.getElem_cons_zero, List.setIfInBounds_toArray, List.set_cons_zero, List.set_cons_succ]
            refine wpAnyH_ready (rs := [5, 7]) (by kernel_rfl) (by simp) ?_
            refine (AllReadyH.cons rfl (fun K hK => ?_) (AllReadyH.cons rfl (fun K hK => ?_) AllReadyH.nil))
            · simp only [List.getElem_toArray, List.getElem_cons_succ, List.getElem_cons_zero]
              rw [if_pos (by rfl)]
              refine wp_amounts (.tmp 52) (.tmp 54) rfl w2.heap.size (.slice (some ⟨wt35.heap.size, 0, none⟩) 0 0) (by simp [Act.eval]) (own_none (by have := Kwt35.out.size; omega) F2.out) A n c Z (by simp [Act.eval]) (rdA.out.keep (K2.out.trans Kwt36.out)) nilA.out (by omega) (Kwt36.out.size) ?_
              intro v6 wt37 hr6 hg6
              obtain ⟨A6, c6, hv6, nl6⟩ := own_form hr6
              subst hv6
              have Jwt37 : Hid (Keep w2 wt37) := keep_grown Kwt36.out hg6 (fun q hq => by simp [Value.ownBlock] at hq; have := Kwt35.out.size; omega)
              have Kwt37 : Hid (Keep w2 wt37) := Jwt37.out
              replace F9 : Hid (wt37.heap[wt0.heap.size]? = some (.cells #[.int .i64 0, .slice none 0 0, .slice none 0 0] 42 (0, 0))) := (hg6.block _ (Array.getElem?_eq_some_iff.1 F9.out).1 (by have := L92.out; simp [Value.ownBlock]; omega)).trans F9.out
              have nl6 := Lib.hid nl6
              have R6 : Hid (wt37.ownsRow w2.heap.size 2 1 (.slice A6 n c6) n (rowL n Z)) := hr6
              clear hr6
              replace hg6 := Lib.hid hg6
              clear F2
              refine hK.out _ _ (HELD _ Kwt37.out) (fun hHeld => ?_)
              clear hK K
              try simp only [Act.put, List.setIfInBounds_toArray, List.set_cons_zero, List.set_cons_succ]
              refine wpAnyH_ready (rs := [7]) (by kernel_rfl) (by simp) ?_
              refine (AllReadyH.cons rfl (fun K hK => ?_) AllReadyH.nil)
              simp only [List.getElem_toArray, List.getElem_cons_succ, List.getElem_cons_zero]
              rw [if_pos (by rfl)]
              go_simp
              obtain ⟨wt38, hwt38⟩ : ∃ W, W = wt37.alloc (.cells (madeCells #[.int .i64 0] n) 2) := ⟨_, rfl⟩
              have Jwt38 : Hid (Keep wt37 wt38) := by rw [hwt38]; exact Keep.one _ _
              have Kwt38 : Hid (Keep w2 wt38) := Kwt37.out.trans Jwt38.out
              have L97 : Hid (wt0.heap.size < wt37.heap.size) := (Array.getElem?_eq_some_iff.1 F9.out).1
              replace F9 : Hid (wt38.heap[wt0.heap.size]? = some (.cells #[.int .i64 0, .slice none 0 0, .slice none 0 0] 42 (0, 0))) := Jwt38.out.block F9.out
              replace R6 : Hid (wt38.ownsRow w2.heap.size 2 1 (.slice A6 n c6) n (rowL n Z)) := own_keep R6.out Jwt38.out
              have F7 : Hid (wt38.heap[wt37.heap.size]? = some (.cells (madeCells #[.int .i64 0] n) 2 (0, 0))) := by rw [hwt38]; exact heap_alloc_new _ _
              rw [← hwt38]
              replace hwt38 := Lib.hid hwt38
              refine hK.out _ _ (HELD _ Kwt38.out) (fun hHeld => ?_)
              clear hK K
              try simp only [Act.put, List.getElem_toArray, List.getElem_cons_succ, List.getElem_cons_zero, List.setIfInBounds_toArray, List.set_cons_zero, List.set_cons_succ]
              refine wpAnyH_take (i := 8) (v := .agg #[.int .i64 k, .slice A6 n c6, .slice (some ⟨wt37.heap.size, 0, none⟩) n n]) rfl (by kernel_rfl) (by kernel_rfl) (by kernel_rfl) (fun _ _ _ h => h) (Or.inl ⟨by rfl, fun Wz hW => by obtain ⟨s0, s1⟩ := hW; go_simp⟩) hHeld ?_
              simp only [Act.put, List.getElem_toArray, List.getElem_cons_succ, List.getElem_cons_zero, List.setIfInBounds_toArray, List.set_cons_zero, List.set_cons_succ]
              refine wpAnyH_ready (rs := [10]) (by kernel_rfl) (by simp) ?_
              refine (AllReadyH.cons rfl (fun K hK => ?_) AllReadyH.nil)
              simp only [List.getElem_toArray, List.getElem_cons_succ, List.getElem_cons_zero]
              rw [if_pos (by rfl)]
              obtain ⟨c0, c1, c2, f0⟩ := celN F9.out
              go_simp
              obtain ⟨wt39, hwt39⟩ : ∃ W, W = ((wt38.setCell ⟨wt0.heap.size, 0, none⟩ (.int .i64 k)).setCell ⟨wt0.heap.size, 1, none⟩ (.slice A6 n c6)).setCell ⟨wt0.heap.size, 2, none⟩ (.slice (some ⟨wt37.heap.size, 0, none⟩) n n) := ⟨_, rfl⟩
              have Kwt39 : Hid (Keep w2 wt39) := by rw [hwt39]; have := Kwt0.out.size; exact ((Kwt38.out.set (by show _ ≤ wt0.heap.size; omega) _).set (by show _ ≤ wt0.heap.size; omega) _).set (by show _ ≤ wt0.heap.size; omega) _
              have R7 : Hid (wt39.ownsRow w2.heap.size 2 1 (.slice A6 n c6) n (rowL n Z)) := by rw [hwt39]; exact own_blocks1 R6.out fun g hg => set3_other (row_ne R6.out F9.out (by decide) g hg)
              have G7 : Hid (wt39.heap[wt37.heap.size]? = some (.cells (madeCells #[.int .i64 0] n) 2 (0, 0))) := by rw [hwt39]; exact (set3_other (by have := L97.out; omega)).trans F7.out
              have G9 : Hid (wt39.heap[wt0.heap.size]? = some (.cells #[.int .i64 k, .slice A6 n c6, .slice (some ⟨wt37.heap.size, 0, none⟩) n n] 42 (0, 0))) := by rw [hwt39]; exact set3N F9.out
              clear c0 c1 c2 f0
              rw [← hwt39]
              replace hwt39 := Lib.hid hwt39
              refine hK.out _ _ (HELD _ Kwt39.out) (fun hHeld => ?_)
              clear hK K
              try simp only [Act.put, List.getElem_toArray, List.getElem_cons_succ, List.getElem_cons_zero, List.setIfInBounds_toArray, List.set_cons_zero, List.set_cons_succ]
              refine wpAnyH_done (by kernel_rfl) ?_ _
              go_wp2_with fail
              go_meet
              case rel => exact ⟨wt0.heap.size, wt37.heap.size, A6, c6, rfl, Kwt39.out, G9.out, rd_own R7.out rdA.out.small rdA.out.range, rd_made G7.out (by omega), nl6.out⟩
            · simp only [List.getElem_toArray, List.getElem_cons_succ, List.getElem_cons_zero]
              rw [if_pos (by rfl)]
              go_simp
              obtain ⟨wt40, hwt40⟩ : ∃ W, W = wt36.alloc (.cells (madeCells #[.int .i64 0] n) 2) := ⟨_, rfl⟩
              have Jwt40 : Hid (Keep wt36 wt40) := by rw [hwt40]; exact Keep.one _ _
              have Kwt40 : Hid (Keep w2 wt40) := Kwt36.out.trans Jwt40.out
              have L97 : Hid (wt0.heap.size < wt36.heap.size) := (Array.getElem?_eq_some_iff.1 F9.out).1
              have L27 : Hid (wt35.heap.size < wt36.heap.size) := (Array.getElem?_eq_some_iff.1 F2.out).1
              replace F9 : Hid (wt40.heap[wt0.heap.size]? = some (.cells #[.int .i64 0, .slice none 0 0, .slice none 0 0] 42 (0, 0))) := Jwt40.out.block F9.out
              replace F2 : Hid (wt40.heap[wt35.heap.size]? = some (.cells #[] 2 (0, 0))) := Jwt40.out.block F2.out
              have F7 : Hid (wt40.heap[wt36.heap.size]? = some (.cells (madeCells #[.int .i64 0] n) 2 (0, 0))) := by rw [hwt40]; exact heap_alloc_new _ _
              rw [← hwt40]
              replace hwt40 := Lib.hid hwt40
              refine hK.out _ _ (HELD _ Kwt40.out) (fun hHeld => ?_)
              clear hK K
              try simp only [Act.put, List.getElem_toArray, List.getElem_cons_succ, List.getElem_cons_zero, List.setIfInBounds_toArray, List.set_cons_zero, List.set_cons_succ]
              refine wpAnyH_ready (rs := [5]) (by kernel_rfl) (by simp) ?_
              refine (AllReadyH.cons rfl (fun K hK => ?_) AllReadyH.nil)
              simp only [List.getElem_toArray, List.getElem_cons_succ, List.getElem_cons_zero]
              rw [if_pos (by rfl)]
              refine wp_amounts (.tmp 52) (.tmp 54) rfl w2.heap.size (.slice (some ⟨wt35.heap.size, 0, none⟩) 0 0) (by simp [Act.eval]) (own_none (by have := Kwt35.out.size; omega) F2.out) A n c Z (by simp [Act.eval]) (rdA.out.keep (K2.out.trans Kwt40.out)) nilA.out (by omega) (Kwt40.out.size) ?_
              intro v6 wt41 hr6 hg6
              obtain ⟨A6, c6, hv6, nl6⟩ := own_form hr6
              subst hv6
              have Jwt41 : Hid (Keep w2 wt41) := keep_grown Kwt40.out hg6 (fun q hq => by simp [Value.ownBlock] at hq; have := Kwt35.out.size; omega)
              have Kwt41 : Hid (Keep w2 wt41) := Jwt41.out
              replace F9 : Hid (wt41.heap[wt0.heap.size]? = some (.cells #[.int .i64 0, .slice none 0 0, .slice none 0 0] 42 (0, 0))) := (hg6.block _ (Array.getElem?_eq_some_iff.1 F9.out).1 (by have := L92.out; simp [Value.ownBlock]; omega)).trans F9.out
              replace F7 : Hid (wt41.heap[wt36.heap.size]? = some (.cells (madeCells #[.int .i64 0] n) 2 (0, 0))) := (hg6.block _ (Array.getElem?_eq_some_iff.1 F7.out).1 (by have := L27.out; simp [Value.ownBlock]; omega)).trans F7.out
              have nl6 := Lib.hid nl6
              have R6 : Hid (wt41.ownsRow w2.heap.size 2 1 (.slice A6 n c6) n (rowL n Z)) := hr6
              clear hr6
              replace hg6 := Lib.hid hg6
              clear F2
              refine hK.out _ _ (HELD _ Kwt41.out) (fun hHeld => ?_)
              clear hK K
              try simp only [Act.put, List.setIfInBounds_toArray, List.set_cons_zero, List.set_cons_succ]
              refine wpAnyH_take (i := 8) (v := .agg #[.int .i64 k, .slice A6 n c6, .slice (some ⟨wt36.heap.size, 0, none⟩) n n]) rfl (by kernel_rfl) (by kernel_rfl) (by kernel_rfl) (fun _ _ _ h => h) (Or.inl ⟨by rfl, fun Wz hW => by obtain ⟨s0, s1⟩ := hW; go_simp⟩) hHeld ?_
              simp only [Act.put, List.getElem_toArray, List.getElem_cons_succ, List.getElem_cons_zero, List.setIfInBounds_toArray, List.set_cons_zero, List.set_cons_succ]
              refine wpAnyH_ready (rs := [10]) (by kernel_rfl) (by simp) ?_
              refine (AllReadyH.cons rfl (fun K hK => ?_) AllReadyH.nil)
              simp only [List.getElem_toArray, List.getElem_cons_succ, List.getElem_cons_zero]
              rw [if_pos (by rfl)]
              obtain ⟨c0, c1, c2, f0⟩ := celN F9.out
              go_simp
              obtain ⟨wt42, hwt42⟩ : ∃ W, W = ((wt41.setCell ⟨wt0.heap.size, 0, none⟩ (.int .i64 k)).setCell ⟨wt0.heap.size, 1, none⟩ (.slice A6 n c6)).setCell ⟨wt0.heap.size, 2, none⟩ (.slice (some ⟨wt36.heap.size, 0, none⟩) n n) := ⟨_, rfl⟩
              have Kwt42 : Hid (Keep w2 wt42) := by rw [hwt42]; have := Kwt0.out.size; exact ((Kwt41.out.set (by show _ ≤ wt0.heap.size; omega) _).set (by show _ ≤ wt0.heap.size; omega) _).set (by show _ ≤ wt0.heap.size; omega) _
              have R7 : Hid (wt42.ownsRow w2.heap.size 2 1 (.slice A6 n c6) n (rowL n Z)) := by rw [hwt42]; exact own_blocks1 R6.out fun g hg => set3_other (row_ne R6.out F9.out (by decide) g hg)
              have G7 : Hid (wt42.heap[wt36.heap.size]? = some (.cells (madeCells #[.int .i64 0] n) 2 (0, 0))) := by rw [hwt42]; exact (set3_other (by have := L97.out; omega)).trans F7.out
              have G9 : Hid (wt42.heap[wt0.heap.size]? = some (.cells #[.int .i64 k, .slice A6 n c6, .slice (some ⟨wt36.heap.size, 0, none⟩) n n] 42 (0, 0))) := by rw [hwt42]; exact set3N F9.out
              clear c0 c1 c2 f0
              rw [← hwt42]
              replace hwt42 := Lib.hid hwt42
              refine hK.out _ _ (HELD _ Kwt42.out) (fun hHeld => ?_)
              clear hK K
              try simp only [Act.put, List.getElem_toArray, List.getElem_cons_succ, List.getElem_cons_zero, List.setIfInBounds_toArray, List.set_cons_zero, List.set_cons_succ]
              refine wpAnyH_done (by kernel_rfl) ?_ _
              go_wp2_with fail
              go_meet
              case rel => exact ⟨wt0.heap.size, wt36.heap.size, A6, c6, rfl, Kwt42.out, G9.out, rd_own R7.out rdA.out.small rdA.out.range, rd_made G7.out (by omega), nl6.out⟩
          · simp only [List.getElem_toArray, List.getElem_cons_succ, List.getElem_cons_zero]
            rw [if_pos (by rfl)]
            go_simp
            obtain ⟨wt43, hwt43⟩ : ∃ W, W = wt35.alloc (.cells (madeCells #[.int .i64 0] n) 2) := ⟨_, rfl⟩
            have Jwt43 : Hid (Keep wt35 wt43) := by rw [hwt43]; exact Keep.one _ _
            have Kwt43 : Hid (Keep w2 wt43) := Kwt35.out.trans Jwt43.out
            have L97 : Hid (wt0.heap.size < wt35.heap.size) := (Array.getElem?_eq_some_iff.1 F9.out).1
            replace F9 : Hid (wt43.heap[wt0.heap.size]? = some (.cells #[.int .i64 0, .slice none 0 0, .slice none 0 0] 42 (0, 0))) := Jwt43.out.block F9.out
            have F7 : Hid (wt43.heap[wt35.heap.size]? = some (.cells (madeCells #[.int .i64 0] n) 2 (0, 0))) := by rw [hwt43]; exact heap_alloc_new _ _
            rw [← hwt43]
            replace hwt43 := Lib.hid hwt43
            refine hK.out _ _ (HELD _ Kwt43.out) (fun hHeld => ?_)
            clear hK K
            try simp only [Act.put, List.getElem_toArray, List.getElem_cons_succ, List.getElem_cons_zero, List.setIfInBounds_toArray, List.set_cons_zero, List.set_cons_succ]
            refine wpAnyH_ready (rs := [2]) (by kernel_rfl) (by simp) ?_
            refine (AllReadyH.cons rfl (fun K hK => ?_) AllReadyH.nil)
            simp only [List.getElem_toArray, List.getElem_cons_succ, List.getElem_cons_zero]
            rw [if_pos (by rfl)]
            go_simp
            obtain ⟨wt44, hwt44⟩ : ∃ W, W = wt43.alloc (.cells #[] 2) := ⟨_, rfl⟩
            have Jwt44 : Hid (Keep wt43 wt44) := by rw [hwt44]; exact Keep.one _ _
            have Kwt44 : Hid (Keep w2 wt44) := Kwt43.out.trans Jwt44.out
            have L92 : Hid (wt0.heap.size < wt43.heap.size) := (Array.getElem?_eq_some_iff.1 F9.out).1
            have L72 : Hid (wt35.heap.size < wt43.heap.size) := (Array.getElem?_eq_some_iff.1 F7.out).1
            replace F9 : Hid (wt44.heap[wt0.heap.size]? = some (.cells #[.int .i64 0, .slice none 0 0, .slice none 0 0] 42 (0, 0))) := Jwt44.out.block F9.out
            replace F7 : Hid (wt44.heap[wt35.heap.size]? = some (.cells (madeCells #[.int .i64 0] n) 2 (0, 0))) := Jwt44.out.block F7.out
            have F2 : Hid (wt44.heap[wt43.heap.size]? = some (.cells #[] 2 (0, 0))) := by rw [hwt44]; exact heap_alloc_new _ _
            rw [← hwt44]
            replace hwt44 := Lib.hid hwt44
            refine hK.out _ _ (HELD _ Kwt44.out) (fun hHeld => ?_)
            clear hK K
            try simp only [Act.put, List.getElem_toArray, List.getElem_cons_succ, List.getElem_cons_zero, List.setIfInBounds_toArray, List.set_cons_zero, List.set_cons_succ]
            refine wpAnyH_ready (rs := [5]) (by kernel_rfl) (by simp) ?_
            refine (AllReadyH.cons rfl (fun K hK => ?_) AllReadyH.nil)
            simp only [List.getElem_toArray, List.getElem_cons_succ, List.getElem_cons_zero]
            rw [if_pos (by rfl)]
            refine wp_amounts (.tmp 52) (.tmp 54) rfl w2.heap.size (.slice (some ⟨wt43.heap.size, 0, none⟩) 0 0) (by simp [Act.eval]) (own_none (by have := Kwt43.out.size; omega) F2.out) A n c Z (by simp [Act.eval]) (rdA.out.keep (K2.out.trans Kwt44.out)) nilA.out (by omega) (Kwt44.out.size) ?_
            intro v6 wt45 hr6 hg6
            obtain ⟨A6, c6, hv6, nl6⟩ := own_form hr6
            subst hv6
            have Jwt45 : Hid (Keep w2 wt45) := keep_grown Kwt44.out hg6 (fun q hq => by simp [Value.ownBlock] at hq; have := Kwt43.out.size; omega)
            have Kwt45 : Hid (Keep w2 wt45) := Jwt45.out
            replace F9 : Hid (wt45.heap[wt0.heap.size]? = some (.cells #[.int .i64 0, .slice none 0 0, .slice none 0 0] 42 (0, 0))) := (hg6.block _ (Array.getElem?_eq_some_iff.1 F9.out).1 (by have := L92.out; simp [Value.ownBlock]; omega)).trans F9.out
            replace F7 : Hid (wt45.heap[wt35.heap.size]? = some (.cells (madeCells #[.int .i64 0] n) 2 (0, 0))) := (hg6.block _ (Array.getElem?_eq_some_iff.1 F7.out).1 (by have := L72.out; simp [Value.ownBlock]; omega)).trans F7.out
            have nl6 := Lib.hid nl6
            have R6 : Hid (wt45.ownsRow w2.heap.size 2 1 (.slice A6 n c6) n (rowL n Z)) := hr6
            clear hr6
            replace hg6 := Lib.hid hg6
            clear F2
            refine hK.out _ _ (HELD _ Kwt45.out) (fun hHeld => ?_)
            clear hK K
            try simp only [Act.put, List.setIfInBounds_toArray, List.set_cons_zero, List.set_cons_succ]
            refine wpAnyH_take (i := 8) (v := .agg #[.int .i64 k, .slice A6 n c6, .slice (some ⟨wt35.heap.size, 0, none⟩) n n]) rfl (by kernel_rfl) (by kernel_rfl) (by kernel_rfl) (fun _ _ _ h => h) (Or.inl ⟨by rfl, fun Wz hW => by obtain ⟨s0, s1⟩ := hW; go_simp⟩) hHeld ?_
            simp only [Act.put, List.getElem_toArray, List.getElem_cons_succ, List.getElem_cons_zero, List.setIfInBounds_toArray, List.set_cons_zero, List.set_cons_succ]
            refine wpAnyH_ready (rs := [10]) (by kernel_rfl) (by simp) ?_
            refine (AllReadyH.cons rfl (fun K hK => ?_) AllReadyH.nil)
            simp only [List.getElem_toArray, List.getElem_cons_succ, List.getElem_cons_zero]
            rw [if_pos (by rfl)]
            obtain ⟨c0, c1, c2, f0⟩ := celN F9.out
            go_simp
            obtain ⟨wt46, hwt46⟩ : ∃ W, W = ((wt45.setCell ⟨wt0.heap.size, 0, none⟩ (.int .i64 k)).setCell ⟨wt0.heap.size, 1, none⟩ (.slice A6 n c6)).setCell ⟨wt0.heap.size, 2, none⟩ (.slice (some ⟨wt35.heap.size, 0, none⟩) n n) := ⟨_, rfl⟩
            have Kwt46 : Hid (Keep w2 wt46) := by rw [hwt46]; have := Kwt0.out.size; exact ((Kwt45.out.set (by show _ ≤ wt0.heap.size; omega) _).set (by show _ ≤ wt0.heap.size; omega) _).set (by show _ ≤ wt0.heap.size; omega) _
            have R7 : Hid (wt46.ownsRow w2.heap.size 2 1 (.slice A6 n c6) n (rowL n Z)) := by rw [hwt46]; exact own_blocks1 R6.out fun g hg => set3_other (row_ne R6.out F9.out (by decide) g hg)
            have G7 : Hid (wt46.heap[wt35.heap.size]? = some (.cells (madeCells #[.int .i64 0] n) 2 (0, 0))) := by rw [hwt46]; exact (set3_other (by have := L97.out; omega)).trans F7.out
            have G9 : Hid (wt46.heap[wt0.heap.size]? = some (.cells #[.int .i64 k, .slice A6 n c6, .slice (some ⟨wt35.heap.size, 0, none⟩) n n] 42 (0, 0))) := by rw [hwt46]; exact set3N F9.out
            clear c0 c1 c2 f0
            rw [← hwt46]
            replace hwt46 := Lib.hid hwt46
            refine hK.out _ _ (HELD _ Kwt46.out) (fun hHeld => ?_)
            clear hK K
            try simp only [Act.put, List.getElem_toArray, List.getElem_cons_succ, List.getElem_cons_zero, List.setIfInBounds_toArray, List.set_cons_zero, List.set_cons_succ]
            refine wpAnyH_done (by kernel_rfl) ?_ _
            go_wp2_with fail
            go_meet
            case rel => exact ⟨wt0.heap.size, wt35.heap.size, A6, c6, rfl, Kwt46.out, G9.out, rd_own R7.out rdA.out.small rdA.out.range, rd_made G7.out (by omega), nl6.out⟩
      case rest =>
        obtain ⟨g, g2, A', c', rfl, Kx, Gx, RA, RU, nA'⟩ := hcut
        have KC : Hid (Keep w1 wc) := K2.out.trans Kx.out
        clear y0 y1 hbl
        obtain ⟨x, hx⟩ : ∃ x : RnV, x = ⟨k, A', n, c', Z, some ⟨g2, 0, none⟩, n, n, fun _ => 0⟩ := ⟨_, rfl⟩
        have Bx : Hid (wc.heap[g]? = some (.cells #[.int .i64 x.k, .slice x.A x.n x.c, .slice x.B x.m x.d] 42 (0, 0))) := by rw [hx]; exact Gx.out
        have ex : Hid (x.k = k) := by rw [hx]; exact rfl
        have isx : Hid (NIs wc n x) := by rw [hx]; exact ⟨rfl, rfl, RA.out, RU.out, nA'.out, fun h => by cases h⟩
        have nx : Hid (node x = ⟨k, Z, fun _ => 0⟩) := by rw [hx]; exact rfl
        have okx : Hid (RnOk x) := ⟨by rw [ex.out]; exact hkr.out, trivial⟩
        have fin2 : Hid (rnCs P (0) ++ x.cells ++ rnCs (fun t => P ((0) + t)) (0 - (0)) = rnCs (row (insL x (lst P 0))) (0 + 1)) := ins_row (by omega) (by rw [hlst.out]; exact hs.out) (fun t h1 h2 => (bef_iff _ _).2 (by rw [ex.out]; exact absurd h2 (by omega))) (Or.inl rfl)
        have fin3 : Hid (∀ (B5 : Option Addr) (d5 : Nat) (w5 : World), Keep wc w5 → w5.ownsRow wc.heap.size 42 3 (.slice B5 (0 + 1) d5) (0 + 1) (rnCs (row (insL x (lst P 0))) (0 + 1)) → ∃ B' c' l', Ending.returned (.tuple #[.slice B5 (0 + 1 : Nat) d5, .int .i64 0, .int .i64 0]) = .returned (.tuple #[.slice B' l'.length c', .int .i64 0, .int .i64 0]) ∧ Keep w w5 ∧ RL w5 n B' c' l' ∧ l'.map node = G.ins NodeV.k ⟨k, Z, fun _ => 0⟩ (l.map node)) := fun B5 d5 w5 k5 ho => radd_end H.out x isx.out okx.out nx.out (KW.out.trans KC.out) k5 hN.out hlst.out (by omega) ho
        obtain ⟨x0, x1, x2, _⟩ := celN Bx.out
        have hbl := cell_lt x0
        clear hx Kx Gx RA RU nA'
        go_wp2_with fail
        go_region_law (first
          | (refine step_own Tryz.tyN12 rfl (.tmp 59) (.tmp 62) rfl wc.heap.size (.slice (some ⟨wc.heap.size, 0, none⟩) 0 0) 0 [] (by simp [Act.eval]) (own_empty (by omega) (heap_alloc_new _ _)) (.slice none 0 0) (0) (rnCs P (0)) (by simp [Act.eval]) ((fun (_ : Keep w1 _) => (.inl ⟨rfl, rfl, rfl⟩ : SrcC _ _ _ _)) (KC.out.trans (by repeat (first | exact Keep.refl _ | apply Keep.alloc | apply Keep.drew)))) (rnCs_one _ _) (by omega) (by simp <;> omega) _ (Nat.zero_add _) ?_; intro v3 w3 hr3 hg3; have K3 : Hid (Keep wc w3) := keep_grown (by repeat (first | exact Keep.refl _ | apply Keep.alloc | apply Keep.drew)) hg3 (fun q hq => by simp [Value.ownBlock] at hq; omega); have z0 := K3.out.cell x0; have z1 := K3.out.cell x1; have z2 := K3.out.cell x2; simp only [List.nil_append] at hr3; replace hr3 := Lib.hid hr3; replace hg3 := Lib.hid hg3)
          | (refine step_own Tryz.tyN12 rfl (.tmp 59) (.tmp 62) rfl wc.heap.size (.slice (some ⟨wc.heap.size, 0, none⟩) 0 0) 0 [] (by simp [Act.eval]) (own_empty (by omega) (hp1 _ _ _ _)) (.slice none 0 0) (0) (rnCs P (0)) (by simp [Act.eval]) ((fun (_ : Keep w1 _) => (.inl ⟨rfl, rfl, rfl⟩ : SrcC _ _ _ _)) (KC.out.trans (by repeat (first | exact Keep.refl _ | apply Keep.alloc | apply Keep.drew)))) (rnCs_one _ _) (by omega) (by simp <;> omega) _ (Nat.zero_add _) ?_; intro v3 w3 hr3 hg3; have K3 : Hid (Keep wc w3) := keep_grown (by repeat (first | exact Keep.refl _ | apply Keep.alloc | apply Keep.drew)) hg3 (fun q hq => by simp [Value.ownBlock] at hq; omega); have z0 := K3.out.cell x0; have z1 := K3.out.cell x1; have z2 := K3.out.cell x2; have B3 : Hid (w3.heap[wc.heap.size + 1]? = some (.cells #[.int .i64 x.k, .slice x.A x.n x.c, .slice x.B x.m x.d] 42 (0, 0))) := (hg3.block (wc.heap.size + 1) (by simp) (by simp [Value.ownBlock])).trans (hp2 _ _ _ _); simp only [List.nil_append] at hr3; replace hr3 := Lib.hid hr3; replace hg3 := Lib.hid hg3)
          | (refine step_own Tryz.tyN12 rfl (.tmp 59) (.tmp 62) rfl wc.heap.size (.slice (some ⟨wc.heap.size + 1, 0, none⟩) 0 0) 0 [] (by simp [Act.eval]) (own_empty (by omega) (hp2 _ _ _ _)) (.slice none 0 0) (0) (rnCs P (0)) (by simp [Act.eval]) ((fun (_ : Keep w1 _) => (.inl ⟨rfl, rfl, rfl⟩ : SrcC _ _ _ _)) (KC.out.trans (by repeat (first | exact Keep.refl _ | apply Keep.alloc | apply Keep.drew)))) (rnCs_one _ _) (by omega) (by simp <;> omega) _ (Nat.zero_add _) ?_; intro v3 w3 hr3 hg3; have K3 : Hid (Keep wc w3) := keep_grown (by repeat (first | exact Keep.refl _ | apply Keep.alloc | apply Keep.drew)) hg3 (fun q hq => by simp [Value.ownBlock] at hq; omega); have z0 := K3.out.cell x0; have z1 := K3.out.cell x1; have z2 := K3.out.cell x2; have B3 : Hid (w3.heap[wc.heap.size]? = some (.cells #[.int .i64 x.k, .slice x.A x.n x.c, .slice x.B x.m x.d] 42 (0, 0))) := (hg3.block wc.heap.size (by simp <;> omega) (by simp [Value.ownBlock])).trans (hp1 _ _ _ _); simp only [List.nil_append] at hr3; replace hr3 := Lib.hid hr3; replace hg3 := Lib.hid hg3)
          | (refine step_own Tryz.tyN12 rfl (.tmp 63) (.tmp 65) rfl wc.heap.size v3 (0) (rnCs P (0)) (by simp [Act.eval]) (hr3.out) (.slice (some ⟨wc.heap.size + 1, 0, none⟩) 1 1) 1 x.cells (by simp [Act.eval]) (src_one B3.out) (cells_one _) (by omega) (by have := K3.out.size; simp <;> omega) _ rfl ?_; intro v4 w4 hr4 hg4; have K4 : Hid (Keep wc w4) := keep_grown (K3.out) hg4 (fun q hq => (hr3.out.lt q hq).1); replace hr4 := Lib.hid hr4; replace hg4 := Lib.hid hg4)
          | (refine step_own Tryz.tyN12 rfl (.tmp 63) (.tmp 65) rfl wc.heap.size v3 (0) (rnCs P (0)) (by simp [Act.eval]) (hr3.out) (.slice (some ⟨wc.heap.size, 0, none⟩) 1 1) 1 x.cells (by simp [Act.eval]) (src_one B3.out) (cells_one _) (by omega) (by have := K3.out.size; simp <;> omega) _ rfl ?_; intro v4 w4 hr4 hg4; have K4 : Hid (Keep wc w4) := keep_grown (K3.out) hg4 (fun q hq => (hr3.out.lt q hq).1); replace hr4 := Lib.hid hr4; replace hg4 := Lib.hid hg4)
          | (refine step_own Tryz.tyN12 rfl (.tmp 63) (.tmp 65) rfl wc.heap.size v3 (0) (rnCs P (0)) (by simp [Act.eval]) (own_keep hr3.out (Keep.one _ _)) (.slice (some ⟨w3.heap.size, 0, none⟩) 1 1) 1 x.cells (by simp [Act.eval]) (src_one (heap_alloc_new _ _)) (cells_one _) (by omega) (by have := K3.out.size; simp <;> omega) _ rfl ?_; intro v4 w4 hr4 hg4; have K4 : Hid (Keep wc w4) := keep_grown (K3.out.trans (Keep.one _ _)) hg4 (fun q hq => (hr3.out.lt q hq).1); replace hr4 := Lib.hid hr4; replace hg4 := Lib.hid hg4)
          | (refine step_own Tryz.tyN12 rfl (.tmp 66) (.tmp 69) rfl wc.heap.size v4 (0 + 1) (rnCs P (0) ++ x.cells) (by simp [Act.eval]) hr4.out (.slice none 0 0) (0 - (0)) (rnCs (fun t => P ((0) + t)) (0 - (0))) (by simp [Act.eval]) ((fun (_ : Keep w1 _) => (.inl ⟨rfl, rfl, rfl⟩ : SrcC _ _ _ _)) (KC.out.trans K4.out)) (rnCs_one _ _) (by omega) (by have := K4.out.size; simp <;> omega) (0 + 1) (by omega) ?_; intro v5 w5 hr5 hg5; have K5 : Hid (Keep wc w5) := keep_grown K4.out hg5 (fun q hq => (hr4.out.lt q hq).1); replace hg5 := Lib.hid hg5; obtain ⟨B5, d5, hv5, _⟩ := own_form hr5; subst hv5; replace hr5 := Lib.hid hr5))
        all_goals
          have RF : Hid (w5.ownsRow wc.heap.size 42 3 (.slice B5 (0 + 1) d5) (0 + 1) (rnCs (row (insL x (lst P 0))) (0 + 1))) := by
            show World.ownsRow _ _ _ _ _ _ _
            rw [← fin2.out]
            exact hr5.out
          go_wp2
          all_goals
            go_ret3
            exact fin3.out B5 d5 w5 K5.out RF.out
  · have CA : Hid (∀ j, j < N → CelN w1 b (off + j * 3) (P j)) := fun j hj => by
      obtain ⟨b', off', e', ca⟩ := RW.adr (by omega)
      have e2 := Option.some.inj e'
      simp only [Addr.mk.injEq, and_true] at e2
      rw [e2.1, e2.2]
      exact ca j hj
    replace RW := Lib.hid RW
    go_wp2
    go_loopg [12] N (fun gx s8 wr => ∃ j : Nat, s8 = .int .i64 j ∧ j ≤ N ∧ j = gx ∧ Hid (Gr w1 wr) ∧ Hid (∀ t, j ≤ t → t < N → k < (P t).k))
    case atStart => exact ⟨N, rfl, Nat.le_refl _, rfl, Gr.refl _, fun t h1 h2 => absurd h2 (by omega)⟩
    case round =>
      obtain ⟨j, rfl, hji, rfl, GQ, CM⟩ := hrel
      rcases Nat.eq_zero_or_pos j with rfl | hj0
      · go_wp2_with fail
        go_quiet (fail)
        have G2 : Hid (Gr w1 (wr.drewN nq)) := GQ.out.drewN nq
        generalize wr.drewN nq = w2 at G2 ⊢
        have K2 : Hid (Keep w1 w2) := G2.out.keep
        have y0 := K2.out.cell u0
        have y1 := K2.out.cell u1
        have hbl := cell_lt y0
        go_upto_region 11 with fail
        go_cut [13] from 50 to 58 (fun s wx => ∃ (g g2 : Nat) (A' : Option Addr) (c' : Nat), s = .pointer (some ⟨g, 0, none⟩) ∧ Hid (Keep w2 wx) ∧ Hid (wx.heap[g]? = some (.cells #[.int .i64 k, .slice A' n c', .slice (some ⟨g2, 0, none⟩) n n] 42 (0, 0))) ∧ Hid (Rd wx A' n Z) ∧ Hid (Rd wx (some ⟨g2, 0, none⟩) n fun _ => 0) ∧ Hid (A' = none → n = 0 ∧ c' = 0))
        case first =>
          have HELD : ∀ Wz, Keep w2 Wz → (Wz.cell? ⟨w.heap.size, 0, none⟩ = some (.int .i64 k) ∧ Wz.cell? ⟨w.heap.size, 1, none⟩ = some (.slice A n c)) := fun Wz KK => ⟨KK.cell y0, KK.cell y1⟩
          refine wp_region_held_drew (S := fun w' => w'.cell? ⟨w.heap.size, 0, none⟩ = some (.int .i64 k) ∧ w'.cell? ⟨w.heap.size, 1, none⟩ = some (.slice A n c)) (by kernel_rfl) ?_ (fun hHeld => ?_)
          · exact HELD _ (Keep.refl w2).drew
          obtain ⟨wt0, hwt0⟩ : ∃ W, W = w2.drew := ⟨_, rfl⟩
          have Kwt0 : Hid (Keep w2 wt0) := by rw [hwt0]; exact (Keep.refl _).drew
          rw [← hwt0] at hHeld ⊢
          replace hwt0 := Lib.hid hwt0
          refine wpAnyH_take (i := 0) (v := .pointer (some ⟨w.heap.size, 0, none⟩)) rfl (by kernel_rfl) (by kernel_rfl) (by kernel_rfl) (fun _ _ _ h => h) (Or.inl ⟨by rfl, fun Wz hW => by obtain ⟨s0, s1⟩ := hW; go_simp⟩) hHeld ?_
          simp only [Act.put, List.getElem_toArray, List.getElem_cons_zero, List.setIfInBounds_toArray, List.set_cons_zero, List.set_cons_succ]
          refine wpAnyH_take (i := 1) (v := .int .i64 k) rfl (by kernel_rfl) (by kernel_rfl) (by kernel_rfl) (fun _ _ _ h => h) (Or.inl ⟨by rfl, fun Wz hW => by obtain ⟨s0, s1⟩ := hW; go_simp⟩) hHeld ?_
          simp only [Act.put, List.getElem_toArray, List.getElem_cons_succ, List.getElem_cons_zero, List.setIfInBounds_toArray, List.set_cons_zero, List.set_cons_succ]
          refine wpAnyH_take (i := 3) (v := .pointer (some ⟨w.heap.size, 1, none⟩)) rfl (by kernel_rfl) (by kernel_rfl) (by kernel_rfl) (fun _ _ _ h => h) (Or.inl ⟨by rfl, fun Wz hW => by obtain ⟨s0, s1⟩ := hW; go_simp⟩) hHeld ?_
          simp only [Act.put, List.getElem_toArray, List.getElem_cons_succ, List.getElem_cons_zero, List.setIfInBounds_toArray, List.set_cons_zero, List.set_cons_succ]
          refine wpAnyH_take (i := 4) (v := .slice A n c) rfl (by kernel_rfl) (by kernel_rfl) (by kernel_rfl) (fun _ _ _ h => h) (Or.inl ⟨by rfl, fun Wz hW => by obtain ⟨s0, s1⟩ := hW; go_simp⟩) hHeld ?_
          simp only [Act.put, List.getElem_toArray, List.getElem_cons_succ, List.getElem_cons_zero, List.setIfInBounds_toArray, List.set_cons_zero, List.set_cons_succ]
          refine wpAnyH_take (i := 6) (v := .int .i64 n) rfl (by kernel_rfl) (by kernel_rfl) (by kernel_rfl) (fun _ _ _ h => h) (Or.inl ⟨by rfl, fun Wz hW => by obtain ⟨s0, s1⟩ := hW; go_simp⟩) hHeld ?_
          simp only [Act.put, List.getElem_toArray, List.getElem_cons_succ, List.getElem_cons_zero, List.setIfInBounds_toArray, List.set_cons_zero, List.set_cons_succ]
          refine wpAnyH_ready (rs := [2, 7, 9]) (by kernel_rfl) (by simp) ?_
          refine (AllReadyH.cons rfl (fun K hK => ?_) (AllReadyH.cons rfl (fun K hK => ?_) (AllReadyH.cons rfl (fun K hK => ?_) AllReadyH.nil)))
          · simp only [List.getElem_toArray, List.getElem_cons_succ, List.getElem_cons_zero]
            rw [if_pos (by rfl)]
            go_simp
            obtain ⟨wt1, hwt1⟩ : ∃ W, W = wt0.alloc (.cells #[] 2) := ⟨_, rfl⟩
            have Jwt1 : Hid (Keep wt0 wt1) := by rw [hwt1]; exact Keep.one _ _
            have Kwt1 : Hid (Keep w2 wt1) := Kwt0.out.trans Jwt1.out
            have F2 : Hid (wt1.heap[wt0.heap.size]? = some (.cells #[] 2 (0, 0))) := by rw [hwt1]; exact heap_alloc_new _ _
            rw [← hwt1]
            replace hwt1 := Lib.hid hwt1
            refine hK.out _ _ (HELD _ Kwt1.out) (fun hHeld => ?_)
            clear hK K
            try simp only [Act.put, List.getElem_toArray, List.getElem_cons_succ, List.getElem_cons_zero, List.setIfInBounds_toArray, List.set_cons_zero, List.set_cons_succ]
            refine wpAnyH_ready (rs := [5, 7, 9]) (by kernel_rfl) (by simp) ?_
            refine (AllReadyH.cons rfl (fun K hK => ?_) (AllReadyH.cons rfl (fun K hK => ?_) (AllReadyH.cons rfl (fun K hK => ?_) AllReadyH.nil)))
            · simp only [List.getElem_toArray, List.getElem_cons_succ, List.getElem_cons_zero]
              rw [if_pos (by rfl)]
              refine wp_amounts (.tmp 52) (.tmp 54) rfl w2.heap.size (.slice (some ⟨wt0.heap.size, 0, none⟩) 0 0) (by simp [Act.eval]) (own_none (by have := Kwt0.out.size; omega) F2.out) A n c Z (by simp [Act.eval]) (rdA.out.keep (K2.out.trans Kwt1.out)) nilA.out (by omega) (Kwt1.out.size) ?_
              intro v6 wt2 hr6 hg6
              obtain ⟨A6, c6, hv6, nl6⟩ := own_form hr6
              subst hv6
              have Jwt2 : Hid (Keep w2 wt2) := keep_grown Kwt1.out hg6 (fun q hq => by simp [Value.ownBlock] at hq; have := Kwt0.out.size; omega)
              have Kwt2 : Hid (Keep w2 wt2) := Jwt2.out
              have nl6 := Lib.hid nl6
              have R6 : Hid (wt2.ownsRow w2.heap.size 2 1 (.slice A6 n c6) n (rowL n Z)) := hr6
              clear hr6
              replace hg6 := Lib.hid hg6
              clear F2
              refine hK.out _ _ (HELD _ Kwt2.out) (fun hHeld => ?_)
              clear hK K
              try simp only [Act.put, List.setIfInBounds_toArray, List.set_cons_zero, List.set_cons_succ]
              refine wpAnyH_ready (rs := [7, 9]) (by kernel_rfl) (by simp) ?_
              refine (AllReadyH.cons rfl (fun K hK => ?_) (AllReadyH.cons rfl (fun K hK => ?_) AllReadyH.nil))
              · simp only [List.getElem_toArray, List.getElem_cons_succ, List.getElem_cons_zero]
                rw [if_pos (by rfl)]
                go_simp
                obtain ⟨wt3, hwt3⟩ : ∃ W, W = wt2.alloc (.cells (madeCells #[.int .i64 0] n) 2) := ⟨_, rfl⟩
                have Jwt3 : Hid (Keep wt2 wt3) := by rw [hwt3]; exact Keep.one _ _
                have Kwt3 : Hid (Keep w2 wt3) := Kwt2.out.trans Jwt3.out
                replace R6 : Hid (wt3.ownsRow w2.heap.size 2 1 (.slice A6 n c6) n (rowL n Z)) := own_keep R6.out Jwt3.out
                have F7 : Hid (wt3.heap[wt2.heap.size]? = some (.cells (madeCells #[.int .i64 0] n) 2 (0, 0))) := by rw [hwt3]; exact heap_alloc_new _ _
                rw [← hwt3]
                replace hwt3 := Lib.hid hwt3
                refine hK.out _ _ (HELD _ Kwt3.out) (fun hHeld => ?_)
                clear hK K
                try simp only [Act.put, List.getElem_toArray, List.getElem_cons_succ, List.getElem_cons_zero, List.setIfInBounds_toArray, List.set_cons_zero, List.set_cons_succ]
                refine wpAnyH_take (i := 8) (v := .agg #[.int .i64 k, .slice A6 n c6, .slice (some ⟨wt2.heap.size, 0, none⟩) n n]) rfl (by kernel_rfl) (by kernel_rfl) (by kernel_rfl) (fun _ _ _ h => h) (Or.inl ⟨by rfl, fun Wz hW => by obtain ⟨s0, s1⟩ := hW; go_simp⟩) hHeld ?_
                simp only [Act.put, List.getElem_toArray, List.getElem_cons_succ, List.getElem_cons_zero, List.setIfInBounds_toArray, List.set_cons_zero, List.set_cons_succ]
                refine wpAnyH_ready (rs := [9]) (by kernel_rfl) (by simp) ?_
                refine (AllReadyH.cons rfl (fun K hK => ?_) AllReadyH.nil)
                simp only [List.getElem_toArray, List.getElem_cons_succ, List.getElem_cons_zero]
                rw [if_pos (by rfl)]
                go_simp
                obtain ⟨wt4, hwt4⟩ : ∃ W, W = wt3.alloc (.cells #[.int .i64 0, .slice none 0 0, .slice none 0 0] 42) := ⟨_, rfl⟩
                have Jwt4 : Hid (Keep wt3 wt4) := by rw [hwt4]; exact Keep.one _ _
                have Kwt4 : Hid (Keep w2 wt4) := Kwt3.out.trans Jwt4.out
                have L79 : Hid (wt2.heap.size < wt3.heap.size) := (Array.getElem?_eq_some_iff.1 F7.out).1
                replace R6 : Hid (wt4.ownsRow w2.heap.size 2 1 (.slice A6 n c6) n (rowL n Z)) := own_keep R6.out Jwt4.out
                replace F7 : Hid (wt4.heap[wt2.heap.size]? = some (.cells (madeCells #[.int .i64 0] n) 2 (0, 0))) := Jwt4.out.block F7.out
                have F9 : Hid (wt4.heap[wt3.heap.size]? = some (.cells #[.int .i64 0, .slice none 0 0, .slice none 0 0] 42 (0, 0))) := by rw [hwt4]; exact heap_alloc_new _ _
                rw [← hwt4]
                replace hwt4 := Lib.hid hwt4
                refine hK.out _ _ (HELD _ Kwt4.out) (fun hHeld => ?_)
                clear hK K
                try simp only [Act.put, List.getElem_toArray, List.getElem_cons_succ, List.getElem_cons_zero, List.setIfInBounds_toArray, List.set_cons_zero, List.set_cons_succ]
                refine wpAnyH_ready (rs := [10]) (by kernel_rfl) (by simp) ?_
                refine (AllReadyH.cons rfl (fun K hK => ?_) AllReadyH.nil)
                simp only [List.getElem_toArray, List.getElem_cons_succ, List.getElem_cons_zero]
                rw [if_pos (by rfl)]
                obtain ⟨c0, c1, c2, f0⟩ := celN F9.out
                go_simp
                obtain ⟨wt5, hwt5⟩ : ∃ W, W = ((wt4.setCell ⟨wt3.heap.size, 0, none⟩ (.int .i64 k)).setCell ⟨wt3.heap.size, 1, none⟩ (.slice A6 n c6)).setCell ⟨wt3.heap.size, 2, none⟩ (.slice (some ⟨wt2.heap.size, 0, none⟩) n n) := ⟨_, rfl⟩
                have Kwt5 : Hid (Keep w2 wt5) := by rw [hwt5]; have := Kwt3.out.size; exact ((Kwt4.out.set (by show _ ≤ wt3.heap.size; omega) _).set (by show _ ≤ wt3.heap.size; omega) _).set (by show _ ≤ wt3.heap.size; omega) _
                have R7 : Hid (wt5.ownsRow w2.heap.size 2 1 (.slice A6 n c6) n (rowL n Z)) := by rw [hwt5]; exact own_blocks1 R6.out fun g hg => set3_other (row_ne R6.out F9.out (by decide) g hg)
                have G7 : Hid (wt5.heap[wt2.heap.size]? = some (.cells (madeCells #[.int .i64 0] n) 2 (0, 0))) := by rw [hwt5]; exact (set3_other (by have := L79.out; omega)).trans F7.out
                have G9 : Hid (wt5.heap[wt3.heap.size]? = some (.cells #[.int .i64 k, .slice A6 n c6, .slice (some ⟨wt2.heap.size, 0, none⟩) n n] 42 (0, 0))) := by rw [hwt5]; exact set3N F9.out
                clear c0 c1 c2 f0
                rw [← hwt5]
                replace hwt5 := Lib.hid hwt5
                refine hK.out _ _ (HELD _ Kwt5.out) (fun hHeld => ?_)
                clear hK K
                try simp only [Act.put, List.getElem_toArray, List.getElem_cons_succ, List.getElem_cons_zero, List.setIfInBounds_toArray, List.set_cons_zero, List.set_cons_succ]
                refine wpAnyH_done (by kernel_rfl) ?_ _
                go_wp2_with fail
                go_meet
                case rel => exact ⟨wt3.heap.size, wt2.heap.size, A6, c6, rfl, Kwt5.out, G9.out, rd_own R7.out rdA.out.small rdA.out.range, rd_made G7.out (by omega), nl6.out⟩
              · simp only [List.getElem_toArray, List.getElem_cons_succ, List.getElem_cons_zero]
                rw [if_pos (by rfl)]
                go_simp
                obtain ⟨wt6, hwt6⟩ : ∃ W, W = wt2.alloc (.cells #[.int .i64 0, .slice none 0 0, .slice none 0 0] 42) := ⟨_, rfl⟩
                have Jwt6 : Hid (Keep wt2 wt6) := by rw [hwt6]; exact Keep.one _ _
                have Kwt6 : Hid (Keep w2 wt6) := Kwt2.out.trans Jwt6.out
                replace R6 : Hid (wt6.ownsRow w2.heap.size 2 1 (.slice A6 n c6) n (rowL n Z)) := own_keep R6.out Jwt6.out
                have F9 : Hid (wt6.heap[wt2.heap.size]? = some (.cells #[.int .i64 0, .slice none 0 0, .slice none 0 0] 42 (0, 0))) := by rw [hwt6]; exact heap_alloc_new _ _
                rw [← hwt6]
                replace hwt6 := Lib.hid hwt6
                refine hK.out _ _ (HELD _ Kwt6.out) (fun hHeld => ?_)
                clear hK K
                try simp only [Act.put, List.getElem_toArray, List.getElem_cons_succ, List.getElem_cons_zero, List.setIfInBounds_toArray, List.set_cons_zero, List.set_cons_succ]
                refine wpAnyH_ready (rs := [7]) (by kernel_rfl) (by simp) ?_
                refine (AllReadyH.cons rfl (fun K hK => ?_) AllReadyH.nil)
                simp only [List.getElem_toArray, List.getElem_cons_succ, List.getElem_cons_zero]
                rw [if_pos (by rfl)]
                go_simp
                obtain ⟨wt7, hwt7⟩ : ∃ W, W = wt6.alloc (.cells (madeCells #[.int .i64 0] n) 2) := ⟨_, rfl⟩
                have Jwt7 : Hid (Keep wt6 wt7) := by rw [hwt7]; exact Keep.one _ _
                have Kwt7 : Hid (Keep w2 wt7) := Kwt6.out.trans Jwt7.out
                have L97 : Hid (wt2.heap.size < wt6.heap.size) := (Array.getElem?_eq_some_iff.1 F9.out).1
                replace R6 : Hid (wt7.ownsRow w2.heap.size 2 1 (.slice A6 n c6) n (rowL n Z)) := own_keep R6.out Jwt7.out
                replace F9 : Hid (wt7.heap[wt2.heap.size]? = some (.cells #[.int .i64 0, .slice none 0 0, .slice none 0 0] 42 (0, 0))) := Jwt7.out.block F9.out
                have F7 : Hid (wt7.heap[wt6.heap.size]? = some (.cells (madeCells #[.int .i64 0] n) 2 (0, 0))) := by rw [hwt7]; exact heap_alloc_new _ _
                rw [← hwt7]
                replace hwt7 := Lib.hid hwt7
                refine hK.out _ _ (HELD _ Kwt7.out) (fun hHeld => ?_)
                clear hK K
                try simp only [Act.put, List.getElem_toArray, List.getElem_cons_succ, List.getElem_cons_zero, List.setIfInBounds_toArray, List.set_cons_zero, List.set_cons_succ]
                refine wpAnyH_take (i := 8) (v := .agg #[.int .i64 k, .slice A6 n c6, .slice (some ⟨wt6.heap.size, 0, none⟩) n n]) rfl (by kernel_rfl) (by kernel_rfl) (by kernel_rfl) (fun _ _ _ h => h) (Or.inl ⟨by rfl, fun Wz hW => by obtain ⟨s0, s1⟩ := hW; go_simp⟩) hHeld ?_
                simp only [Act.put, List.getElem_toArray, List.getElem_cons_succ, List.getElem_cons_zero, List.setIfInBounds_toArray, List.set_cons_zero, List.set_cons_succ]
                refine wpAnyH_ready (rs := [10]) (by kernel_rfl) (by simp) ?_
                refine (AllReadyH.cons rfl (fun K hK => ?_) AllReadyH.nil)
                simp only [List.getElem_toArray, List.getElem_cons_succ, List.getElem_cons_zero]
                rw [if_pos (by rfl)]
                obtain ⟨c0, c1, c2, f0⟩ := celN F9.out
                go_simp
                obtain ⟨wt8, hwt8⟩ : ∃ W, W = ((wt7.setCell ⟨wt2.heap.size, 0, none⟩ (.int .i64 k)).setCell ⟨wt2.heap.size, 1, none⟩ (.slice A6 n c6)).setCell ⟨wt2.heap.size, 2, none⟩ (.slice (some ⟨wt6.heap.size, 0, none⟩) n n) := ⟨_, rfl⟩
                have Kwt8 : Hid (Keep w2 wt8) := by rw [hwt8]; have := Kwt2.out.size; exact ((Kwt7.out.set (by show _ ≤ wt2.heap.size; omega) _).set (by show _ ≤ wt2.heap.size; omega) _).set (by show _ ≤ wt2.heap.size; omega) _
                have R7 : Hid (wt8.ownsRow w2.heap.size 2 1 (.slice A6 n c6) n (rowL n Z)) := by rw [hwt8]; exact own_blocks1 R6.out fun g hg => set3_other (row_ne R6.out F9.out (by decide) g hg)
                have G7 : Hid (wt8.heap[wt6.heap.size]? = some (.cells (madeCells #[.int .i64 0] n) 2 (0, 0))) := by rw [hwt8]; exact (set3_other (by have := L97.out; omega)).trans F7.out
                have G9 : Hid (wt8.heap[wt2.heap.size]? = some (.cells #[.int .i64 k, .slice A6 n c6, .slice (some ⟨wt6.heap.size, 0, none⟩) n n] 42 (0, 0))) := by rw [hwt8]; exact set3N F9.out
                clear c0 c1 c2 f0
                rw [← hwt8]
                replace hwt8 := Lib.hid hwt8
                refine hK.out _ _ (HELD _ Kwt8.out) (fun hHeld => ?_)
                clear hK K
                try simp only [Act.put, List.getElem_toArray, List.getElem_cons_succ, List.getElem_cons_zero, List.setIfInBounds_toArray, List.set_cons_zero, List.set_cons_succ]
                refine wpAnyH_done (by kernel_rfl) ?_ _
                go_wp2_with fail
                go_meet
                case rel => exact ⟨wt2.heap.size, wt6.heap.size, A6, c6, rfl, Kwt8.out, G9.out, rd_own R7.out rdA.out.small rdA.out.range, rd_made G7.out (by omega), nl6.out⟩
            · simp only [List.getElem_toArray, List.getElem_cons_succ, List.getElem_cons_zero]
              rw [if_pos (by rfl)]
              go_simp
              obtain ⟨wt9, hwt9⟩ : ∃ W, W = wt1.alloc (.cells (madeCells #[.int .i64 0] n) 2) := ⟨_, rfl⟩
              have Jwt9 : Hid (Keep wt1 wt9) := by rw [hwt9]; exact Keep.one _ _
              have Kwt9 : Hid (Keep w2 wt9) := Kwt1.out.trans Jwt9.out
              have L27 : Hid (wt0.heap.size < wt1.heap.size) := (Array.getElem?_eq_some_iff.1 F2.out).1
              replace F2 : Hid (wt9.heap[wt0.heap.size]? = some (.cells #[] 2 (0, 0))) := Jwt9.out.block F2.out
              have F7 : Hid (wt9.heap[wt1.heap.size]? = some (.cells (madeCells #[.int .i64 0] n) 2 (0, 0))) := by rw [hwt9]; exact heap_alloc_new _ _
              rw [← hwt9]
              replace hwt9 := Lib.hid hwt9
              refine hK.out _ _ (HELD _ Kwt9.out) (fun hHeld => ?_)
              clear hK K
              try simp only [Act.put, List.getElem_toArray, List.getElem_cons_succ, List.getElem_cons_zero, List.setIfInBounds_toArray, List.set_cons_zero, List.set_cons_succ]
              refine wpAnyH_ready (rs := [5, 9]) (by kernel_rfl) (by simp) ?_
              refine (AllReadyH.cons rfl (fun K hK => ?_) (AllReadyH.cons rfl (fun K hK => ?_) AllReadyH.nil))
              · simp only [List.getElem_toArray, List.getElem_cons_succ, List.getElem_cons_zero]
                rw [if_pos (by rfl)]
                refine wp_amounts (.tmp 52) (.tmp 54) rfl w2.heap.size (.slice (some ⟨wt0.heap.size, 0, none⟩) 0 0) (by simp [Act.eval]) (own_none (by have := Kwt0.out.size; omega) F2.out) A n c Z (by simp [Act.eval]) (rdA.out.keep (K2.out.trans Kwt9.out)) nilA.out (by omega) (Kwt9.out.size) ?_
                intro v6 wt10 hr6 hg6
                obtain ⟨A6, c6, hv6, nl6⟩ := own_form hr6
                subst hv6
                have Jwt10 : Hid (Keep w2 wt10) := keep_grown Kwt9.out hg6 (fun q hq => by simp [Value.ownBlock] at hq; have := Kwt0.out.size; omega)
                have Kwt10 : Hid (Keep w2 wt10) := Jwt10.out
                replace F7 : Hid (wt10.heap[wt1.heap.size]? = some (.cells (madeCells #[.int .i64 0] n) 2 (0, 0))) := (hg6.block _ (Array.getElem?_eq_some_iff.1 F7.out).1 (by have := L27.out; simp [Value.ownBlock]; omega)).trans F7.out
                have nl6 := Lib.hid nl6
                have R6 : Hid (wt10.ownsRow w2.heap.size 2 1 (.slice A6 n c6) n (rowL n Z)) := hr6
                clear hr6
                replace hg6 := Lib.hid hg6
                clear F2
                refine hK.out _ _ (HELD _ Kwt10.out) (fun hHeld => ?_)
                clear hK K
                try simp only [Act.put, List.setIfInBounds_toArray, List.set_cons_zero, List.set_cons_succ]
                refine wpAnyH_take (i := 8) (v := .agg #[.int .i64 k, .slice A6 n c6, .slice (some ⟨wt1.heap.size, 0, none⟩) n n]) rfl (by kernel_rfl) (by kernel_rfl) (by kernel_rfl) (fun _ _ _ h => h) (Or.inl ⟨by rfl, fun Wz hW => by obtain ⟨s0, s1⟩ := hW; go_simp⟩) hHeld ?_
                simp only [Act.put, List.getElem_toArray, List.getElem_cons_succ, List.getElem_cons_zero, List.setIfInBounds_toArray, List.set_cons_zero, List.set_cons_succ]
                refine wpAnyH_ready (rs := [9]) (by kernel_rfl) (by simp) ?_
                refine (AllReadyH.cons rfl (fun K hK => ?_) AllReadyH.nil)
                simp only [List.getElem_toArray, List.getElem_cons_succ, List.getElem_cons_zero]
                rw [if_pos (by rfl)]
                go_simp
                obtain ⟨wt11, hwt11⟩ : ∃ W, W = wt10.alloc (.cells #[.int .i64 0, .slice none 0 0, .slice none 0 0] 42) := ⟨_, rfl⟩
                have Jwt11 : Hid (Keep wt10 wt11) := by rw [hwt11]; exact Keep.one _ _
                have Kwt11 : Hid (Keep w2 wt11) := Kwt10.out.trans Jwt11.out
                have L79 : Hid (wt1.heap.size < wt10.heap.size) := (Array.getElem?_eq_some_iff.1 F7.out).1
                replace F7 : Hid (wt11.heap[wt1.heap.size]? = some (.cells (madeCells #[.int .i64 0] n) 2 (0, 0))) := Jwt11.out.block F7.out
                replace R6 : Hid (wt11.ownsRow w2.heap.size 2 1 (.slice A6 n c6) n (rowL n Z)) := own_keep R6.out Jwt11.out
                have F9 : Hid (wt11.heap[wt10.heap.size]? = some (.cells #[.int .i64 0, .slice none 0 0, .slice none 0 0] 42 (0, 0))) := by rw [hwt11]; exact heap_alloc_new _ _
                rw [← hwt11]
                replace hwt11 := Lib.hid hwt11
                refine hK.out _ _ (HELD _ Kwt11.out) (fun hHeld => ?_)
                clear hK K
                try simp only [Act.put, List.getElem_toArray, List.getElem_cons_succ, List.getElem_cons_zero, List.setIfInBounds_toArray, List.set_cons_zero, List.set_cons_succ]
                refine wpAnyH_ready (rs := [10]) (by kernel_rfl) (by simp) ?_
                refine (AllReadyH.cons rfl (fun K hK => ?_) AllReadyH.nil)
                simp only [List.getElem_toArray, List.getElem_cons_succ, List.getElem_cons_zero]
                rw [if_pos (by rfl)]
                obtain ⟨c0, c1, c2, f0⟩ := celN F9.out
                go_simp
                obtain ⟨wt12, hwt12⟩ : ∃ W, W = ((wt11.setCell ⟨wt10.heap.size, 0, none⟩ (.int .i64 k)).setCell ⟨wt10.heap.size, 1, none⟩ (.slice A6 n c6)).setCell ⟨wt10.heap.size, 2, none⟩ (.slice (some ⟨wt1.heap.size, 0, none⟩) n n) := ⟨_, rfl⟩
                have Kwt12 : Hid (Keep w2 wt12) := by rw [hwt12]; have := Kwt10.out.size; exact ((Kwt11.out.set (by show _ ≤ wt10.heap.size; omega) _).set (by show _ ≤ wt10.heap.size; omega) _).set (by show _ ≤ wt10.heap.size; omega) _
                have R7 : Hid (wt12.ownsRow w2.heap.size 2 1 (.slice A6 n c6) n (rowL n Z)) := by rw [hwt12]; exact own_blocks1 R6.out fun g hg => set3_other (row_ne R6.out F9.out (by decide) g hg)
                have G7 : Hid (wt12.heap[wt1.heap.size]? = some (.cells (madeCells #[.int .i64 0] n) 2 (0, 0))) := by rw [hwt12]; exact (set3_other (by have := L79.out; omega)).trans F7.out
                have G9 : Hid (wt12.heap[wt10.heap.size]? = some (.cells #[.int .i64 k, .slice A6 n c6, .slice (some ⟨wt1.heap.size, 0, none⟩) n n] 42 (0, 0))) := by rw [hwt12]; exact set3N F9.out
                clear c0 c1 c2 f0
                rw [← hwt12]
                replace hwt12 := Lib.hid hwt12
                refine hK.out _ _ (HELD _ Kwt12.out) (fun hHeld => ?_)
                clear hK K
                try simp only [Act.put, List.getElem_toArray, List.getElem_cons_succ, List.getElem_cons_zero, List.setIfInBounds_toArray, List.set_cons_zero, List.set_cons_succ]
                refine wpAnyH_done (by kernel_rfl) ?_ _
                go_wp2_with fail
                go_meet
                case rel => exact ⟨wt10.heap.size, wt1.heap.size, A6, c6, rfl, Kwt12.out, G9.out, rd_own R7.out rdA.out.small rdA.out.range, rd_made G7.out (by omega), nl6.out⟩
              · simp only [List.getElem_toArray, List.getElem_cons_succ, List.getElem_cons_zero]
                rw [if_pos (by rfl)]
                go_simp
                obtain ⟨wt13, hwt13⟩ : ∃ W, W = wt9.alloc (.cells #[.int .i64 0, .slice none 0 0, .slice none 0 0] 42) := ⟨_, rfl⟩
                have Jwt13 : Hid (Keep wt9 wt13) := by rw [hwt13]; exact Keep.one _ _
                have Kwt13 : Hid (Keep w2 wt13) := Kwt9.out.trans Jwt13.out
                have L29 : Hid (wt0.heap.size < wt9.heap.size) := (Array.getElem?_eq_some_iff.1 F2.out).1
                have L79 : Hid (wt1.heap.size < wt9.heap.size) := (Array.getElem?_eq_some_iff.1 F7.out).1
                replace F2 : Hid (wt13.heap[wt0.heap.size]? = some (.cells #[] 2 (0, 0))) := Jwt13.out.block F2.out
                replace F7 : Hid (wt13.heap[wt1.heap.size]? = some (.cells (madeCells #[.int .i64 0] n) 2 (0, 0))) := Jwt13.out.block F7.out
                have F9 : Hid (wt13.heap[wt9.heap.size]? = some (.cells #[.int .i64 0, .slice none 0 0, .slice none 0 0] 42 (0, 0))) := by rw [hwt13]; exact heap_alloc_new _ _
                rw [← hwt13]
                replace hwt13 := Lib.hid hwt13
                refine hK.out _ _ (HELD _ Kwt13.out) (fun hHeld => ?_)
                clear hK K
                try simp only [Act.put, List.getElem_toArray, List.getElem_cons_succ, List.getElem_cons_zero, List.setIfInBounds_toArray, List.set_cons_zero, List.set_cons_succ]
                refine wpAnyH_ready (rs := [5]) (by kernel_rfl) (by simp) ?_
                refine (AllReadyH.cons rfl (fun K hK => ?_) AllReadyH.nil)
                simp only [List.getElem_toArray, List.getElem_cons_succ, List.getElem_cons_zero]
                rw [if_pos (by rfl)]
                refine wp_amounts (.tmp 52) (.tmp 54) rfl w2.heap.size (.slice (some ⟨wt0.heap.size, 0, none⟩) 0 0) (by simp [Act.eval]) (own_none (by have := Kwt0.out.size; omega) F2.out) A n c Z (by simp [Act.eval]) (rdA.out.keep (K2.out.trans Kwt13.out)) nilA.out (by omega) (Kwt13.out.size) ?_
                intro v6 wt14 hr6 hg6
                obtain ⟨A6, c6, hv6, nl6⟩ := own_form hr6
                subst hv6
                have Jwt14 : Hid (Keep w2 wt14) := keep_grown Kwt13.out hg6 (fun q hq => by simp [Value.ownBlock] at hq; have := Kwt0.out.size; omega)
                have Kwt14 : Hid (Keep w2 wt14) := Jwt14.out
                replace F7 : Hid (wt14.heap[wt1.heap.size]? = some (.cells (madeCells #[.int .i64 0] n) 2 (0, 0))) := (hg6.block _ (Array.getElem?_eq_some_iff.1 F7.out).1 (by have := L27.out; simp [Value.ownBlock]; omega)).trans F7.out
                replace F9 : Hid (wt14.heap[wt9.heap.size]? = some (.cells #[.int .i64 0, .slice none 0 0, .slice none 0 0] 42 (0, 0))) := (hg6.block _ (Array.getElem?_eq_some_iff.1 F9.out).1 (by have := L29.out; simp [Value.ownBlock]; omega)).trans F9.out
                have nl6 := Lib.hid nl6
                have R6 : Hid (wt14.ownsRow w2.heap.size 2 1 (.slice A6 n c6) n (rowL n Z)) := hr6
                clear hr6
                replace hg6 := Lib.hid hg6
                clear F2
                refine hK.out _ _ (HELD _ Kwt14.out) (fun hHeld => ?_)
                clear hK K
                try simp only [Act.put, List.setIfInBounds_toArray, List.set_cons_zero, List.set_cons_succ]
                refine wpAnyH_take (i := 8) (v := .agg #[.int .i64 k, .slice A6 n c6, .slice (some ⟨wt1.heap.size, 0, none⟩) n n]) rfl (by kernel_rfl) (by kernel_rfl) (by kernel_rfl) (fun _ _ _ h => h) (Or.inl ⟨by rfl, fun Wz hW => by obtain ⟨s0, s1⟩ := hW; go_simp⟩) hHeld ?_
                simp only [Act.put, List.getElem_toArray, List.getElem_cons_succ, List.getElem_cons_zero, List.setIfInBounds_toArray, List.set_cons_zero, List.set_cons_succ]
                refine wpAnyH_ready (rs := [10]) (by kernel_rfl) (by simp) ?_
                refine (AllReadyH.cons rfl (fun K hK => ?_) AllReadyH.nil)
                simp only [List.getElem_toArray, List.getElem_cons_succ, List.getElem_cons_zero]
                rw [if_pos (by rfl)]
                obtain ⟨c0, c1, c2, f0⟩ := celN F9.out
                go_simp
                obtain ⟨wt15, hwt15⟩ : ∃ W, W = ((wt14.setCell ⟨wt9.heap.size, 0, none⟩ (.int .i64 k)).setCell ⟨wt9.heap.size, 1, none⟩ (.slice A6 n c6)).setCell ⟨wt9.heap.size, 2, none⟩ (.slice (some ⟨wt1.heap.size, 0, none⟩) n n) := ⟨_, rfl⟩
                have Kwt15 : Hid (Keep w2 wt15) := by rw [hwt15]; have := Kwt9.out.size; exact ((Kwt14.out.set (by show _ ≤ wt9.heap.size; omega) _).set (by show _ ≤ wt9.heap.size; omega) _).set (by show _ ≤ wt9.heap.size; omega) _
                have R7 : Hid (wt15.ownsRow w2.heap.size 2 1 (.slice A6 n c6) n (rowL n Z)) := by rw [hwt15]; exact own_blocks1 R6.out fun g hg => set3_other (row_ne R6.out F9.out (by decide) g hg)
                have G7 : Hid (wt15.heap[wt1.heap.size]? = some (.cells (madeCells #[.int .i64 0] n) 2 (0, 0))) := by rw [hwt15]; exact (set3_other (by have := L79.out; omega)).trans F7.out
                have G9 : Hid (wt15.heap[wt9.heap.size]? = some (.cells #[.int .i64 k, .slice A6 n c6, .slice (some ⟨wt1.heap.size, 0, none⟩) n n] 42 (0, 0))) := by rw [hwt15]; exact set3N F9.out
                clear c0 c1 c2 f0
                rw [← hwt15]
                replace hwt15 := Lib.hid hwt15
                refine hK.out _ _ (HELD _ Kwt15.out) (fun hHeld => ?_)
                clear hK K
                try simp only [Act.put, List.getElem_toArray, List.getElem_cons_succ, List.getElem_cons_zero, List.setIfInBounds_toArray, List.set_cons_zero, List.set_cons_succ]
                refine wpAnyH_done (by kernel_rfl) ?_ _
                go_wp2_with fail
                go_meet
                case rel => exact ⟨wt9.heap.size, wt1.heap.size, A6, c6, rfl, Kwt15.out, G9.out, rd_own R7.out rdA.out.small rdA.out.range, rd_made G7.out (by omega), nl6.out⟩
            · simp only [List.getElem_toArray, List.getElem_cons_succ, List.getElem_cons_zero]
              rw [if_pos (by rfl)]
              go_simp
              obtain ⟨wt16, hwt16⟩ : ∃ W, W = wt1.alloc (.cells #[.int .i64 0, .slice none 0 0, .slice none 0 0] 42) := ⟨_, rfl⟩
              have Jwt16 : Hid (Keep wt1 wt16) := by rw [hwt16]; exact Keep.one _ _
              have Kwt16 : Hid (Keep w2 wt16) := Kwt1.out.trans Jwt16.out
              have L29 : Hid (wt0.heap.size < wt1.heap.size) := (Array.getElem?_eq_some_iff.1 F2.out).1
              replace F2 : Hid (wt16.heap[wt0.heap.size]? = some (.cells #[] 2 (0, 0))) := Jwt16.out.block F2.out
              have F9 : Hid (wt16.heap[wt1.heap.size]? = some (.cells #[.int .i64 0, .slice none 0 0, .slice none 0 0] 42 (0, 0))) := by rw [hwt16]; exact heap_alloc_new _ _
              rw [← hwt16]
              replace hwt16 := Lib.hid hwt16
              refine hK.out _ _ (HELD _ Kwt16.out) (fun hHeld => ?_)
              clear hK K
              try simp only [Act.put, List.getElem_toArray, List.getElem_cons_succ, List.getElem_cons_zero, List.setIfInBounds_toArray, List.set_cons_zero, List.set_cons_succ]
              refine wpAnyH_ready (rs := [5, 7]) (by kernel_rfl) (by simp) ?_
              refine (AllReadyH.cons rfl (fun K hK => ?_) (AllReadyH.cons rfl (fun K hK => ?_) AllReadyH.nil))
              · simp only [List.getElem_toArray, List.getElem_cons_succ, List.getElem_cons_zero]
                rw [if_pos (by rfl)]
                refine wp_amounts (.tmp 52) (.tmp 54) rfl w2.heap.size (.slice (some ⟨wt0.heap.size, 0, none⟩) 0 0) (by simp [Act.eval]) (own_none (by have := Kwt0.out.size; omega) F2.out) A n c Z (by simp [Act.eval]) (rdA.out.keep (K2.out.trans Kwt16.out)) nilA.out (by omega) (Kwt16.out.size) ?_
                intro v6 wt17 hr6 hg6
                obtain ⟨A6, c6, hv6, nl6⟩ := own_form hr6
                subst hv6
                have Jwt17 : Hid (Keep w2 wt17) := keep_grown Kwt16.out hg6 (fun q hq => by simp [Value.ownBlock] at hq; have := Kwt0.out.size; omega)
                have Kwt17 : Hid (Keep w2 wt17) := Jwt17.out
                replace F9 : Hid (wt17.heap[wt1.heap.size]? = some (.cells #[.int .i64 0, .slice none 0 0, .slice none 0 0] 42 (0, 0))) := (hg6.block _ (Array.getElem?_eq_some_iff.1 F9.out).1 (by have := L29.out; simp [Value.ownBlock]; omega)).trans F9.out
                have nl6 := Lib.hid nl6
                have R6 : Hid (wt17.ownsRow w2.heap.size 2 1 (.slice A6 n c6) n (rowL n Z)) := hr6
                clear hr6
                replace hg6 := Lib.hid hg6
                clear F2
                refine hK.out _ _ (HELD _ Kwt17.out) (fun hHeld => ?_)
                clear hK K
                try simp only [Act.put, List.setIfInBounds_toArray, List.set_cons_zero, List.set_cons_succ]
                refine wpAnyH_ready (rs := [7]) (by kernel_rfl) (by simp) ?_
                refine (AllReadyH.cons rfl (fun K hK => ?_) AllReadyH.nil)
                simp only [List.getElem_toArray, List.getElem_cons_succ, List.getElem_cons_zero]
                rw [if_pos (by rfl)]
                go_simp
                obtain ⟨wt18, hwt18⟩ : ∃ W, W = wt17.alloc (.cells (madeCells #[.int .i64 0] n) 2) := ⟨_, rfl⟩
                have Jwt18 : Hid (Keep wt17 wt18) := by rw [hwt18]; exact Keep.one _ _
                have Kwt18 : Hid (Keep w2 wt18) := Kwt17.out.trans Jwt18.out
                have L97 : Hid (wt1.heap.size < wt17.heap.size) := (Array.getElem?_eq_some_iff.1 F9.out).1
                replace F9 : Hid (wt18.heap[wt1.heap.size]? = some (.cells #[.int .i64 0, .slice none 0 0, .slice none 0 0] 42 (0, 0))) := Jwt18.out.block F9.out
                replace R6 : Hid (wt18.ownsRow w2.heap.size 2 1 (.slice A6 n c6) n (rowL n Z)) := own_keep R6.out Jwt18.out
                have F7 : Hid (wt18.heap[wt17.heap.size]? = some (.cells (madeCells #[.int .i64 0] n) 2 (0, 0))) := by rw [hwt18]; exact heap_alloc_new _ _
                rw [← hwt18]
                replace hwt18 := Lib.hid hwt18
                refine hK.out _ _ (HELD _ Kwt18.out) (fun hHeld => ?_)
                clear hK K
                try simp only [Act.put, List.getElem_toArray, List.getElem_cons_succ, List.getElem_cons_zero, List.setIfInBounds_toArray, List.set_cons_zero, List.set_cons_succ]
                refine wpAnyH_take (i := 8) (v := .agg #[.int .i64 k, .slice A6 n c6, .slice (some ⟨wt17.heap.size, 0, none⟩) n n]) rfl (by kernel_rfl) (by kernel_rfl) (by kernel_rfl) (fun _ _ _ h => h) (Or.inl ⟨by rfl, fun Wz hW => by obtain ⟨s0, s1⟩ := hW; go_simp⟩) hHeld ?_
                simp only [Act.put, List.getElem_toArray, List.getElem_cons_succ, List.getElem_cons_zero, List.setIfInBounds_toArray, List.set_cons_zero, List.set_cons_succ]
                refine wpAnyH_ready (rs := [10]) (by kernel_rfl) (by simp) ?_
                refine (AllReadyH.cons rfl (fun K hK => ?_) AllReadyH.nil)
                simp only [List.getElem_toArray, List.getElem_cons_succ, List.getElem_cons_zero]
                rw [if_pos (by rfl)]
                obtain ⟨c0, c1, c2, f0⟩ := celN F9.out
                go_simp
                obtain ⟨wt19, hwt19⟩ : ∃ W, W = ((wt18.setCell ⟨wt1.heap.size, 0, none⟩ (.int .i64 k)).setCell ⟨wt1.heap.size, 1, none⟩ (.slice A6 n c6)).setCell ⟨wt1.heap.size, 2, none⟩ (.slice (some ⟨wt17.heap.size, 0, none⟩) n n) := ⟨_, rfl⟩
                have Kwt19 : Hid (Keep w2 wt19) := by rw [hwt19]; have := Kwt1.out.size; exact ((Kwt18.out.set (by show _ ≤ wt1.heap.size; omega) _).set (by show _ ≤ wt1.heap.size; omega) _).set (by show _ ≤ wt1.heap.size; omega) _
                have R7 : Hid (wt19.ownsRow w2.heap.size 2 1 (.slice A6 n c6) n (rowL n Z)) := by rw [hwt19]; exact own_blocks1 R6.out fun g hg => set3_other (row_ne R6.out F9.out (by decide) g hg)
                have G7 : Hid (wt19.heap[wt17.heap.size]? = some (.cells (madeCells #[.int .i64 0] n) 2 (0, 0))) := by rw [hwt19]; exact (set3_other (by have := L97.out; omega)).trans F7.out
                have G9 : Hid (wt19.heap[wt1.heap.size]? = some (.cells #[.int .i64 k, .slice A6 n c6, .slice (some ⟨wt17.heap.size, 0, none⟩) n n] 42 (0, 0))) := by rw [hwt19]; exact set3N F9.out
                clear c0 c1 c2 f0
                rw [← hwt19]
                replace hwt19 := Lib.hid hwt19
                refine hK.out _ _ (HELD _ Kwt19.out) (fun hHeld => ?_)
                clear hK K
                try simp only [Act.put, List.getElem_toArray, List.getElem_cons_succ, List.getElem_cons_zero, List.setIfInBounds_toArray, List.set_cons_zero, List.set_cons_succ]
                refine wpAnyH_done (by kernel_rfl) ?_ _
                go_wp2_with fail
                go_meet
                case rel => exact ⟨wt1.heap.size, wt17.heap.size, A6, c6, rfl, Kwt19.out, G9.out, rd_own R7.out rdA.out.small rdA.out.range, rd_made G7.out (by omega), nl6.out⟩
              · simp only [List.getElem_toArray, List.getElem_cons_succ, List.getElem_cons_zero]
                rw [if_pos (by rfl)]
                go_simp
                obtain ⟨wt20, hwt20⟩ : ∃ W, W = wt16.alloc (.cells (madeCells #[.int .i64 0] n) 2) := ⟨_, rfl⟩
                have Jwt20 : Hid (Keep wt16 wt20) := by rw [hwt20]; exact Keep.one _ _
                have Kwt20 : Hid (Keep w2 wt20) := Kwt16.out.trans Jwt20.out
                have L27 : Hid (wt0.heap.size < wt16.heap.size) := (Array.getElem?_eq_some_iff.1 F2.out).1
                have L97 : Hid (wt1.heap.size < wt16.heap.size) := (Array.getElem?_eq_some_iff.1 F9.out).1
                replace F2 : Hid (wt20.heap[wt0.heap.size]? = some (.cells #[] 2 (0, 0))) := Jwt20.out.block F2.out
                replace F9 : Hid (wt20.heap[wt1.heap.size]? = some (.cells #[.int .i64 0, .slice none 0 0, .slice none 0 0] 42 (0, 0))) := Jwt20.out.block F9.out
                have F7 : Hid (wt20.heap[wt16.heap.size]? = some (.cells (madeCells #[.int .i64 0] n) 2 (0, 0))) := by rw [hwt20]; exact heap_alloc_new _ _
                rw [← hwt20]
                replace hwt20 := Lib.hid hwt20
                refine hK.out _ _ (HELD _ Kwt20.out) (fun hHeld => ?_)
                clear hK K
                try simp only [Act.put, List.getElem_toArray, List.getElem_cons_succ, List.getElem_cons_zero, List.setIfInBounds_toArray, List.set_cons_zero, List.set_cons_succ]
                refine wpAnyH_ready (rs := [5]) (by kernel_rfl) (by simp) ?_
                refine (AllReadyH.cons rfl (fun K hK => ?_) AllReadyH.nil)
                simp only [List.getElem_toArray, List.getElem_cons_succ, List.getElem_cons_zero]
                rw [if_pos (by rfl)]
                refine wp_amounts (.tmp 52) (.tmp 54) rfl w2.heap.size (.slice (some ⟨wt0.heap.size, 0, none⟩) 0 0) (by simp [Act.eval]) (own_none (by have := Kwt0.out.size; omega) F2.out) A n c Z (by simp [Act.eval]) (rdA.out.keep (K2.out.trans Kwt20.out)) nilA.out (by omega) (Kwt20.out.size) ?_
                intro v6 wt21 hr6 hg6
                obtain ⟨A6, c6, hv6, nl6⟩ := own_form hr6
                subst hv6
                have Jwt21 : Hid (Keep w2 wt21) := keep_grown Kwt20.out hg6 (fun q hq => by simp [Value.ownBlock] at hq; have := Kwt0.out.size; omega)
                have Kwt21 : Hid (Keep w2 wt21) := Jwt21.out
                replace F9 : Hid (wt21.heap[wt1.heap.size]? = some (.cells #[.int .i64 0, .slice none 0 0, .slice none 0 0] 42 (0, 0))) := (hg6.block _ (Array.getElem?_eq_some_iff.1 F9.out).1 (by have := L29.out; simp [Value.ownBlock]; omega)).trans F9.out
                replace F7 : Hid (wt21.heap[wt16.heap.size]? = some (.cells (madeCells #[.int .i64 0] n) 2 (0, 0))) := (hg6.block _ (Array.getElem?_eq_some_iff.1 F7.out).1 (by have := L27.out; simp [Value.ownBlock]; omega)).trans F7.out
                have nl6 := Lib.hid nl6
                have R6 : Hid (wt21.ownsRow w2.heap.size 2 1 (.slice A6 n c6) n (rowL n Z)) := hr6
                clear hr6
                replace hg6 := Lib.hid hg6
                clear F2
                refine hK.out _ _ (HELD _ Kwt21.out) (fun hHeld => ?_)
                clear hK K
                try simp only [Act.put, List.setIfInBounds_toArray, List.set_cons_zero, List.set_cons_succ]
                refine wpAnyH_take (i := 8) (v := .agg #[.int .i64 k, .slice A6 n c6, .slice (some ⟨wt16.heap.size, 0, none⟩) n n]) rfl (by kernel_rfl) (by kernel_rfl) (by kernel_rfl) (fun _ _ _ h => h) (Or.inl ⟨by rfl, fun Wz hW => by obtain ⟨s0, s1⟩ := hW; go_simp⟩) hHeld ?_
                simp only [Act.put, List.getElem_toArray, List.getElem_cons_succ, List.getElem_cons_zero, List.setIfInBounds_toArray, List.set_cons_zero, List.set_cons_succ]
                refine wpAnyH_ready (rs := [10]) (by kernel_rfl) (by simp) ?_
                refine (AllReadyH.cons rfl (fun K hK => ?_) AllReadyH.nil)
                simp only [List.getElem_toArray, List.getElem_cons_succ, List.getElem_cons_zero]
                rw [if_pos (by rfl)]
                obtain ⟨c0, c1, c2, f0⟩ := celN F9.out
                go_simp
                obtain ⟨wt22, hwt22⟩ : ∃ W, W = ((wt21.setCell ⟨wt1.heap.size, 0, none⟩ (.int .i64 k)).setCell ⟨wt1.heap.size, 1, none⟩ (.slice A6 n c6)).setCell ⟨wt1.heap.size, 2, none⟩ (.slice (some ⟨wt16.heap.size, 0, none⟩) n n) := ⟨_, rfl⟩
                have Kwt22 : Hid (Keep w2 wt22) := by rw [hwt22]; have := Kwt1.out.size; exact ((Kwt21.out.set (by show _ ≤ wt1.heap.size; omega) _).set (by show _ ≤ wt1.heap.size; omega) _).set (by show _ ≤ wt1.heap.size; omega) _
                have R7 : Hid (wt22.ownsRow w2.heap.size 2 1 (.slice A6 n c6) n (rowL n Z)) := by rw [hwt22]; exact own_blocks1 R6.out fun g hg => set3_other (row_ne R6.out F9.out (by decide) g hg)
                have G7 : Hid (wt22.heap[wt16.heap.size]? = some (.cells (madeCells #[.int .i64 0] n) 2 (0, 0))) := by rw [hwt22]; exact (set3_other (by have := L97.out; omega)).trans F7.out
                have G9 : Hid (wt22.heap[wt1.heap.size]? = some (.cells #[.int .i64 k, .slice A6 n c6, .slice (some ⟨wt16.heap.size, 0, none⟩) n n] 42 (0, 0))) := by rw [hwt22]; exact set3N F9.out
                clear c0 c1 c2 f0
                rw [← hwt22]
                replace hwt22 := Lib.hid hwt22
                refine hK.out _ _ (HELD _ Kwt22.out) (fun hHeld => ?_)
                clear hK K
                try simp only [Act.put, List.getElem_toArray, List.getElem_cons_succ, List.getElem_cons_zero, List.setIfInBounds_toArray, List.set_cons_zero, List.set_cons_succ]
                refine wpAnyH_done (by kernel_rfl) ?_ _
                go_wp2_with fail
                go_meet
                case rel => exact ⟨wt1.heap.size, wt16.heap.size, A6, c6, rfl, Kwt22.out, G9.out, rd_own R7.out rdA.out.small rdA.out.range, rd_made G7.out (by omega), nl6.out⟩
          · simp only [List.getElem_toArray, List.getElem_cons_succ, List.getElem_cons_zero]
            rw [if_pos (by rfl)]
            go_simp
            obtain ⟨wt23, hwt23⟩ : ∃ W, W = wt0.alloc (.cells (madeCells #[.int .i64 0] n) 2) := ⟨_, rfl⟩
            have Jwt23 : Hid (Keep wt0 wt23) := by rw [hwt23]; exact Keep.one _ _
            have Kwt23 : Hid (Keep w2 wt23) := Kwt0.out.trans Jwt23.out
            have F7 : Hid (wt23.heap[wt0.heap.size]? = some (.cells (madeCells #[.int .i64 0] n) 2 (0, 0))) := by rw [hwt23]; exact heap_alloc_new _ _
            rw [← hwt23]
            replace hwt23 := Lib.hid hwt23
            refine hK.out _ _ (HELD _ Kwt23.out) (fun hHeld => ?_)
            clear hK K
            try simp only [Act.put, List.getElem_toArray, List.getElem_cons_succ, List.getElem_cons_zero, List.setIfInBounds_toArray, List.set_cons_zero, List.set_cons_succ]
            refine wpAnyH_ready (rs := [2, 9]) (by kernel_rfl) (by simp) ?_
            refine (AllReadyH.cons rfl (fun K hK => ?_) (AllReadyH.cons rfl (fun K hK => ?_) AllReadyH.nil))
            · simp only [List.getElem_toArray, List.getElem_cons_succ, List.getElem_cons_zero]
              rw [if_pos (by rfl)]
              go_simp
              obtain ⟨wt24, hwt24⟩ : ∃ W, W = wt23.alloc (.cells #[] 2) := ⟨_, rfl⟩
              have Jwt24 : Hid (Keep wt23 wt24) := by rw [hwt24]; exact Keep.one _ _
              have Kwt24 : Hid (Keep w2 wt24) := Kwt23.out.trans Jwt24.out
              have L72 : Hid (wt0.heap.size < wt23.heap.size) := (Array.getElem?_eq_some_iff.1 F7.out).1
              replace F7 : Hid (wt24.heap[wt0.heap.size]? = some (.cells (madeCells #[.int .i64 0] n) 2 (0, 0))) := Jwt24.out.block F7.out
              have F2 : Hid (wt24.heap[wt23.heap.size]? = some (.cells #[] 2 (0, 0))) := by rw [hwt24]; exact heap_alloc_new _ _
              rw [← hwt24]
              replace hwt24 := Lib.hid hwt24
              refine hK.out _ _ (HELD _ Kwt24.out) (fun hHeld => ?_)
              clear hK K
              try simp only [Act.put, List.getElem_toArray, List.getElem_cons_succ, List.getElem_cons_zero, List.setIfInBounds_toArray, List.set_cons_zero, List.set_cons_succ]
              refine wpAnyH_ready (rs := [5, 9]) (by kernel_rfl) (by simp) ?_
              refine (AllReadyH.cons rfl (fun K hK => ?_) (AllReadyH.cons rfl (fun K hK => ?_) AllReadyH.nil))
              · simp only [List.getElem_toArray, List.getElem_cons_succ, List.getElem_cons_zero]
                rw [if_pos (by rfl)]
                refine wp_amounts (.tmp 52) (.tmp 54) rfl w2.heap.size (.slice (some ⟨wt23.heap.size, 0, none⟩) 0 0) (by simp [Act.eval]) (own_none (by have := Kwt23.out.size; omega) F2.out) A n c Z (by simp [Act.eval]) (rdA.out.keep (K2.out.trans Kwt24.out)) nilA.out (by omega) (Kwt24.out.size) ?_
                intro v6 wt25 hr6 hg6
                obtain ⟨A6, c6, hv6, nl6⟩ := own_form hr6
                subst hv6
                have Jwt25 : Hid (Keep w2 wt25) := keep_grown Kwt24.out hg6 (fun q hq => by simp [Value.ownBlock] at hq; have := Kwt23.out.size; omega)
                have Kwt25 : Hid (Keep w2 wt25) := Jwt25.out
                replace F7 : Hid (wt25.heap[wt0.heap.size]? = some (.cells (madeCells #[.int .i64 0] n) 2 (0, 0))) := (hg6.block _ (Array.getElem?_eq_some_iff.1 F7.out).1 (by have := L72.out; simp [Value.ownBlock]; omega)).trans F7.out
                have nl6 := Lib.hid nl6
                have R6 : Hid (wt25.ownsRow w2.heap.size 2 1 (.slice A6 n c6) n (rowL n Z)) := hr6
                clear hr6
                replace hg6 := Lib.hid hg6
                clear F2
                refine hK.out _ _ (HELD _ Kwt25.out) (fun hHeld => ?_)
                clear hK K
                try simp only [Act.put, List.setIfInBounds_toArray, List.set_cons_zero, List.set_cons_succ]
                refine wpAnyH_take (i := 8) (v := .agg #[.int .i64 k, .slice A6 n c6, .slice (some ⟨wt0.heap.size, 0, none⟩) n n]) rfl (by kernel_rfl) (by kernel_rfl) (by kernel_rfl) (fun _ _ _ h => h) (Or.inl ⟨by rfl, fun Wz hW => by obtain ⟨s0, s1⟩ := hW; go_simp⟩) hHeld ?_
                simp only [Act.put, List.getElem_toArray, List.getElem_cons_succ, List.getElem_cons_zero, List.setIfInBounds_toArray, List.set_cons_zero, List.set_cons_succ]
                refine wpAnyH_ready (rs := [9]) (by kernel_rfl) (by simp) ?_
                refine (AllReadyH.cons rfl (fun K hK => ?_) AllReadyH.nil)
                simp only [List.getElem_toArray, List.getElem_cons_succ, List.getElem_cons_zero]
                rw [if_pos (by rfl)]
                go_simp
                obtain ⟨wt26, hwt26⟩ : ∃ W, W = wt25.alloc (.cells #[.int .i64 0, .slice none 0 0, .slice none 0 0] 42) := ⟨_, rfl⟩
                have Jwt26 : Hid (Keep wt25 wt26) := by rw [hwt26]; exact Keep.one _ _
                have Kwt26 : Hid (Keep w2 wt26) := Kwt25.out.trans Jwt26.out
                have L79 : Hid (wt0.heap.size < wt25.heap.size) := (Array.getElem?_eq_some_iff.1 F7.out).1
                replace F7 : Hid (wt26.heap[wt0.heap.size]? = some (.cells (madeCells #[.int .i64 0] n) 2 (0, 0))) := Jwt26.out.block F7.out
                replace R6 : Hid (wt26.ownsRow w2.heap.size 2 1 (.slice A6 n c6) n (rowL n Z)) := own_keep R6.out Jwt26.out
                have F9 : Hid (wt26.heap[wt25.heap.size]? = some (.cells #[.int .i64 0, .slice none 0 0, .slice none 0 0] 42 (0, 0))) := by rw [hwt26]; exact heap_alloc_new _ _
                rw [← hwt26]
                replace hwt26 := Lib.hid hwt26
                refine hK.out _ _ (HELD _ Kwt26.out) (fun hHeld => ?_)
                clear hK K
                try simp only [Act.put, List.getElem_toArray, List.getElem_cons_succ, List.getElem_cons_zero, List.setIfInBounds_toArray, List.set_cons_zero, List.set_cons_succ]
                refine wpAnyH_ready (rs := [10]) (by kernel_rfl) (by simp) ?_
                refine (AllReadyH.cons rfl (fun K hK => ?_) AllReadyH.nil)
                simp only [List.getElem_toArray, List.getElem_cons_succ, List.getElem_cons_zero]
                rw [if_pos (by rfl)]
                obtain ⟨c0, c1, c2, f0⟩ := celN F9.out
                go_simp
                obtain ⟨wt27, hwt27⟩ : ∃ W, W = ((wt26.setCell ⟨wt25.heap.size, 0, none⟩ (.int .i64 k)).setCell ⟨wt25.heap.size, 1, none⟩ (.slice A6 n c6)).setCell ⟨wt25.heap.size, 2, none⟩ (.slice (some ⟨wt0.heap.size, 0, none⟩) n n) := ⟨_, rfl⟩
                have Kwt27 : Hid (Keep w2 wt27) := by rw [hwt27]; have := Kwt25.out.size; exact ((Kwt26.out.set (by show _ ≤ wt25.heap.size; omega) _).set (by show _ ≤ wt25.heap.size; omega) _).set (by show _ ≤ wt25.heap.size; omega) _
                have R7 : Hid (wt27.ownsRow w2.heap.size 2 1 (.slice A6 n c6) n (rowL n Z)) := by rw [hwt27]; exact own_blocks1 R6.out fun g hg => set3_other (row_ne R6.out F9.out (by decide) g hg)
                have G7 : Hid (wt27.heap[wt0.heap.size]? = some (.cells (madeCells #[.int .i64 0] n) 2 (0, 0))) := by rw [hwt27]; exact (set3_other (by have := L79.out; omega)).trans F7.out
                have G9 : Hid (wt27.heap[wt25.heap.size]? = some (.cells #[.int .i64 k, .slice A6 n c6, .slice (some ⟨wt0.heap.size, 0, none⟩) n n] 42 (0, 0))) := by rw [hwt27]; exact set3N F9.out
                clear c0 c1 c2 f0
                rw [← hwt27]
                replace hwt27 := Lib.hid hwt27
                refine hK.out _ _ (HELD _ Kwt27.out) (fun hHeld => ?_)
                clear hK K
                try simp only [Act.put, List.getElem_toArray, List.getElem_cons_succ, List.getElem_cons_zero, List.setIfInBounds_toArray, List.set_cons_zero, List.set_cons_succ]
                refine wpAnyH_done (by kernel_rfl) ?_ _
                go_wp2_with fail
                go_meet
                case rel => exact ⟨wt25.heap.size, wt0.heap.size, A6, c6, rfl, Kwt27.out, G9.out, rd_own R7.out rdA.out.small rdA.out.range, rd_made G7.out (by omega), nl6.out⟩
              · simp only [List.getElem_toArray, List.getElem_cons_succ, List.getElem_cons_zero]
                rw [if_pos (by rfl)]
                go_simp
                obtain ⟨wt28, hwt28⟩ : ∃ W, W = wt24.alloc (.cells #[.int .i64 0, .slice none 0 0, .slice none 0 0] 42) := ⟨_, rfl⟩
                have Jwt28 : Hid (Keep wt24 wt28) := by rw [hwt28]; exact Keep.one _ _
                have Kwt28 : Hid (Keep w2 wt28) := Kwt24.out.trans Jwt28.out
                have L79 : Hid (wt0.heap.size < wt24.heap.size) := (Array.getElem?_eq_some_iff.1 F7.out).1
                have L29 : Hid (wt23.heap.size < wt24.heap.size) := (Array.getElem?_eq_some_iff.1 F2.out).1
                replace F7 : Hid (wt28.heap[wt0.heap.size]? = some (.cells (madeCells #[.int .i64 0] n) 2 (0, 0))) := Jwt28.out.block F7.out
                replace F2 : Hid (wt28.heap[wt23.heap.size]? = some (.cells #[] 2 (0, 0))) := Jwt28.out.block F2.out
                have F9 : Hid (wt28.heap[wt24.heap.size]? = some (.cells #[.int .i64 0, .slice none 0 0, .slice none 0 0] 42 (0, 0))) := by rw [hwt28]; exact heap_alloc_new _ _
                rw [← hwt28]
                replace hwt28 := Lib.hid hwt28
                refine hK.out _ _ (HELD _ Kwt28.out) (fun hHeld => ?_)
                clear hK K
                try simp only [Act.put, List.getElem_toArray, List.getElem_cons_succ, List.getElem_cons_zero, List.setIfInBounds_toArray, List.set_cons_zero, List.set_cons_succ]
                refine wpAnyH_ready (rs := [5]) (by kernel_rfl) (by simp) ?_
                refine (AllReadyH.cons rfl (fun K hK => ?_) AllReadyH.nil)
                simp only [List.getElem_toArray, List.getElem_cons_succ, List.getElem_cons_zero]
                rw [if_pos (by rfl)]
                refine wp_amounts (.tmp 52) (.tmp 54) rfl w2.heap.size (.slice (some ⟨wt23.heap.size, 0, none⟩) 0 0) (by simp [Act.eval]) (own_none (by have := Kwt23.out.size; omega) F2.out) A n c Z (by simp [Act.eval]) (rdA.out.keep (K2.out.trans Kwt28.out)) nilA.out (by omega) (Kwt28.out.size) ?_
                intro v6 wt29 hr6 hg6
                obtain ⟨A6, c6, hv6, nl6⟩ := own_form hr6
                subst hv6
                have Jwt29 : Hid (Keep w2 wt29) := keep_grown Kwt28.out hg6 (fun q hq => by simp [Value.ownBlock] at hq; have := Kwt23.out.size; omega)
                have Kwt29 : Hid (Keep w2 wt29) := Jwt29.out
                replace F7 : Hid (wt29.heap[wt0.heap.size]? = some (.cells (madeCells #[.int .i64 0] n) 2 (0, 0))) := (hg6.block _ (Array.getElem?_eq_some_iff.1 F7.out).1 (by have := L72.out; simp [Value.ownBlock]; omega)).trans F7.out
                replace F9 : Hid (wt29.heap[wt24.heap.size]? = some (.cells #[.int .i64 0, .slice none 0 0, .slice none 0 0] 42 (0, 0))) := (hg6.block _ (Array.getElem?_eq_some_iff.1 F9.out).1 (by have := L29.out; simp [Value.ownBlock]; omega)).trans F9.out
                have nl6 := Lib.hid nl6
                have R6 : Hid (wt29.ownsRow w2.heap.size 2 1 (.slice A6 n c6) n (rowL n Z)) := hr6
                clear hr6
                replace hg6 := Lib.hid hg6
                clear F2
                refine hK.out _ _ (HELD _ Kwt29.out) (fun hHeld => ?_)
                clear hK K
                try simp only [Act.put, List.setIfInBounds_toArray, List.set_cons_zero, List.set_cons_succ]
                refine wpAnyH_take (i := 8) (v := .agg #[.int .i64 k, .slice A6 n c6, .slice (some ⟨wt0.heap.size, 0, none⟩) n n]) rfl (by kernel_rfl) (by kernel_rfl) (by kernel_rfl) (fun _ _ _ h => h) (Or.inl ⟨by rfl, fun Wz hW => by obtain ⟨s0, s1⟩ := hW; go_simp⟩) hHeld ?_
                simp only [Act.put, List.getElem_toArray, List.getElem_cons_succ, List.getElem_cons_zero, List.setIfInBounds_toArray, List.set_cons_zero, List.set_cons_succ]
                refine wpAnyH_ready (rs := [10]) (by kernel_rfl) (by simp) ?_
                refine (AllReadyH.cons rfl (fun K hK => ?_) AllReadyH.nil)
                simp only [List.getElem_toArray, List.getElem_cons_succ, List.getElem_cons_zero]
                rw [if_pos (by rfl)]
                obtain ⟨c0, c1, c2, f0⟩ := celN F9.out
                go_simp
                obtain ⟨wt30, hwt30⟩ : ∃ W, W = ((wt29.setCell ⟨wt24.heap.size, 0, none⟩ (.int .i64 k)).setCell ⟨wt24.heap.size, 1, none⟩ (.slice A6 n c6)).setCell ⟨wt24.heap.size, 2, none⟩ (.slice (some ⟨wt0.heap.size, 0, none⟩) n n) := ⟨_, rfl⟩
                have Kwt30 : Hid (Keep w2 wt30) := by rw [hwt30]; have := Kwt24.out.size; exact ((Kwt29.out.set (by show _ ≤ wt24.heap.size; omega) _).set (by show _ ≤ wt24.heap.size; omega) _).set (by show _ ≤ wt24.heap.size; omega) _
                have R7 : Hid (wt30.ownsRow w2.heap.size 2 1 (.slice A6 n c6) n (rowL n Z)) := by rw [hwt30]; exact own_blocks1 R6.out fun g hg => set3_other (row_ne R6.out F9.out (by decide) g hg)
                have G7 : Hid (wt30.heap[wt0.heap.size]? = some (.cells (madeCells #[.int .i64 0] n) 2 (0, 0))) := by rw [hwt30]; exact (set3_other (by have := L79.out; omega)).trans F7.out
                have G9 : Hid (wt30.heap[wt24.heap.size]? = some (.cells #[.int .i64 k, .slice A6 n c6, .slice (some ⟨wt0.heap.size, 0, none⟩) n n] 42 (0, 0))) := by rw [hwt30]; exact set3N F9.out
                clear c0 c1 c2 f0
                rw [← hwt30]
                replace hwt30 := Lib.hid hwt30
                refine hK.out _ _ (HELD _ Kwt30.out) (fun hHeld => ?_)
                clear hK K
                try simp only [Act.put, List.getElem_toArray, List.getElem_cons_succ, List.getElem_cons_zero, List.setIfInBounds_toArray, List.set_cons_zero, List.set_cons_succ]
                refine wpAnyH_done (by kernel_rfl) ?_ _
                go_wp2_with fail
                go_meet
                case rel => exact ⟨wt24.heap.size, wt0.heap.size, A6, c6, rfl, Kwt30.out, G9.out, rd_own R7.out rdA.out.small rdA.out.range, rd_made G7.out (by omega), nl6.out⟩
            · simp only [List.getElem_toArray, List.getElem_cons_succ, List.getElem_cons_zero]
              rw [if_pos (by rfl)]
              go_simp
              obtain ⟨wt31, hwt31⟩ : ∃ W, W = wt23.alloc (.cells #[.int .i64 0, .slice none 0 0, .slice none 0 0] 42) := ⟨_, rfl⟩
              have Jwt31 : Hid (Keep wt23 wt31) := by rw [hwt31]; exact Keep.one _ _
              have Kwt31 : Hid (Keep w2 wt31) := Kwt23.out.trans Jwt31.out
              have L79 : Hid (wt0.heap.size < wt23.heap.size) := (Array.getElem?_eq_some_iff.1 F7.out).1
              replace F7 : Hid (wt31.heap[wt0.heap.size]? = some (.cells (madeCells #[.int .i64 0] n) 2 (0, 0))) := Jwt31.out.block F7.out
              have F9 : Hid (wt31.heap[wt23.heap.size]? = some (.cells #[.int .i64 0, .slice none 0 0, .slice none 0 0] 42 (0, 0))) := by rw [hwt31]; exact heap_alloc_new _ _
              rw [← hwt31]
              replace hwt31 := Lib.hid hwt31
              refine hK.out _ _ (HELD _ Kwt31.out) (fun hHeld => ?_)
              clear hK K
              try simp only [Act.put, List.getElem_toArray, List.getElem_cons_succ, List.getElem_cons_zero, List.setIfInBounds_toArray, List.set_cons_zero, List.set_cons_succ]
              refine wpAnyH_ready (rs := [2]) (by kernel_rfl) (by simp) ?_
              refine (AllReadyH.cons rfl (fun K hK => ?_) AllReadyH.nil)
              simp only [List.getElem_toArray, List.getElem_cons_succ, List.getElem_cons_zero]
              rw [if_pos (by rfl)]
              go_simp
              obtain ⟨wt32, hwt32⟩ : ∃ W, W = wt31.alloc (.cells #[] 2) := ⟨_, rfl⟩
              have Jwt32 : Hid (Keep wt31 wt32) := by rw [hwt32]; exact Keep.one _ _
              have Kwt32 : Hid (Keep w2 wt32) := Kwt31.out.trans Jwt32.out
              have L72 : Hid (wt0.heap.size < wt31.heap.size) := (Array.getElem?_eq_some_iff.1 F7.out).1
              have L92 : Hid (wt23.heap.size < wt31.heap.size) := (Array.getElem?_eq_some_iff.1 F9.out).1
              replace F7 : Hid (wt32.heap[wt0.heap.size]? = some (.cells (madeCells #[.int .i64 0] n) 2 (0, 0))) := Jwt32.out.block F7.out
              replace F9 : Hid (wt32.heap[wt23.heap.size]? = some (.cells #[.int .i64 0, .slice none 0 0, .slice none 0 0] 42 (0, 0))) := Jwt32.out.block F9.out
              have F2 : Hid (wt32.heap[wt31.heap.size]? = some (.cells #[] 2 (0, 0))) := by rw [hwt32]; exact heap_alloc_new _ _
              rw [← hwt32]
              replace hwt32 := Lib.hid hwt32
              refine hK.out _ _ (HELD _ Kwt32.out) (fun hHeld => ?_)
              clear hK K
              try simp only [Act.put, List.getElem_toArray, List.getElem_cons_succ, List.getElem_cons_zero, List.setIfInBounds_toArray, List.set_cons_zero, List.set_cons_succ]
              refine wpAnyH_ready (rs := [5]) (by kernel_rfl) (by simp) ?_
              refine (AllReadyH.cons rfl (fun K hK => ?_) AllReadyH.nil)
              simp only [List.getElem_toArray, List.getElem_cons_succ, List.getElem_cons_zero]
              rw [if_pos (by rfl)]
              refine wp_amounts (.tmp 52) (.tmp 54) rfl w2.heap.size (.slice (some ⟨wt31.heap.size, 0, none⟩) 0 0) (by simp [Act.eval]) (own_none (by have := Kwt31.out.size; omega) F2.out) A n c Z (by simp [Act.eval]) (rdA.out.keep (K2.out.trans Kwt32.out)) nilA.out (by omega) (Kwt32.out.size) ?_
              intro v6 wt33 hr6 hg6
              obtain ⟨A6, c6, hv6, nl6⟩ := own_form hr6
              subst hv6
              have Jwt33 : Hid (Keep w2 wt33) := keep_grown Kwt32.out hg6 (fun q hq => by simp [Value.ownBlock] at hq; have := Kwt31.out.size; omega)
              have Kwt33 : Hid (Keep w2 wt33) := Jwt33.out
              replace F7 : Hid (wt33.heap[wt0.heap.size]? = some (.cells (madeCells #[.int .i64 0] n) 2 (0, 0))) := (hg6.block _ (Array.getElem?_eq_some_iff.1 F7.out).1 (by have := L72.out; simp [Value.ownBlock]; omega)).trans F7.out
              replace F9 : Hid (wt33.heap[wt23.heap.size]? = some (.cells #[.int .i64 0, .slice none 0 0, .slice none 0 0] 42 (0, 0))) := (hg6.block _ (Array.getElem?_eq_some_iff.1 F9.out).1 (by have := L92.out; simp [Value.ownBlock]; omega)).trans F9.out
              have nl6 := Lib.hid nl6
              have R6 : Hid (wt33.ownsRow w2.heap.size 2 1 (.slice A6 n c6) n (rowL n Z)) := hr6
              clear hr6
              replace hg6 := Lib.hid hg6
              clear F2
              refine hK.out _ _ (HELD _ Kwt33.out) (fun hHeld => ?_)
              clear hK K
              try simp only [Act.put, List.setIfInBounds_toArray, List.set_cons_zero, List.set_cons_succ]
              refine wpAnyH_take (i := 8) (v := .agg #[.int .i64 k, .slice A6 n c6, .slice (some ⟨wt0.heap.size, 0, none⟩) n n]) rfl (by kernel_rfl) (by kernel_rfl) (by kernel_rfl) (fun _ _ _ h => h) (Or.inl ⟨by rfl, fun Wz hW => by obtain ⟨s0, s1⟩ := hW; go_simp⟩) hHeld ?_
              simp only [Act.put, List.getElem_toArray, List.getElem_cons_succ, List.getElem_cons_zero, List.setIfInBounds_toArray, List.set_cons_zero, List.set_cons_succ]
              refine wpAnyH_ready (rs := [10]) (by kernel_rfl) (by simp) ?_
              refine (AllReadyH.cons rfl (fun K hK => ?_) AllReadyH.nil)
              simp only [List.getElem_toArray, List.getElem_cons_succ, List.getElem_cons_zero]
              rw [if_pos (by rfl)]
              obtain ⟨c0, c1, c2, f0⟩ := celN F9.out
              go_simp
              obtain ⟨wt34, hwt34⟩ : ∃ W, W = ((wt33.setCell ⟨wt23.heap.size, 0, none⟩ (.int .i64 k)).setCell ⟨wt23.heap.size, 1, none⟩ (.slice A6 n c6)).setCell ⟨wt23.heap.size, 2, none⟩ (.slice (some ⟨wt0.heap.size, 0, none⟩) n n) := ⟨_, rfl⟩
              have Kwt34 : Hid (Keep w2 wt34) := by rw [hwt34]; have := Kwt23.out.size; exact ((Kwt33.out.set (by show _ ≤ wt23.heap.size; omega) _).set (by show _ ≤ wt23.heap.size; omega) _).set (by show _ ≤ wt23.heap.size; omega) _
              have R7 : Hid (wt34.ownsRow w2.heap.size 2 1 (.slice A6 n c6) n (rowL n Z)) := by rw [hwt34]; exact own_blocks1 R6.out fun g hg => set3_other (row_ne R6.out F9.out (by decide) g hg)
              have G7 : Hid (wt34.heap[wt0.heap.size]? = some (.cells (madeCells #[.int .i64 0] n) 2 (0, 0))) := by rw [hwt34]; exact (set3_other (by have := L79.out; omega)).trans F7.out
              have G9 : Hid (wt34.heap[wt23.heap.size]? = some (.cells #[.int .i64 k, .slice A6 n c6, .slice (some ⟨wt0.heap.size, 0, none⟩) n n] 42 (0, 0))) := by rw [hwt34]; exact set3N F9.out
              clear c0 c1 c2 f0
              rw [← hwt34]
              replace hwt34 := Lib.hid hwt34
              refine hK.out _ _ (HELD _ Kwt34.out) (fun hHeld => ?_)
              clear hK K
              try simp only [Act.put, List.getElem_toArray, List.getElem_cons_succ, List.getElem_cons_zero, List.setIfInBounds_toArray, List.set_cons_zero, List.set_cons_succ]
              refine wpAnyH_done (by kernel_rfl) ?_ _
              go_wp2_with fail
              go_meet
              case rel => exact ⟨wt23.heap.size, wt0.heap.size, A6, c6, rfl, Kwt34.out, G9.out, rd_own R7.out rdA.out.small rdA.out.range, rd_made G7.out (by omega), nl6.out⟩
          · simp only [List.getElem_toArray, List.getElem_cons_succ, List.getElem_cons_zero]
            rw [if_pos (by rfl)]
            go_simp
            obtain ⟨wt35, hwt35⟩ : ∃ W, W = wt0.alloc (.cells #[.int .i64 0, .slice none 0 0, .slice none 0 0] 42) := ⟨_, rfl⟩
            have Jwt35 : Hid (Keep wt0 wt35) := by rw [hwt35]; exact Keep.one _ _
            have Kwt35 : Hid (Keep w2 wt35) := Kwt0.out.trans Jwt35.out
            have F9 : Hid (wt35.heap[wt0.heap.size]? = some (.cells #[.int .i64 0, .slice none 0 0, .slice none 0 0] 42 (0, 0))) := by rw [hwt35]; exact heap_alloc_new _ _
            rw [← hwt35]
            replace hwt35 := Lib.hid hwt35
            refine hK.out _ _ (HELD _ Kwt35.out) (fun hHeld => ?_)
            clear hK K
            try simp only [Act.put, List.getElem_toArray, List.getElem_cons_succ, List.getElem_cons_zero, List.setIfInBounds_toArray, List.set_cons_zero, List.set_cons_succ]
            refine wpAnyH_ready (rs := [2, 7]) (by kernel_rfl) (by simp) ?_
            refine (AllReadyH.cons rfl (fun K hK => ?_) (AllReadyH.cons rfl (fun K hK => ?_) AllReadyH.nil))
            · simp only [List.getElem_toArray, List.getElem_cons_succ, List.getElem_cons_zero]
              rw [if_pos (by rfl)]
              go_simp
              obtain ⟨wt36, hwt36⟩ : ∃ W, W = wt35.alloc (.cells #[] 2) := ⟨_, rfl⟩
              have Jwt36 : Hid (Keep wt35 wt36) := by rw [hwt36]; exact Keep.one _ _
              have Kwt36 : Hid (Keep w2 wt36) := Kwt35.out.trans Jwt36.out
              have L92 : Hid (wt0.heap.size < wt35.heap.size) := (Array.getElem?_eq_some_iff.1 F9.out).1
              replace F9 : Hid (wt36.heap[wt0.heap.size]? = some (.cells #[.int .i64 0, .slice none 0 0, .slice none 0 0] 42 (0, 0))) := Jwt36.out.block F9.out
              have F2 : Hid (wt36.heap[wt35.heap.size]? = some (.cells #[] 2 (0, 0))) := by rw [hwt36]; exact heap_alloc_new _ _
              rw [← hwt36]
              replace hwt36 := Lib.hid hwt36
              refine hK.out _ _ (HELD _ Kwt36.out) (fun hHeld => ?_)
              clear hK K
              try simp only [Act.put, List.getElem_toArray, List.getElem_cons_succ, List.getElem_cons_zero, List.setIfInBounds_toArray, List.set_cons_zero, List.set_cons_succ]
              refine wpAnyH_ready (rs := [5, 7]) (by kernel_rfl) (by simp) ?_
              refine (AllReadyH.cons rfl (fun K hK => ?_) (AllReadyH.cons rfl (fun K hK => ?_) AllReadyH.nil))
              · simp only [List.getElem_toArray, List.getElem_cons_succ, List.getElem_cons_zero]
                rw [if_pos (by rfl)]
                refine wp_amounts (.tmp 52) (.tmp 54) rfl w2.heap.size (.slice (some ⟨wt35.heap.size, 0, none⟩) 0 0) (by simp [Act.eval]) (own_none (by have := Kwt35.out.size; omega) F2.out) A n c Z (by simp [Act.eval]) (rdA.out.keep (K2.out.trans Kwt36.out)) nilA.out (by omega) (Kwt36.out.size) ?_
                intro v6 wt37 hr6 hg6
                obtain ⟨A6, c6, hv6, nl6⟩ := own_form hr6
                subst hv6
                have Jwt37 : Hid (Keep w2 wt37) := keep_grown Kwt36.out hg6 (fun q hq => by simp [Value.ownBlock] at hq; have := Kwt35.out.size; omega)
                have Kwt37 : Hid (Keep w2 wt37) := Jwt37.out
                replace F9 : Hid (wt37.heap[wt0.heap.size]? = some (.cells #[.int .i64 0, .slice none 0 0, .slice none 0 0] 42 (0, 0))) := (hg6.block _ (Array.getElem?_eq_some_iff.1 F9.out).1 (by have := L92.out; simp [Value.ownBlock]; omega)).trans F9.out
                have nl6 := Lib.hid nl6
                have R6 : Hid (wt37.ownsRow w2.heap.size 2 1 (.slice A6 n c6) n (rowL n Z)) := hr6
                clear hr6
                replace hg6 := Lib.hid hg6
                clear F2
                refine hK.out _ _ (HELD _ Kwt37.out) (fun hHeld => ?_)
                clear hK K
                try simp only [Act.put, List.setIfInBounds_toArray, List.set_cons_zero, List.set_cons_succ]
                refine wpAnyH_ready (rs := [7]) (by kernel_rfl) (by simp) ?_
                refine (AllReadyH.cons rfl (fun K hK => ?_) AllReadyH.nil)
                simp only [List.getElem_toArray, List.getElem_cons_succ, List.getElem_cons_zero]
                rw [if_pos (by rfl)]
                go_simp
                obtain ⟨wt38, hwt38⟩ : ∃ W, W = wt37.alloc (.cells (madeCells #[.int .i64 0] n) 2) := ⟨_, rfl⟩
                have Jwt38 : Hid (Keep wt37 wt38) := by rw [hwt38]; exact Keep.one _ _
                have Kwt38 : Hid (Keep w2 wt38) := Kwt37.out.trans Jwt38.out
                have L97 : Hid (wt0.heap.size < wt37.heap.size) := (Array.getElem?_eq_some_iff.1 F9.out).1
                replace F9 : Hid (wt38.heap[wt0.heap.size]? = some (.cells #[.int .i64 0, .slice none 0 0, .slice none 0 0] 42 (0, 0))) := Jwt38.out.block F9.out
                replace R6 : Hid (wt38.ownsRow w2.heap.size 2 1 (.slice A6 n c6) n (rowL n Z)) := own_keep R6.out Jwt38.out
                have F7 : Hid (wt38.heap[wt37.heap.size]? = some (.cells (madeCells #[.int .i64 0] n) 2 (0, 0))) := by rw [hwt38]; exact heap_alloc_new _ _
                rw [← hwt38]
                replace hwt38 := Lib.hid hwt38
                refine hK.out _ _ (HELD _ Kwt38.out) (fun hHeld => ?_)
                clear hK K
                try simp only [Act.put, List.getElem_toArray, List.getElem_cons_succ, List.getElem_cons_zero, List.setIfInBounds_toArray, List.set_cons_zero, List.set_cons_succ]
                refine wpAnyH_take (i := 8) (v := .agg #[.int .i64 k, .slice A6 n c6, .slice (some ⟨wt37.heap.size, 0, none⟩) n n]) rfl (by kernel_rfl) (by kernel_rfl) (by kernel_rfl) (fun _ _ _ h => h) (Or.inl ⟨by rfl, fun Wz hW => by obtain ⟨s0, s1⟩ := hW; go_simp⟩) hHeld ?_
                simp only [Act.put, List.getElem_toArray, List.getElem_cons_succ, List.getElem_cons_zero, List.setIfInBounds_toArray, List.set_cons_zero, List.set_cons_succ]
                refine wpAnyH_ready (rs := [10]) (by kernel_rfl) (by simp) ?_
                refine (AllReadyH.cons rfl (fun K hK => ?_) AllReadyH.nil)
                simp only [List.getElem_toArray, List.getElem_cons_succ, List.getElem_cons_zero]
                rw [if_pos (by rfl)]
                obtain ⟨c0, c1, c2, f0⟩ := celN F9.out
                go_simp
                obtain ⟨wt39, hwt39⟩ : ∃ W, W = ((wt38.setCell ⟨wt0.heap.size, 0, none⟩ (.int .i64 k)).setCell ⟨wt0.heap.size, 1, none⟩ (.slice A6 n c6)).setCell ⟨wt0.heap.size, 2, none⟩ (.slice (some ⟨wt37.heap.size, 0, none⟩) n n) := ⟨_, rfl⟩
                have Kwt39 : Hid (Keep w2 wt39) := by rw [hwt39]; have := Kwt0.out.size; exact ((Kwt38.out.set (by show _ ≤ wt0.heap.size; omega) _).set (by show _ ≤ wt0.heap.size; omega) _).set (by show _ ≤ wt0.heap.size; omega) _
                have R7 : Hid (wt39.ownsRow w2.heap.size 2 1 (.slice A6 n c6) n (rowL n Z)) := by rw [hwt39]; exact own_blocks1 R6.out fun g hg => set3_other (row_ne R6.out F9.out (by decide) g hg)
                have G7 : Hid (wt39.heap[wt37.heap.size]? = some (.cells (madeCells #[.int .i64 0] n) 2 (0, 0))) := by rw [hwt39]; exact (set3_other (by have := L97.out; omega)).trans F7.out
                have G9 : Hid (wt39.heap[wt0.heap.size]? = some (.cells #[.int .i64 k, .slice A6 n c6, .slice (some ⟨wt37.heap.size, 0, none⟩) n n] 42 (0, 0))) := by rw [hwt39]; exact set3N F9.out
                clear c0 c1 c2 f0
                rw [← hwt39]
                replace hwt39 := Lib.hid hwt39
                refine hK.out _ _ (HELD _ Kwt39.out) (fun hHeld => ?_)
                clear hK K
                try simp only [Act.put, List.getElem_toArray, List.getElem_cons_succ, List.getElem_cons_zero, List.setIfInBounds_toArray, List.set_cons_zero, List.set_cons_succ]
                refine wpAnyH_done (by kernel_rfl) ?_ _
                go_wp2_with fail
                go_meet
                case rel => exact ⟨wt0.heap.size, wt37.heap.size, A6, c6, rfl, Kwt39.out, G9.out, rd_own R7.out rdA.out.small rdA.out.range, rd_made G7.out (by omega), nl6.out⟩
              · simp only [List.getElem_toArray, List.getElem_cons_succ, List.getElem_cons_zero]
                rw [if_pos (by rfl)]
                go_simp
                obtain ⟨wt40, hwt40⟩ : ∃ W, W = wt36.alloc (.cells (madeCells #[.int .i64 0] n) 2) := ⟨_, rfl⟩
                have Jwt40 : Hid (Keep wt36 wt40) := by rw [hwt40]; exact Keep.one _ _
                have Kwt40 : Hid (Keep w2 wt40) := Kwt36.out.trans Jwt40.out
                have L97 : Hid (wt0.heap.size < wt36.heap.size) := (Array.getElem?_eq_some_iff.1 F9.out).1
                have L27 : Hid (wt35.heap.size < wt36.heap.size) := (Array.getElem?_eq_some_iff.1 F2.out).1
                replace F9 : Hid (wt40.heap[wt0.heap.size]? = some (.cells #[.int .i64 0, .slice none 0 0, .slice none 0 0] 42 (0, 0))) := Jwt40.out.block F9.out
                replace F2 : Hid (wt40.heap[wt35.heap.size]? = some (.cells #[] 2 (0, 0))) := Jwt40.out.block F2.out
                have F7 : Hid (wt40.heap[wt36.heap.size]? = some (.cells (madeCells #[.int .i64 0] n) 2 (0, 0))) := by rw [hwt40]; exact heap_alloc_new _ _
                rw [← hwt40]
                replace hwt40 := Lib.hid hwt40
                refine hK.out _ _ (HELD _ Kwt40.out) (fun hHeld => ?_)
                clear hK K
                try simp only [Act.put, List.getElem_toArray, List.getElem_cons_succ, List.getElem_cons_zero, List.setIfInBounds_toArray, List.set_cons_zero, List.set_cons_succ]
                refine wpAnyH_ready (rs := [5]) (by kernel_rfl) (by simp) ?_
                refine (AllReadyH.cons rfl (fun K hK => ?_) AllReadyH.nil)
                simp only [List.getElem_toArray, List.getElem_cons_succ, List.getElem_cons_zero]
                rw [if_pos (by rfl)]
                refine wp_amounts (.tmp 52) (.tmp 54) rfl w2.heap.size (.slice (some ⟨wt35.heap.size, 0, none⟩) 0 0) (by simp [Act.eval]) (own_none (by have := Kwt35.out.size; omega) F2.out) A n c Z (by simp [Act.eval]) (rdA.out.keep (K2.out.trans Kwt40.out)) nilA.out (by omega) (Kwt40.out.size) ?_
                intro v6 wt41 hr6 hg6
                obtain ⟨A6, c6, hv6, nl6⟩ := own_form hr6
                subst hv6
                have Jwt41 : Hid (Keep w2 wt41) := keep_grown Kwt40.out hg6 (fun q hq => by simp [Value.ownBlock] at hq; have := Kwt35.out.size; omega)
                have Kwt41 : Hid (Keep w2 wt41) := Jwt41.out
                replace F9 : Hid (wt41.heap[wt0.heap.size]? = some (.cells #[.int .i64 0, .slice none 0 0, .slice none 0 0] 42 (0, 0))) := (hg6.block _ (Array.getElem?_eq_some_iff.1 F9.out).1 (by have := L92.out; simp [Value.ownBlock]; omega)).trans F9.out
                replace F7 : Hid (wt41.heap[wt36.heap.size]? = some (.cells (madeCells #[.int .i64 0] n) 2 (0, 0))) := (hg6.block _ (Array.getElem?_eq_some_iff.1 F7.out).1 (by have := L27.out; simp [Value.ownBlock]; omega)).trans F7.out
                have nl6 := Lib.hid nl6
                have R6 : Hid (wt41.ownsRow w2.heap.size 2 1 (.slice A6 n c6) n (rowL n Z)) := hr6
                clear hr6
                replace hg6 := Lib.hid hg6
                clear F2
                refine hK.out _ _ (HELD _ Kwt41.out) (fun hHeld => ?_)
                clear hK K
                try simp only [Act.put, List.setIfInBounds_toArray, List.set_cons_zero, List.set_cons_succ]
                refine wpAnyH_take (i := 8) (v := .agg #[.int .i64 k, .slice A6 n c6, .slice (some ⟨wt36.heap.size, 0, none⟩) n n]) rfl (by kernel_rfl) (by kernel_rfl) (by kernel_rfl) (fun _ _ _ h => h) (Or.inl ⟨by rfl, fun Wz hW => by obtain ⟨s0, s1⟩ := hW; go_simp⟩) hHeld ?_
                simp only [Act.put, List.getElem_toArray, List.getElem_cons_succ, List.getElem_cons_zero, List.setIfInBounds_toArray, List.set_cons_zero, List.set_cons_succ]
                refine wpAnyH_ready (rs := [10]) (by kernel_rfl) (by simp) ?_
                refine (AllReadyH.cons rfl (fun K hK => ?_) AllReadyH.nil)
                simp only [List.getElem_toArray, List.getElem_cons_succ, List.getElem_cons_zero]
                rw [if_pos (by rfl)]
                obtain ⟨c0, c1, c2, f0⟩ := celN F9.out
                go_simp
                obtain ⟨wt42, hwt42⟩ : ∃ W, W = ((wt41.setCell ⟨wt0.heap.size, 0, none⟩ (.int .i64 k)).setCell ⟨wt0.heap.size, 1, none⟩ (.slice A6 n c6)).setCell ⟨wt0.heap.size, 2, none⟩ (.slice (some ⟨wt36.heap.size, 0, none⟩) n n) := ⟨_, rfl⟩
                have Kwt42 : Hid (Keep w2 wt42) := by rw [hwt42]; have := Kwt0.out.size; exact ((Kwt41.out.set (by show _ ≤ wt0.heap.size; omega) _).set (by show _ ≤ wt0.heap.size; omega) _).set (by show _ ≤ wt0.heap.size; omega) _
                have R7 : Hid (wt42.ownsRow w2.heap.size 2 1 (.slice A6 n c6) n (rowL n Z)) := by rw [hwt42]; exact own_blocks1 R6.out fun g hg => set3_other (row_ne R6.out F9.out (by decide) g hg)
                have G7 : Hid (wt42.heap[wt36.heap.size]? = some (.cells (madeCells #[.int .i64 0] n) 2 (0, 0))) := by rw [hwt42]; exact (set3_other (by have := L97.out; omega)).trans F7.out
                have G9 : Hid (wt42.heap[wt0.heap.size]? = some (.cells #[.int .i64 k, .slice A6 n c6, .slice (some ⟨wt36.heap.size, 0, none⟩) n n] 42 (0, 0))) := by rw [hwt42]; exact set3N F9.out
                clear c0 c1 c2 f0
                rw [← hwt42]
                replace hwt42 := Lib.hid hwt42
                refine hK.out _ _ (HELD _ Kwt42.out) (fun hHeld => ?_)
                clear hK K
                try simp only [Act.put, List.getElem_toArray, List.getElem_cons_succ, List.getElem_cons_zero, List.setIfInBounds_toArray, List.set_cons_zero, List.set_cons_succ]
                refine wpAnyH_done (by kernel_rfl) ?_ _
                go_wp2_with fail
                go_meet
                case rel => exact ⟨wt0.heap.size, wt36.heap.size, A6, c6, rfl, Kwt42.out, G9.out, rd_own R7.out rdA.out.small rdA.out.range, rd_made G7.out (by omega), nl6.out⟩
            · simp only [List.getElem_toArray, List.getElem_cons_succ, List.getElem_cons_zero]
              rw [if_pos (by rfl)]
              go_simp
              obtain ⟨wt43, hwt43⟩ : ∃ W, W = wt35.alloc (.cells (madeCells #[.int .i64 0] n) 2) := ⟨_, rfl⟩
              have Jwt43 : Hid (Keep wt35 wt43) := by rw [hwt43]; exact Keep.one _ _
              have Kwt43 : Hid (Keep w2 wt43) := Kwt35.out.trans Jwt43.out
              have L97 : Hid (wt0.heap.size < wt35.heap.size) := (Array.getElem?_eq_some_iff.1 F9.out).1
              replace F9 : Hid (wt43.heap[wt0.heap.size]? = some (.cells #[.int .i64 0, .slice none 0 0, .slice none 0 0] 42 (0, 0))) := Jwt43.out.block F9.out
              have F7 : Hid (wt43.heap[wt35.heap.size]? = some (.cells (madeCells #[.int .i64 0] n) 2 (0, 0))) := by rw [hwt43]; exact heap_alloc_new _ _
              rw [← hwt43]
              replace hwt43 := Lib.hid hwt43
              refine hK.out _ _ (HELD _ Kwt43.out) (fun hHeld => ?_)
              clear hK K
              try simp only [Act.put, List.getElem_toArray, List.getElem_cons_succ, List.getElem_cons_zero, List.setIfInBounds_toArray, List.set_cons_zero, List.set_cons_succ]
              refine wpAnyH_ready (rs := [2]) (by kernel_rfl) (by simp) ?_
              refine (AllReadyH.cons rfl (fun K hK => ?_) AllReadyH.nil)
              simp only [List.getElem_toArray, List.getElem_cons_succ, List.getElem_cons_zero]
              rw [if_pos (by rfl)]
              go_simp
              obtain ⟨wt44, hwt44⟩ : ∃ W, W = wt43.alloc (.cells #[] 2) := ⟨_, rfl⟩
              have Jwt44 : Hid (Keep wt43 wt44) := by rw [hwt44]; exact Keep.one _ _
              have Kwt44 : Hid (Keep w2 wt44) := Kwt43.out.trans Jwt44.out
              have L92 : Hid (wt0.heap.size < wt43.heap.size) := (Array.getElem?_eq_some_iff.1 F9.out).1
              have L72 : Hid (wt35.heap.size < wt43.heap.size) := (Array.getElem?_eq_some_iff.1 F7.out).1
              replace F9 : Hid (wt44.heap[wt0.heap.size]? = some (.cells #[.int .i64 0, .slice none 0 0, .slice none 0 0] 42 (0, 0))) := Jwt44.out.block F9.out
              replace F7 : Hid (wt44.heap[wt35.heap.size]? = some (.cells (madeCells #[.int .i64 0] n) 2 (0, 0))) := Jwt44.out.block F7.out
              have F2 : Hid (wt44.heap[wt43.heap.size]? = some (.cells #[] 2 (0, 0))) := by rw [hwt44]; exact heap_alloc_new _ _
              rw [← hwt44]
              replace hwt44 := Lib.hid hwt44
              refine hK.out _ _ (HELD _ Kwt44.out) (fun hHeld => ?_)
              clear hK K
              try simp only [Act.put, List.getElem_toArray, List.getElem_cons_succ, List.getElem_cons_zero, List.setIfInBounds_toArray, List.set_cons_zero, List.set_cons_succ]
              refine wpAnyH_ready (rs := [5]) (by kernel_rfl) (by simp) ?_
              refine (AllReadyH.cons rfl (fun K hK => ?_) AllReadyH.nil)
              simp only [List.getElem_toArray, List.getElem_cons_succ, List.getElem_cons_zero]
              rw [if_pos (by rfl)]
              refine wp_amounts (.tmp 52) (.tmp 54) rfl w2.heap.size (.slice (some ⟨wt43.heap.size, 0, none⟩) 0 0) (by simp [Act.eval]) (own_none (by have := Kwt43.out.size; omega) F2.out) A n c Z (by simp [Act.eval]) (rdA.out.keep (K2.out.trans Kwt44.out)) nilA.out (by omega) (Kwt44.out.size) ?_
              intro v6 wt45 hr6 hg6
              obtain ⟨A6, c6, hv6, nl6⟩ := own_form hr6
              subst hv6
              have Jwt45 : Hid (Keep w2 wt45) := keep_grown Kwt44.out hg6 (fun q hq => by simp [Value.ownBlock] at hq; have := Kwt43.out.size; omega)
              have Kwt45 : Hid (Keep w2 wt45) := Jwt45.out
              replace F9 : Hid (wt45.heap[wt0.heap.size]? = some (.cells #[.int .i64 0, .slice none 0 0, .slice none 0 0] 42 (0, 0))) := (hg6.block _ (Array.getElem?_eq_some_iff.1 F9.out).1 (by have := L92.out; simp [Value.ownBlock]; omega)).trans F9.out
              replace F7 : Hid (wt45.heap[wt35.heap.size]? = some (.cells (madeCells #[.int .i64 0] n) 2 (0, 0))) := (hg6.block _ (Array.getElem?_eq_some_iff.1 F7.out).1 (by have := L72.out; simp [Value.ownBlock]; omega)).trans F7.out
              have nl6 := Lib.hid nl6
              have R6 : Hid (wt45.ownsRow w2.heap.size 2 1 (.slice A6 n c6) n (rowL n Z)) := hr6
              clear hr6
              replace hg6 := Lib.hid hg6
              clear F2
              refine hK.out _ _ (HELD _ Kwt45.out) (fun hHeld => ?_)
              clear hK K
              try simp only [Act.put, List.setIfInBounds_toArray, List.set_cons_zero, List.set_cons_succ]
              refine wpAnyH_take (i := 8) (v := .agg #[.int .i64 k, .slice A6 n c6, .slice (some ⟨wt35.heap.size, 0, none⟩) n n]) rfl (by kernel_rfl) (by kernel_rfl) (by kernel_rfl) (fun _ _ _ h => h) (Or.inl ⟨by rfl, fun Wz hW => by obtain ⟨s0, s1⟩ := hW; go_simp⟩) hHeld ?_
              simp only [Act.put, List.getElem_toArray, List.getElem_cons_succ, List.getElem_cons_zero, List.setIfInBounds_toArray, List.set_cons_zero, List.set_cons_succ]
              refine wpAnyH_ready (rs := [10]) (by kernel_rfl) (by simp) ?_
              refine (AllReadyH.cons rfl (fun K hK => ?_) AllReadyH.nil)
              simp only [List.getElem_toArray, List.getElem_cons_succ, List.getElem_cons_zero]
              rw [if_pos (by rfl)]
              obtain ⟨c0, c1, c2, f0⟩ := celN F9.out
              go_simp
              obtain ⟨wt46, hwt46⟩ : ∃ W, W = ((wt45.setCell ⟨wt0.heap.size, 0, none⟩ (.int .i64 k)).setCell ⟨wt0.heap.size, 1, none⟩ (.slice A6 n c6)).setCell ⟨wt0.heap.size, 2, none⟩ (.slice (some ⟨wt35.heap.size, 0, none⟩) n n) := ⟨_, rfl⟩
              have Kwt46 : Hid (Keep w2 wt46) := by rw [hwt46]; have := Kwt0.out.size; exact ((Kwt45.out.set (by show _ ≤ wt0.heap.size; omega) _).set (by show _ ≤ wt0.heap.size; omega) _).set (by show _ ≤ wt0.heap.size; omega) _
              have R7 : Hid (wt46.ownsRow w2.heap.size 2 1 (.slice A6 n c6) n (rowL n Z)) := by rw [hwt46]; exact own_blocks1 R6.out fun g hg => set3_other (row_ne R6.out F9.out (by decide) g hg)
              have G7 : Hid (wt46.heap[wt35.heap.size]? = some (.cells (madeCells #[.int .i64 0] n) 2 (0, 0))) := by rw [hwt46]; exact (set3_other (by have := L97.out; omega)).trans F7.out
              have G9 : Hid (wt46.heap[wt0.heap.size]? = some (.cells #[.int .i64 k, .slice A6 n c6, .slice (some ⟨wt35.heap.size, 0, none⟩) n n] 42 (0, 0))) := by rw [hwt46]; exact set3N F9.out
              clear c0 c1 c2 f0
              rw [← hwt46]
              replace hwt46 := Lib.hid hwt46
              refine hK.out _ _ (HELD _ Kwt46.out) (fun hHeld => ?_)
              clear hK K
              try simp only [Act.put, List.getElem_toArray, List.getElem_cons_succ, List.getElem_cons_zero, List.setIfInBounds_toArray, List.set_cons_zero, List.set_cons_succ]
              refine wpAnyH_done (by kernel_rfl) ?_ _
              go_wp2_with fail
              go_meet
              case rel => exact ⟨wt0.heap.size, wt35.heap.size, A6, c6, rfl, Kwt46.out, G9.out, rd_own R7.out rdA.out.small rdA.out.range, rd_made G7.out (by omega), nl6.out⟩
        case rest =>
          obtain ⟨g, g2, A', c', rfl, Kx, Gx, RA, RU, nA'⟩ := hcut
          have KC : Hid (Keep w1 wc) := K2.out.trans Kx.out
          clear y0 y1 hbl
          obtain ⟨x, hx⟩ : ∃ x : RnV, x = ⟨k, A', n, c', Z, some ⟨g2, 0, none⟩, n, n, fun _ => 0⟩ := ⟨_, rfl⟩
          have Bx : Hid (wc.heap[g]? = some (.cells #[.int .i64 x.k, .slice x.A x.n x.c, .slice x.B x.m x.d] 42 (0, 0))) := by rw [hx]; exact Gx.out
          have ex : Hid (x.k = k) := by rw [hx]; exact rfl
          have isx : Hid (NIs wc n x) := by rw [hx]; exact ⟨rfl, rfl, RA.out, RU.out, nA'.out, fun h => by cases h⟩
          have nx : Hid (node x = ⟨k, Z, fun _ => 0⟩) := by rw [hx]; exact rfl
          have okx : Hid (RnOk x) := ⟨by rw [ex.out]; exact hkr.out, trivial⟩
          have fin2 : Hid (rnCs P (0) ++ x.cells ++ rnCs (fun t => P ((0) + t)) (N - (0)) = rnCs (row (insL x (lst P N))) (N + 1)) := ins_row (by omega) (by rw [hlst.out]; exact hs.out) (fun t h1 h2 => (bef_iff _ _).2 (by rw [ex.out]; exact CM.out t (by omega) h2)) (Or.inl rfl)
          have fin3 : Hid (∀ (B5 : Option Addr) (d5 : Nat) (w5 : World), Keep wc w5 → w5.ownsRow wc.heap.size 42 3 (.slice B5 (N + 1) d5) (N + 1) (rnCs (row (insL x (lst P N))) (N + 1)) → ∃ B' c' l', Ending.returned (.tuple #[.slice B5 (N + 1 : Nat) d5, .int .i64 0, .int .i64 0]) = .returned (.tuple #[.slice B' l'.length c', .int .i64 0, .int .i64 0]) ∧ Keep w w5 ∧ RL w5 n B' c' l' ∧ l'.map node = G.ins NodeV.k ⟨k, Z, fun _ => 0⟩ (l.map node)) := fun B5 d5 w5 k5 ho => radd_end H.out x isx.out okx.out nx.out (KW.out.trans KC.out) k5 hN.out hlst.out (by omega) ho
          obtain ⟨x0, x1, x2, _⟩ := celN Bx.out
          have hbl := cell_lt x0
          clear hx Kx Gx RA RU nA'
          go_wp2_with fail
          go_region_law (first
            | (refine step_own Tryz.tyN12 rfl (.tmp 59) (.tmp 62) rfl wc.heap.size (.slice (some ⟨wc.heap.size, 0, none⟩) 0 0) 0 [] (by simp [Act.eval]) (own_empty (by omega) (heap_alloc_new _ _)) (.slice (some ⟨b, off, none⟩) 0 cp) (0) (rnCs P (0)) (by simp [Act.eval]) (src_lo CA.out (Nat.zero_le _) (KC.out.trans (by repeat (first | exact Keep.refl _ | apply Keep.alloc | apply Keep.drew)))) (rnCs_one _ _) (by omega) (by simp <;> omega) _ (Nat.zero_add _) ?_; intro v3 w3 hr3 hg3; have K3 : Hid (Keep wc w3) := keep_grown (by repeat (first | exact Keep.refl _ | apply Keep.alloc | apply Keep.drew)) hg3 (fun q hq => by simp [Value.ownBlock] at hq; omega); have z0 := K3.out.cell x0; have z1 := K3.out.cell x1; have z2 := K3.out.cell x2; simp only [List.nil_append] at hr3; replace hr3 := Lib.hid hr3; replace hg3 := Lib.hid hg3)
            | (refine step_own Tryz.tyN12 rfl (.tmp 59) (.tmp 62) rfl wc.heap.size (.slice (some ⟨wc.heap.size, 0, none⟩) 0 0) 0 [] (by simp [Act.eval]) (own_empty (by omega) (hp1 _ _ _ _)) (.slice (some ⟨b, off, none⟩) 0 cp) (0) (rnCs P (0)) (by simp [Act.eval]) (src_lo CA.out (Nat.zero_le _) (KC.out.trans (by repeat (first | exact Keep.refl _ | apply Keep.alloc | apply Keep.drew)))) (rnCs_one _ _) (by omega) (by simp <;> omega) _ (Nat.zero_add _) ?_; intro v3 w3 hr3 hg3; have K3 : Hid (Keep wc w3) := keep_grown (by repeat (first | exact Keep.refl _ | apply Keep.alloc | apply Keep.drew)) hg3 (fun q hq => by simp [Value.ownBlock] at hq; omega); have z0 := K3.out.cell x0; have z1 := K3.out.cell x1; have z2 := K3.out.cell x2; have B3 : Hid (w3.heap[wc.heap.size + 1]? = some (.cells #[.int .i64 x.k, .slice x.A x.n x.c, .slice x.B x.m x.d] 42 (0, 0))) := (hg3.block (wc.heap.size + 1) (by simp) (by simp [Value.ownBlock])).trans (hp2 _ _ _ _); simp only [List.nil_append] at hr3; replace hr3 := Lib.hid hr3; replace hg3 := Lib.hid hg3)
            | (refine step_own Tryz.tyN12 rfl (.tmp 59) (.tmp 62) rfl wc.heap.size (.slice (some ⟨wc.heap.size + 1, 0, none⟩) 0 0) 0 [] (by simp [Act.eval]) (own_empty (by omega) (hp2 _ _ _ _)) (.slice (some ⟨b, off, none⟩) 0 cp) (0) (rnCs P (0)) (by simp [Act.eval]) (src_lo CA.out (Nat.zero_le _) (KC.out.trans (by repeat (first | exact Keep.refl _ | apply Keep.alloc | apply Keep.drew)))) (rnCs_one _ _) (by omega) (by simp <;> omega) _ (Nat.zero_add _) ?_; intro v3 w3 hr3 hg3; have K3 : Hid (Keep wc w3) := keep_grown (by repeat (first | exact Keep.refl _ | apply Keep.alloc | apply Keep.drew)) hg3 (fun q hq => by simp [Value.ownBlock] at hq; omega); have z0 := K3.out.cell x0; have z1 := K3.out.cell x1; have z2 := K3.out.cell x2; have B3 : Hid (w3.heap[wc.heap.size]? = some (.cells #[.int .i64 x.k, .slice x.A x.n x.c, .slice x.B x.m x.d] 42 (0, 0))) := (hg3.block wc.heap.size (by simp <;> omega) (by simp [Value.ownBlock])).trans (hp1 _ _ _ _); simp only [List.nil_append] at hr3; replace hr3 := Lib.hid hr3; replace hg3 := Lib.hid hg3)
            | (refine step_own Tryz.tyN12 rfl (.tmp 63) (.tmp 65) rfl wc.heap.size v3 (0) (rnCs P (0)) (by simp [Act.eval]) (hr3.out) (.slice (some ⟨wc.heap.size + 1, 0, none⟩) 1 1) 1 x.cells (by simp [Act.eval]) (src_one B3.out) (cells_one _) (by omega) (by have := K3.out.size; simp <;> omega) _ rfl ?_; intro v4 w4 hr4 hg4; have K4 : Hid (Keep wc w4) := keep_grown (K3.out) hg4 (fun q hq => (hr3.out.lt q hq).1); replace hr4 := Lib.hid hr4; replace hg4 := Lib.hid hg4)
            | (refine step_own Tryz.tyN12 rfl (.tmp 63) (.tmp 65) rfl wc.heap.size v3 (0) (rnCs P (0)) (by simp [Act.eval]) (hr3.out) (.slice (some ⟨wc.heap.size, 0, none⟩) 1 1) 1 x.cells (by simp [Act.eval]) (src_one B3.out) (cells_one _) (by omega) (by have := K3.out.size; simp <;> omega) _ rfl ?_; intro v4 w4 hr4 hg4; have K4 : Hid (Keep wc w4) := keep_grown (K3.out) hg4 (fun q hq => (hr3.out.lt q hq).1); replace hr4 := Lib.hid hr4; replace hg4 := Lib.hid hg4)
            | (refine step_own Tryz.tyN12 rfl (.tmp 63) (.tmp 65) rfl wc.heap.size v3 (0) (rnCs P (0)) (by simp [Act.eval]) (own_keep hr3.out (Keep.one _ _)) (.slice (some ⟨w3.heap.size, 0, none⟩) 1 1) 1 x.cells (by simp [Act.eval]) (src_one (heap_alloc_new _ _)) (cells_one _) (by omega) (by have := K3.out.size; simp <;> omega) _ rfl ?_; intro v4 w4 hr4 hg4; have K4 : Hid (Keep wc w4) := keep_grown (K3.out.trans (Keep.one _ _)) hg4 (fun q hq => (hr3.out.lt q hq).1); replace hr4 := Lib.hid hr4; replace hg4 := Lib.hid hg4)
            | (refine step_own Tryz.tyN12 rfl (.tmp 66) (.tmp 69) rfl wc.heap.size v4 (0 + 1) (rnCs P (0) ++ x.cells) (by simp [Act.eval]) hr4.out (.slice (some ⟨b, off, none⟩) N cp) (N - (0)) (rnCs (fun t => P ((0) + t)) (N - (0))) (by simp [Act.eval]) (src_all CA.out (KC.out.trans K4.out)) (rnCs_one _ _) (by omega) (by have := K4.out.size; simp <;> omega) (N + 1) (by omega) ?_; intro v5 w5 hr5 hg5; have K5 : Hid (Keep wc w5) := keep_grown K4.out hg5 (fun q hq => (hr4.out.lt q hq).1); replace hg5 := Lib.hid hg5; obtain ⟨B5, d5, hv5, _⟩ := own_form hr5; subst hv5; replace hr5 := Lib.hid hr5))
          all_goals
            have RF : Hid (w5.ownsRow wc.heap.size 42 3 (.slice B5 (N + 1) d5) (N + 1) (rnCs (row (insL x (lst P N))) (N + 1))) := by
              show World.ownsRow _ _ _ _ _ _ _
              rw [← fin2.out]
              exact hr5.out
            go_wp2
            all_goals
              go_ret3
              exact fin3.out B5 d5 w5 K5.out RF.out
      · obtain ⟨jp, rfl⟩ : ∃ jp, j = jp + 1 := ⟨j - 1, by omega⟩
        have ej : IntKind.i64.wrap ((jp : Int) + 1 - 1) = (jp : Int) := by rw [IntKind.wrap_i64]; omega
        have ej2 : (jp : Int) + 1 - 1 = (jp : Int) := by omega
        have hjd : decide ((0 : Int) < (jp : Int) + 1) = true := decide_eq_true (by omega)
        have q2 := atN b off N cp jp (by omega)
        have Y := (CA.out jp (by omega)).keep GQ.out.keep
        obtain ⟨y, hy⟩ : ∃ y, y = P jp := ⟨_, rfl⟩
        have CM2 : Hid (k < y.k → ∀ t, jp ≤ t → t < N → k < (P t).k) := fun h t h1 h2 => by
          by_cases e : t = jp
          · rw [e, ← hy]; exact h
          · exact CM.out t (by omega) h2
        have hyP : Hid (y = P jp) := hy
        rw [← hy] at Y
        replace hy := Lib.hid hy
        have v0 := GQ.out.keep.cell u0
        have y0 := Y.e0
        clear Y
        obtain ⟨yk, hyk⟩ : ∃ yk, yk = y.k := ⟨_, rfl⟩
        rw [← hyk] at y0 CM2
        replace hyk := Lib.hid hyk
        by_cases hlk : k < yk
        · have CM3 := Lib.hid (CM2.out hlk)
          clear CM2
          go_wp2_with fail
          go_quiet (fail)
          have G2 : Hid (Gr w1 (wr.drewN nq)) := GQ.out.drewN nq
          generalize wr.drewN nq = w2 at G2 ⊢
          clear v0 y0 q2 hjd
          go_wp2
          go_roundg jp
          case measure => omega
          case rel => exact ⟨jp, by go_num, by omega, rfl, G2, CM3⟩
        · clear CM2
          go_wp2_with fail
          go_quiet (fail)
          have G2 : Hid (Gr w1 (wr.drewN nq)) := GQ.out.drewN nq
          generalize wr.drewN nq = w2 at G2 ⊢
          clear v0 y0 q2 hjd
          have hz0 : (0 : Int) ≤ (jp : Int) + 1 := by omega
          have hz1 : (jp : Int) + 1 ≤ (cp : Int) := by omega
          have hz2 : (jp : Int) + 1 ≤ (N : Int) := by omega
          have K2 : Hid (Keep w1 w2) := G2.out.keep
          have y0 := K2.out.cell u0
          have y1 := K2.out.cell u1
          have hbl := cell_lt y0
          go_upto_region 11 with fail
          go_cut [13] from 50 to 58 (fun s wx => ∃ (g g2 : Nat) (A' : Option Addr) (c' : Nat), s = .pointer (some ⟨g, 0, none⟩) ∧ Hid (Keep w2 wx) ∧ Hid (wx.heap[g]? = some (.cells #[.int .i64 k, .slice A' n c', .slice (some ⟨g2, 0, none⟩) n n] 42 (0, 0))) ∧ Hid (Rd wx A' n Z) ∧ Hid (Rd wx (some ⟨g2, 0, none⟩) n fun _ => 0) ∧ Hid (A' = none → n = 0 ∧ c' = 0))
          case first =>
            have HELD : ∀ Wz, Keep w2 Wz → (Wz.cell? ⟨w.heap.size, 0, none⟩ = some (.int .i64 k) ∧ Wz.cell? ⟨w.heap.size, 1, none⟩ = some (.slice A n c)) := fun Wz KK => ⟨KK.cell y0, KK.cell y1⟩
            refine wp_region_held_drew (S := fun w' => w'.cell? ⟨w.heap.size, 0, none⟩ = some (.int .i64 k) ∧ w'.cell? ⟨w.heap.size, 1, none⟩ = some (.slice A n c)) (by kernel_rfl) ?_ (fun hHeld => ?_)
            · exact HELD _ (Keep.refl w2).drew
            obtain ⟨wt0, hwt0⟩ : ∃ W, W = w2.drew := ⟨_, rfl⟩
            have Kwt0 : Hid (Keep w2 wt0) := by rw [hwt0]; exact (Keep.refl _).drew
            rw [← hwt0] at hHeld ⊢
            replace hwt0 := Lib.hid hwt0
            refine wpAnyH_take (i := 0) (v := .pointer (some ⟨w.heap.size, 0, none⟩)) rfl (by kernel_rfl) (by kernel_rfl) (by kernel_rfl) (fun _ _ _ h => h) (Or.inl ⟨by rfl, fun Wz hW => by obtain ⟨s0, s1⟩ := hW; go_simp⟩) hHeld ?_
            simp only [Act.put, List.getElem_toArray, List.getElem_cons_zero, List.setIfInBounds_toArray, List.set_cons_zero, List.set_cons_succ]
            refine wpAnyH_take (i := 1) (v := .int .i64 k) rfl (by kernel_rfl) (by kernel_rfl) (by kernel_rfl) (fun _ _ _ h => h) (Or.inl ⟨by rfl, fun Wz hW => by obtain ⟨s0, s1⟩ := hW; go_simp⟩) hHeld ?_
            simp only [Act.put, List.getElem_toArray, List.getElem_cons_succ, List.getElem_cons_zero, List.setIfInBounds_toArray, List.set_cons_zero, List.set_cons_succ]
            refine wpAnyH_take (i := 3) (v := .pointer (some ⟨w.heap.size, 1, none⟩)) rfl (by kernel_rfl) (by kernel_rfl) (by kernel_rfl) (fun _ _ _ h => h) (Or.inl ⟨by rfl, fun Wz hW => by obtain ⟨s0, s1⟩ := hW; go_simp⟩) hHeld ?_
            simp only [Act.put, List.getElem_toArray, List.getElem_cons_succ, List.getElem_cons_zero, List.setIfInBounds_toArray, List.set_cons_zero, List.set_cons_succ]
            refine wpAnyH_take (i := 4) (v := .slice A n c) rfl (by kernel_rfl) (by kernel_rfl) (by kernel_rfl) (fun _ _ _ h => h) (Or.inl ⟨by rfl, fun Wz hW => by obtain ⟨s0, s1⟩ := hW; go_simp⟩) hHeld ?_
            simp only [Act.put, List.getElem_toArray, List.getElem_cons_succ, List.getElem_cons_zero, List.setIfInBounds_toArray, List.set_cons_zero, List.set_cons_succ]
            refine wpAnyH_take (i := 6) (v := .int .i64 n) rfl (by kernel_rfl) (by kernel_rfl) (by kernel_rfl) (fun _ _ _ h => h) (Or.inl ⟨by rfl, fun Wz hW => by obtain ⟨s0, s1⟩ := hW; go_simp⟩) hHeld ?_
            simp only [Act.put, List.getElem_toArray, List.getElem_cons_succ, List.getElem_cons_zero, List.setIfInBounds_toArray, List.set_cons_zero, List.set_cons_succ]
            refine wpAnyH_ready (rs := [2, 7, 9]) (by kernel_rfl) (by simp) ?_
            refine (AllReadyH.cons rfl (fun K hK => ?_) (AllReadyH.cons rfl (fun K hK => ?_) (AllReadyH.cons rfl (fun K hK => ?_) AllReadyH.nil)))
            · simp only [List.getElem_toArray, List.getElem_cons_succ, List.getElem_cons_zero]
              rw [if_pos (by rfl)]
              go_simp
              obtain ⟨wt1, hwt1⟩ : ∃ W, W = wt0.alloc (.cells #[] 2) := ⟨_, rfl⟩
              have Jwt1 : Hid (Keep wt0 wt1) := by rw [hwt1]; exact Keep.one _ _
              have Kwt1 : Hid (Keep w2 wt1) := Kwt0.out.trans Jwt1.out
              have F2 : Hid (wt1.heap[wt0.heap.size]? = some (.cells #[] 2 (0, 0))) := by rw [hwt1]; exact heap_alloc_new _ _
              rw [← hwt1]
              replace hwt1 := Lib.hid hwt1
              refine hK.out _ _ (HELD _ Kwt1.out) (fun hHeld => ?_)
              clear hK K
              try simp only [Act.put, List.getElem_toArray, List.getElem_cons_succ, List.getElem_cons_zero, List.setIfInBounds_toArray, List.set_cons_zero, List.set_cons_succ]
              refine wpAnyH_ready (rs := [5, 7, 9]) (by kernel_rfl) (by simp) ?_
              refine (AllReadyH.cons rfl (fun K hK => ?_) (AllReadyH.cons rfl (fun K hK => ?_) (AllReadyH.cons rfl (fun K hK => ?_) AllReadyH.nil)))
              · simp only [List.getElem_toArray, List.getElem_cons_succ, List.getElem_cons_zero]
                rw [if_pos (by rfl)]
                refine wp_amounts (.tmp 52) (.tmp 54) rfl w2.heap.size (.slice (some ⟨wt0.heap.size, 0, none⟩) 0 0) (by simp [Act.eval]) (own_none (by have := Kwt0.out.size; omega) F2.out) A n c Z (by simp [Act.eval]) (rdA.out.keep (K2.out.trans Kwt1.out)) nilA.out (by omega) (Kwt1.out.size) ?_
                intro v6 wt2 hr6 hg6
                obtain ⟨A6, c6, hv6, nl6⟩ := own_form hr6
                subst hv6
                have Jwt2 : Hid (Keep w2 wt2) := keep_grown Kwt1.out hg6 (fun q hq => by simp [Value.ownBlock] at hq; have := Kwt0.out.size; omega)
                have Kwt2 : Hid (Keep w2 wt2) := Jwt2.out
                have nl6 := Lib.hid nl6
                have R6 : Hid (wt2.ownsRow w2.heap.size 2 1 (.slice A6 n c6) n (rowL n Z)) := hr6
                clear hr6
                replace hg6 := Lib.hid hg6
                clear F2
                refine hK.out _ _ (HELD _ Kwt2.out) (fun hHeld => ?_)
                clear hK K
                try simp only [Act.put, List.setIfInBounds_toArray, List.set_cons_zero, List.set_cons_succ]
                refine wpAnyH_ready (rs := [7, 9]) (by kernel_rfl) (by simp) ?_
                refine (AllReadyH.cons rfl (fun K hK => ?_) (AllReadyH.cons rfl (fun K hK => ?_) AllReadyH.nil))
                · simp only [List.getElem_toArray, List.getElem_cons_succ, List.getElem_cons_zero]
                  rw [if_pos (by rfl)]
                  go_simp
                  obtain ⟨wt3, hwt3⟩ : ∃ W, W = wt2.alloc (.cells (madeCells #[.int .i64 0] n) 2) := ⟨_, rfl⟩
                  have Jwt3 : Hid (Keep wt2 wt3) := by rw [hwt3]; exact Keep.one _ _
                  have Kwt3 : Hid (Keep w2 wt3) := Kwt2.out.trans Jwt3.out
                  replace R6 : Hid (wt3.ownsRow w2.heap.size 2 1 (.slice A6 n c6) n (rowL n Z)) := own_keep R6.out Jwt3.out
                  have F7 : Hid (wt3.heap[wt2.heap.size]? = some (.cells (madeCells #[.int .i64 0] n) 2 (0, 0))) := by rw [hwt3]; exact heap_alloc_new _ _
                  rw [← hwt3]
                  replace hwt3 := Lib.hid hwt3
                  refine hK.out _ _ (HELD _ Kwt3.out) (fun hHeld => ?_)
                  clear hK K
                  try simp only [Act.put, List.getElem_toArray, List.getElem_cons_succ, List.getElem_cons_zero, List.setIfInBounds_toArray, List.set_cons_zero, List.set_cons_succ]
                  refine wpAnyH_take (i := 8) (v := .agg #[.int .i64 k, .slice A6 n c6, .slice (some ⟨wt2.heap.size, 0, none⟩) n n]) rfl (by kernel_rfl) (by kernel_rfl) (by kernel_rfl) (fun _ _ _ h => h) (Or.inl ⟨by rfl, fun Wz hW => by obtain ⟨s0, s1⟩ := hW; go_simp⟩) hHeld ?_
                  simp only [Act.put, List.getElem_toArray, List.getElem_cons_succ, List.getElem_cons_zero, List.setIfInBounds_toArray, List.set_cons_zero, List.set_cons_succ]
                  refine wpAnyH_ready (rs := [9]) (by kernel_rfl) (by simp) ?_
                  refine (AllReadyH.cons rfl (fun K hK => ?_) AllReadyH.nil)
                  simp only [List.getElem_toArray, List.getElem_cons_succ, List.getElem_cons_zero]
                  rw [if_pos (by rfl)]
                  go_simp
                  obtain ⟨wt4, hwt4⟩ : ∃ W, W = wt3.alloc (.cells #[.int .i64 0, .slice none 0 0, .slice none 0 0] 42) := ⟨_, rfl⟩
                  have Jwt4 : Hid (Keep wt3 wt4) := by rw [hwt4]; exact Keep.one _ _
                  have Kwt4 : Hid (Keep w2 wt4) := Kwt3.out.trans Jwt4.out
                  have L79 : Hid (wt2.heap.size < wt3.heap.size) := (Array.getElem?_eq_some_iff.1 F7.out).1
                  replace R6 : Hid (wt4.ownsRow w2.heap.size 2 1 (.slice A6 n c6) n (rowL n Z)) := own_keep R6.out Jwt4.out
                  replace F7 : Hid (wt4.heap[wt2.heap.size]? = some (.cells (madeCells #[.int .i64 0] n) 2 (0, 0))) := Jwt4.out.block F7.out
                  have F9 : Hid (wt4.heap[wt3.heap.size]? = some (.cells #[.int .i64 0, .slice none 0 0, .slice none 0 0] 42 (0, 0))) := by rw [hwt4]; exact heap_alloc_new _ _
                  rw [← hwt4]
                  replace hwt4 := Lib.hid hwt4
                  refine hK.out _ _ (HELD _ Kwt4.out) (fun hHeld => ?_)
                  clear hK K
                  try simp only [Act.put, List.getElem_toArray, List.getElem_cons_succ, List.getElem_cons_zero, List.setIfInBounds_toArray, List.set_cons_zero, List.set_cons_succ]
                  refine wpAnyH_ready (rs := [10]) (by kernel_rfl) (by simp) ?_
                  refine (AllReadyH.cons rfl (fun K hK => ?_) AllReadyH.nil)
                  simp only [List.getElem_toArray, List.getElem_cons_succ, List.getElem_cons_zero]
                  rw [if_pos (by rfl)]
                  obtain ⟨c0, c1, c2, f0⟩ := celN F9.out
                  go_simp
                  obtain ⟨wt5, hwt5⟩ : ∃ W, W = ((wt4.setCell ⟨wt3.heap.size, 0, none⟩ (.int .i64 k)).setCell ⟨wt3.heap.size, 1, none⟩ (.slice A6 n c6)).setCell ⟨wt3.heap.size, 2, none⟩ (.slice (some ⟨wt2.heap.size, 0, none⟩) n n) := ⟨_, rfl⟩
                  have Kwt5 : Hid (Keep w2 wt5) := by rw [hwt5]; have := Kwt3.out.size; exact ((Kwt4.out.set (by show _ ≤ wt3.heap.size; omega) _).set (by show _ ≤ wt3.heap.size; omega) _).set (by show _ ≤ wt3.heap.size; omega) _
                  have R7 : Hid (wt5.ownsRow w2.heap.size 2 1 (.slice A6 n c6) n (rowL n Z)) := by rw [hwt5]; exact own_blocks1 R6.out fun g hg => set3_other (row_ne R6.out F9.out (by decide) g hg)
                  have G7 : Hid (wt5.heap[wt2.heap.size]? = some (.cells (madeCells #[.int .i64 0] n) 2 (0, 0))) := by rw [hwt5]; exact (set3_other (by have := L79.out; omega)).trans F7.out
                  have G9 : Hid (wt5.heap[wt3.heap.size]? = some (.cells #[.int .i64 k, .slice A6 n c6, .slice (some ⟨wt2.heap.size, 0, none⟩) n n] 42 (0, 0))) := by rw [hwt5]; exact set3N F9.out
                  clear c0 c1 c2 f0
                  rw [← hwt5]
                  replace hwt5 := Lib.hid hwt5
                  refine hK.out _ _ (HELD _ Kwt5.out) (fun hHeld => ?_)
                  clear hK K
                  try simp only [Act.put, List.getElem_toArray, List.getElem_cons_succ, List.getElem_cons_zero, List.setIfInBounds_toArray, List.set_cons_zero, List.set_cons_succ]
                  refine wpAnyH_done (by kernel_rfl) ?_ _
                  go_wp2_with fail
                  go_meet
                  case rel => exact ⟨wt3.heap.size, wt2.heap.size, A6, c6, rfl, Kwt5.out, G9.out, rd_own R7.out rdA.out.small rdA.out.range, rd_made G7.out (by omega), nl6.out⟩
                · simp only [List.getElem_toArray, List.getElem_cons_succ, List.getElem_cons_zero]
                  rw [if_pos (by rfl)]
                  go_simp
                  obtain ⟨wt6, hwt6⟩ : ∃ W, W = wt2.alloc (.cells #[.int .i64 0, .slice none 0 0, .slice none 0 0] 42) := ⟨_, rfl⟩
                  have Jwt6 : Hid (Keep wt2 wt6) := by rw [hwt6]; exact Keep.one _ _
                  have Kwt6 : Hid (Keep w2 wt6) := Kwt2.out.trans Jwt6.out
                  replace R6 : Hid (wt6.ownsRow w2.heap.size 2 1 (.slice A6 n c6) n (rowL n Z)) := own_keep R6.out Jwt6.out
                  have F9 : Hid (wt6.heap[wt2.heap.size]? = some (.cells #[.int .i64 0, .slice none 0 0, .slice none 0 0] 42 (0, 0))) := by rw [hwt6]; exact heap_alloc_new _ _
                  rw [← hwt6]
                  replace hwt6 := Lib.hid hwt6
                  refine hK.out _ _ (HELD _ Kwt6.out) (fun hHeld => ?_)
                  clear hK K
                  try simp only [Act.put, List.getElem_toArray, List.getElem_cons_succ, List.getElem_cons_zero, List.setIfInBounds_toArray, List.set_cons_zero, List.set_cons_succ]
                  refine wpAnyH_ready (rs := [7]) (by kernel_rfl) (by simp) ?_
                  refine (AllReadyH.cons rfl (fun K hK => ?_) AllReadyH.nil)
                  simp only [List.getElem_toArray, List.getElem_cons_succ, List.getElem_cons_zero]
                  rw [if_pos (by rfl)]
                  go_simp
                  obtain ⟨wt7, hwt7⟩ : ∃ W, W = wt6.alloc (.cells (madeCells #[.int .i64 0] n) 2) := ⟨_, rfl⟩
                  have Jwt7 : Hid (Keep wt6 wt7) := by rw [hwt7]; exact Keep.one _ _
                  have Kwt7 : Hid (Keep w2 wt7) := Kwt6.out.trans Jwt7.out
                  have L97 : Hid (wt2.heap.size < wt6.heap.size) := (Array.getElem?_eq_some_iff.1 F9.out).1
                  replace R6 : Hid (wt7.ownsRow w2.heap.size 2 1 (.slice A6 n c6) n (rowL n Z)) := own_keep R6.out Jwt7.out
                  replace F9 : Hid (wt7.heap[wt2.heap.size]? = some (.cells #[.int .i64 0, .slice none 0 0, .slice none 0 0] 42 (0, 0))) := Jwt7.out.block F9.out
                  have F7 : Hid (wt7.heap[wt6.heap.size]? = some (.cells (madeCells #[.int .i64 0] n) 2 (0, 0))) := by rw [hwt7]; exact heap_alloc_new _ _
                  rw [← hwt7]
                  replace hwt7 := Lib.hid hwt7
                  refine hK.out _ _ (HELD _ Kwt7.out) (fun hHeld => ?_)
                  clear hK K
                  try simp only [Act.put, List.getElem_toArray, List.getElem_cons_succ, List.getElem_cons_zero, List.setIfInBounds_toArray, List.set_cons_zero, List.set_cons_succ]
                  refine wpAnyH_take (i := 8) (v := .agg #[.int .i64 k, .slice A6 n c6, .slice (some ⟨wt6.heap.size, 0, none⟩) n n]) rfl (by kernel_rfl) (by kernel_rfl) (by kernel_rfl) (fun _ _ _ h => h) (Or.inl ⟨by rfl, fun Wz hW => by obtain ⟨s0, s1⟩ := hW; go_simp⟩) hHeld ?_
                  simp only [Act.put, List.getElem_toArray, List.getElem_cons_succ, List.getElem_cons_zero, List.setIfInBounds_toArray, List.set_cons_zero, List.set_cons_succ]
                  refine wpAnyH_ready (rs := [10]) (by kernel_rfl) (by simp) ?_
                  refine (AllReadyH.cons rfl (fun K hK => ?_) AllReadyH.nil)
                  simp only [List.getElem_toArray, List.getElem_cons_succ, List.getElem_cons_zero]
                  rw [if_pos (by rfl)]
                  obtain ⟨c0, c1, c2, f0⟩ := celN F9.out
                  go_simp
                  obtain ⟨wt8, hwt8⟩ : ∃ W, W = ((wt7.setCell ⟨wt2.heap.size, 0, none⟩ (.int .i64 k)).setCell ⟨wt2.heap.size, 1, none⟩ (.slice A6 n c6)).setCell ⟨wt2.heap.size, 2, none⟩ (.slice (some ⟨wt6.heap.size, 0, none⟩) n n) := ⟨_, rfl⟩
                  have Kwt8 : Hid (Keep w2 wt8) := by rw [hwt8]; have := Kwt2.out.size; exact ((Kwt7.out.set (by show _ ≤ wt2.heap.size; omega) _).set (by show _ ≤ wt2.heap.size; omega) _).set (by show _ ≤ wt2.heap.size; omega) _
                  have R7 : Hid (wt8.ownsRow w2.heap.size 2 1 (.slice A6 n c6) n (rowL n Z)) := by rw [hwt8]; exact own_blocks1 R6.out fun g hg => set3_other (row_ne R6.out F9.out (by decide) g hg)
                  have G7 : Hid (wt8.heap[wt6.heap.size]? = some (.cells (madeCells #[.int .i64 0] n) 2 (0, 0))) := by rw [hwt8]; exact (set3_other (by have := L97.out; omega)).trans F7.out
                  have G9 : Hid (wt8.heap[wt2.heap.size]? = some (.cells #[.int .i64 k, .slice A6 n c6, .slice (some ⟨wt6.heap.size, 0, none⟩) n n] 42 (0, 0))) := by rw [hwt8]; exact set3N F9.out
                  clear c0 c1 c2 f0
                  rw [← hwt8]
                  replace hwt8 := Lib.hid hwt8
                  refine hK.out _ _ (HELD _ Kwt8.out) (fun hHeld => ?_)
                  clear hK K
                  try simp only [Act.put, List.getElem_toArray, List.getElem_cons_succ, List.getElem_cons_zero, List.setIfInBounds_toArray, List.set_cons_zero, List.set_cons_succ]
                  refine wpAnyH_done (by kernel_rfl) ?_ _
                  go_wp2_with fail
                  go_meet
                  case rel => exact ⟨wt2.heap.size, wt6.heap.size, A6, c6, rfl, Kwt8.out, G9.out, rd_own R7.out rdA.out.small rdA.out.range, rd_made G7.out (by omega), nl6.out⟩
              · simp only [List.getElem_toArray, List.getElem_cons_succ, List.getElem_cons_zero]
                rw [if_pos (by rfl)]
                go_simp
                obtain ⟨wt9, hwt9⟩ : ∃ W, W = wt1.alloc (.cells (madeCells #[.int .i64 0] n) 2) := ⟨_, rfl⟩
                have Jwt9 : Hid (Keep wt1 wt9) := by rw [hwt9]; exact Keep.one _ _
                have Kwt9 : Hid (Keep w2 wt9) := Kwt1.out.trans Jwt9.out
                have L27 : Hid (wt0.heap.size < wt1.heap.size) := (Array.getElem?_eq_some_iff.1 F2.out).1
                replace F2 : Hid (wt9.heap[wt0.heap.size]? = some (.cells #[] 2 (0, 0))) := Jwt9.out.block F2.out
                have F7 : Hid (wt9.heap[wt1.heap.size]? = some (.cells (madeCells #[.int .i64 0] n) 2 (0, 0))) := by rw [hwt9]; exact heap_alloc_new _ _
                rw [← hwt9]
                replace hwt9 := Lib.hid hwt9
                refine hK.out _ _ (HELD _ Kwt9.out) (fun hHeld => ?_)
                clear hK K
                try simp only [Act.put, List.getElem_toArray, List.getElem_cons_succ, List.getElem_cons_zero, List.setIfInBounds_toArray, List.set_cons_zero, List.set_cons_succ]
                refine wpAnyH_ready (rs := [5, 9]) (by kernel_rfl) (by simp) ?_
                refine (AllReadyH.cons rfl (fun K hK => ?_) (AllReadyH.cons rfl (fun K hK => ?_) AllReadyH.nil))
                · simp only [List.getElem_toArray, List.getElem_cons_succ, List.getElem_cons_zero]
                  rw [if_pos (by rfl)]
                  refine wp_amounts (.tmp 52) (.tmp 54) rfl w2.heap.size (.slice (some ⟨wt0.heap.size, 0, none⟩) 0 0) (by simp [Act.eval]) (own_none (by have := Kwt0.out.size; omega) F2.out) A n c Z (by simp [Act.eval]) (rdA.out.keep (K2.out.trans Kwt9.out)) nilA.out (by omega) (Kwt9.out.size) ?_
                  intro v6 wt10 hr6 hg6
                  obtain ⟨A6, c6, hv6, nl6⟩ := own_form hr6
                  subst hv6
                  have Jwt10 : Hid (Keep w2 wt10) := keep_grown Kwt9.out hg6 (fun q hq => by simp [Value.ownBlock] at hq; have := Kwt0.out.size; omega)
                  have Kwt10 : Hid (Keep w2 wt10) := Jwt10.out
                  replace F7 : Hid (wt10.heap[wt1.heap.size]? = some (.cells (madeCells #[.int .i64 0] n) 2 (0, 0))) := (hg6.block _ (Array.getElem?_eq_some_iff.1 F7.out).1 (by have := L27.out; simp [Value.ownBlock]; omega)).trans F7.out
                  have nl6 := Lib.hid nl6
                  have R6 : Hid (wt10.ownsRow w2.heap.size 2 1 (.slice A6 n c6) n (rowL n Z)) := hr6
                  clear hr6
                  replace hg6 := Lib.hid hg6
                  clear F2
                  refine hK.out _ _ (HELD _ Kwt10.out) (fun hHeld => ?_)
                  clear hK K
                  try simp only [Act.put, List.setIfInBounds_toArray, List.set_cons_zero, List.set_cons_succ]
                  refine wpAnyH_take (i := 8) (v := .agg #[.int .i64 k, .slice A6 n c6, .slice (some ⟨wt1.heap.size, 0, none⟩) n n]) rfl (by kernel_rfl) (by kernel_rfl) (by kernel_rfl) (fun _ _ _ h => h) (Or.inl ⟨by rfl, fun Wz hW => by obtain ⟨s0, s1⟩ := hW; go_simp⟩) hHeld ?_
                  simp only [Act.put, List.getElem_toArray, List.getElem_cons_succ, List.getElem_cons_zero, List.setIfInBounds_toArray, List.set_cons_zero, List.set_cons_succ]
                  refine wpAnyH_ready (rs := [9]) (by kernel_rfl) (by simp) ?_
                  refine (AllReadyH.cons rfl (fun K hK => ?_) AllReadyH.nil)
                  simp only [List.getElem_toArray, List.getElem_cons_succ, List.getElem_cons_zero]
                  rw [if_pos (by rfl)]
                  go_simp
                  obtain ⟨wt11, hwt11⟩ : ∃ W, W = wt10.alloc (.cells #[.int .i64 0, .slice none 0 0, .slice none 0 0] 42) := ⟨_, rfl⟩
                  have Jwt11 : Hid (Keep wt10 wt11) := by rw [hwt11]; exact Keep.one _ _
                  have Kwt11 : Hid (Keep w2 wt11) := Kwt10.out.trans Jwt11.out
                  have L79 : Hid (wt1.heap.size < wt10.heap.size) := (Array.getElem?_eq_some_iff.1 F7.out).1
                  replace F7 : Hid (wt11.heap[wt1.heap.size]? = some (.cells (madeCells #[.int .i64 0] n) 2 (0, 0))) := Jwt11.out.block F7.out
                  replace R6 : Hid (wt11.ownsRow w2.heap.size 2 1 (.slice A6 n c6) n (rowL n Z)) := own_keep R6.out Jwt11.out
                  have F9 : Hid (wt11.heap[wt10.heap.size]? = some (.cells #[.int .i64 0, .slice none 0 0, .slice none 0 0] 42 (0, 0))) := by rw [hwt11]; exact heap_alloc_new _ _
                  rw [← hwt11]
                  replace hwt11 := Lib.hid hwt11
                  refine hK.out _ _ (HELD _ Kwt11.out) (fun hHeld => ?_)
                  clear hK K
                  try simp only [Act.put, List.getElem_toArray, List.getElem_cons_succ, List.getElem_cons_zero, List.setIfInBounds_toArray, List.set_cons_zero, List.set_cons_succ]
                  refine wpAnyH_ready (rs := [10]) (by kernel_rfl) (by simp) ?_
                  refine (AllReadyH.cons rfl (fun K hK => ?_) AllReadyH.nil)
                  simp only [List.getElem_toArray, List.getElem_cons_succ, List.getElem_cons_zero]
                  rw [if_pos (by rfl)]
                  obtain ⟨c0, c1, c2, f0⟩ := celN F9.out
                  go_simp
                  obtain ⟨wt12, hwt12⟩ : ∃ W, W = ((wt11.setCell ⟨wt10.heap.size, 0, none⟩ (.int .i64 k)).setCell ⟨wt10.heap.size, 1, none⟩ (.slice A6 n c6)).setCell ⟨wt10.heap.size, 2, none⟩ (.slice (some ⟨wt1.heap.size, 0, none⟩) n n) := ⟨_, rfl⟩
                  have Kwt12 : Hid (Keep w2 wt12) := by rw [hwt12]; have := Kwt10.out.size; exact ((Kwt11.out.set (by show _ ≤ wt10.heap.size; omega) _).set (by show _ ≤ wt10.heap.size; omega) _).set (by show _ ≤ wt10.heap.size; omega) _
                  have R7 : Hid (wt12.ownsRow w2.heap.size 2 1 (.slice A6 n c6) n (rowL n Z)) := by rw [hwt12]; exact own_blocks1 R6.out fun g hg => set3_other (row_ne R6.out F9.out (by decide) g hg)
                  have G7 : Hid (wt12.heap[wt1.heap.size]? = some (.cells (madeCells #[.int .i64 0] n) 2 (0, 0))) := by rw [hwt12]; exact (set3_other (by have := L79.out; omega)).trans F7.out
                  have G9 : Hid (wt12.heap[wt10.heap.size]? = some (.cells #[.int .i64 k, .slice A6 n c6, .slice (some ⟨wt1.heap.size, 0, none⟩) n n] 42 (0, 0))) := by rw [hwt12]; exact set3N F9.out
                  clear c0 c1 c2 f0
                  rw [← hwt12]
                  replace hwt12 := Lib.hid hwt12
                  refine hK.out _ _ (HELD _ Kwt12.out) (fun hHeld => ?_)
                  clear hK K
                  try simp only [Act.put, List.getElem_toArray, List.getElem_cons_succ, List.getElem_cons_zero, List.setIfInBounds_toArray, List.set_cons_zero, List.set_cons_succ]
                  refine wpAnyH_done (by kernel_rfl) ?_ _
                  go_wp2_with fail
                  go_meet
                  case rel => exact ⟨wt10.heap.size, wt1.heap.size, A6, c6, rfl, Kwt12.out, G9.out, rd_own R7.out rdA.out.small rdA.out.range, rd_made G7.out (by omega), nl6.out⟩
                · simp only [List.getElem_toArray, List.getElem_cons_succ, List.getElem_cons_zero]
                  rw [if_pos (by rfl)]
                  go_simp
                  obtain ⟨wt13, hwt13⟩ : ∃ W, W = wt9.alloc (.cells #[.int .i64 0, .slice none 0 0, .slice none 0 0] 42) := ⟨_, rfl⟩
                  have Jwt13 : Hid (Keep wt9 wt13) := by rw [hwt13]; exact Keep.one _ _
                  have Kwt13 : Hid (Keep w2 wt13) := Kwt9.out.trans Jwt13.out
                  have L29 : Hid (wt0.heap.size < wt9.heap.size) := (Array.getElem?_eq_some_iff.1 F2.out).1
                  have L79 : Hid (wt1.heap.size < wt9.heap.size) := (Array.getElem?_eq_some_iff.1 F7.out).1
                  replace F2 : Hid (wt13.heap[wt0.heap.size]? = some (.cells #[] 2 (0, 0))) := Jwt13.out.block F2.out
                  replace F7 : Hid (wt13.heap[wt1.heap.size]? = some (.cells (madeCells #[.int .i64 0] n) 2 (0, 0))) := Jwt13.out.block F7.out
                  have F9 : Hid (wt13.heap[wt9.heap.size]? = some (.cells #[.int .i64 0, .slice none 0 0, .slice none 0 0] 42 (0, 0))) := by rw [hwt13]; exact heap_alloc_new _ _
                  rw [← hwt13]
                  replace hwt13 := Lib.hid hwt13
                  refine hK.out _ _ (HELD _ Kwt13.out) (fun hHeld => ?_)
                  clear hK K
                  try simp only [Act.put, List.getElem_toArray, List.getElem_cons_succ, List.getElem_cons_zero, List.setIfInBounds_toArray, List.set_cons_zero, List.set_cons_succ]
                  refine wpAnyH_ready (rs := [5]) (by kernel_rfl) (by simp) ?_
                  refine (AllReadyH.cons rfl (fun K hK => ?_) AllReadyH.nil)
                  simp only [List.getElem_toArray, List.getElem_cons_succ, List.getElem_cons_zero]
                  rw [if_pos (by rfl)]
                  refine wp_amounts (.tmp 52) (.tmp 54) rfl w2.heap.size (.slice (some ⟨wt0.heap.size, 0, none⟩) 0 0) (by simp [Act.eval]) (own_none (by have := Kwt0.out.size; omega) F2.out) A n c Z (by simp [Act.eval]) (rdA.out.keep (K2.out.trans Kwt13.out)) nilA.out (by omega) (Kwt13.out.size) ?_
                  intro v6 wt14 hr6 hg6
                  obtain ⟨A6, c6, hv6, nl6⟩ := own_form hr6
                  subst hv6
                  have Jwt14 : Hid (Keep w2 wt14) := keep_grown Kwt13.out hg6 (fun q hq => by simp [Value.ownBlock] at hq; have := Kwt0.out.size; omega)
                  have Kwt14 : Hid (Keep w2 wt14) := Jwt14.out
                  replace F7 : Hid (wt14.heap[wt1.heap.size]? = some (.cells (madeCells #[.int .i64 0] n) 2 (0, 0))) := (hg6.block _ (Array.getElem?_eq_some_iff.1 F7.out).1 (by have := L27.out; simp [Value.ownBlock]; omega)).trans F7.out
                  replace F9 : Hid (wt14.heap[wt9.heap.size]? = some (.cells #[.int .i64 0, .slice none 0 0, .slice none 0 0] 42 (0, 0))) := (hg6.block _ (Array.getElem?_eq_some_iff.1 F9.out).1 (by have := L29.out; simp [Value.ownBlock]; omega)).trans F9.out
                  have nl6 := Lib.hid nl6
                  have R6 : Hid (wt14.ownsRow w2.heap.size 2 1 (.slice A6 n c6) n (rowL n Z)) := hr6
                  clear hr6
                  replace hg6 := Lib.hid hg6
                  clear F2
                  refine hK.out _ _ (HELD _ Kwt14.out) (fun hHeld => ?_)
                  clear hK K
                  try simp only [Act.put, List.setIfInBounds_toArray, List.set_cons_zero, List.set_cons_succ]
                  refine wpAnyH_take (i := 8) (v := .agg #[.int .i64 k, .slice A6 n c6, .slice (some ⟨wt1.heap.size, 0, none⟩) n n]) rfl (by kernel_rfl) (by kernel_rfl) (by kernel_rfl) (fun _ _ _ h => h) (Or.inl ⟨by rfl, fun Wz hW => by obtain ⟨s0, s1⟩ := hW; go_simp⟩) hHeld ?_
                  simp only [Act.put, List.getElem_toArray, List.getElem_cons_succ, List.getElem_cons_zero, List.setIfInBounds_toArray, List.set_cons_zero, List.set_cons_succ]
                  refine wpAnyH_ready (rs := [10]) (by kernel_rfl) (by simp) ?_
                  refine (AllReadyH.cons rfl (fun K hK => ?_) AllReadyH.nil)
                  simp only [List.getElem_toArray, List.getElem_cons_succ, List.getElem_cons_zero]
                  rw [if_pos (by rfl)]
                  obtain ⟨c0, c1, c2, f0⟩ := celN F9.out
                  go_simp
                  obtain ⟨wt15, hwt15⟩ : ∃ W, W = ((wt14.setCell ⟨wt9.heap.size, 0, none⟩ (.int .i64 k)).setCell ⟨wt9.heap.size, 1, none⟩ (.slice A6 n c6)).setCell ⟨wt9.heap.size, 2, none⟩ (.slice (some ⟨wt1.heap.size, 0, none⟩) n n) := ⟨_, rfl⟩
                  have Kwt15 : Hid (Keep w2 wt15) := by rw [hwt15]; have := Kwt9.out.size; exact ((Kwt14.out.set (by show _ ≤ wt9.heap.size; omega) _).set (by show _ ≤ wt9.heap.size; omega) _).set (by show _ ≤ wt9.heap.size; omega) _
                  have R7 : Hid (wt15.ownsRow w2.heap.size 2 1 (.slice A6 n c6) n (rowL n Z)) := by rw [hwt15]; exact own_blocks1 R6.out fun g hg => set3_other (row_ne R6.out F9.out (by decide) g hg)
                  have G7 : Hid (wt15.heap[wt1.heap.size]? = some (.cells (madeCells #[.int .i64 0] n) 2 (0, 0))) := by rw [hwt15]; exact (set3_other (by have := L79.out; omega)).trans F7.out
                  have G9 : Hid (wt15.heap[wt9.heap.size]? = some (.cells #[.int .i64 k, .slice A6 n c6, .slice (some ⟨wt1.heap.size, 0, none⟩) n n] 42 (0, 0))) := by rw [hwt15]; exact set3N F9.out
                  clear c0 c1 c2 f0
                  rw [← hwt15]
                  replace hwt15 := Lib.hid hwt15
                  refine hK.out _ _ (HELD _ Kwt15.out) (fun hHeld => ?_)
                  clear hK K
                  try simp only [Act.put, List.getElem_toArray, List.getElem_cons_succ, List.getElem_cons_zero, List.setIfInBounds_toArray, List.set_cons_zero, List.set_cons_succ]
                  refine wpAnyH_done (by kernel_rfl) ?_ _
                  go_wp2_with fail
                  go_meet
                  case rel => exact ⟨wt9.heap.size, wt1.heap.size, A6, c6, rfl, Kwt15.out, G9.out, rd_own R7.out rdA.out.small rdA.out.range, rd_made G7.out (by omega), nl6.out⟩
              · simp only [List.getElem_toArray, List.getElem_cons_succ, List.getElem_cons_zero]
                rw [if_pos (by rfl)]
                go_simp
                obtain ⟨wt16, hwt16⟩ : ∃ W, W = wt1.alloc (.cells #[.int .i64 0, .slice none 0 0, .slice none 0 0] 42) := ⟨_, rfl⟩
                have Jwt16 : Hid (Keep wt1 wt16) := by rw [hwt16]; exact Keep.one _ _
                have Kwt16 : Hid (Keep w2 wt16) := Kwt1.out.trans Jwt16.out
                have L29 : Hid (wt0.heap.size < wt1.heap.size) := (Array.getElem?_eq_some_iff.1 F2.out).1
                replace F2 : Hid (wt16.heap[wt0.heap.size]? = some (.cells #[] 2 (0, 0))) := Jwt16.out.block F2.out
                have F9 : Hid (wt16.heap[wt1.heap.size]? = some (.cells #[.int .i64 0, .slice none 0 0, .slice none 0 0] 42 (0, 0))) := by rw [hwt16]; exact heap_alloc_new _ _
                rw [← hwt16]
                replace hwt16 := Lib.hid hwt16
                refine hK.out _ _ (HELD _ Kwt16.out) (fun hHeld => ?_)
                clear hK K
                try simp only [Act.put, List.getElem_toArray, List.getElem_cons_succ, List.getElem_cons_zero, List.setIfInBounds_toArray, List.set_cons_zero, List.set_cons_succ]
                refine wpAnyH_ready (rs := [5, 7]) (by kernel_rfl) (by simp) ?_
                refine (AllReadyH.cons rfl (fun K hK => ?_) (AllReadyH.cons rfl (fun K hK => ?_) AllReadyH.nil))
                · simp only [List.getElem_toArray, List.getElem_cons_succ, List.getElem_cons_zero]
                  rw [if_pos (by rfl)]
                  refine wp_amounts (.tmp 52) (.tmp 54) rfl w2.heap.size (.slice (some ⟨wt0.heap.size, 0, none⟩) 0 0) (by simp [Act.eval]) (own_none (by have := Kwt0.out.size; omega) F2.out) A n c Z (by simp [Act.eval]) (rdA.out.keep (K2.out.trans Kwt16.out)) nilA.out (by omega) (Kwt16.out.size) ?_
                  intro v6 wt17 hr6 hg6
                  obtain ⟨A6, c6, hv6, nl6⟩ := own_form hr6
                  subst hv6
                  have Jwt17 : Hid (Keep w2 wt17) := keep_grown Kwt16.out hg6 (fun q hq => by simp [Value.ownBlock] at hq; have := Kwt0.out.size; omega)
                  have Kwt17 : Hid (Keep w2 wt17) := Jwt17.out
                  replace F9 : Hid (wt17.heap[wt1.heap.size]? = some (.cells #[.int .i64 0, .slice none 0 0, .slice none 0 0] 42 (0, 0))) := (hg6.block _ (Array.getElem?_eq_some_iff.1 F9.out).1 (by have := L29.out; simp [Value.ownBlock]; omega)).trans F9.out
                  have nl6 := Lib.hid nl6
                  have R6 : Hid (wt17.ownsRow w2.heap.size 2 1 (.slice A6 n c6) n (rowL n Z)) := hr6
                  clear hr6
                  replace hg6 := Lib.hid hg6
                  clear F2
                  refine hK.out _ _ (HELD _ Kwt17.out) (fun hHeld => ?_)
                  clear hK K
                  try simp only [Act.put, List.setIfInBounds_toArray, List.set_cons_zero, List.set_cons_succ]
                  refine wpAnyH_ready (rs := [7]) (by kernel_rfl) (by simp) ?_
                  refine (AllReadyH.cons rfl (fun K hK => ?_) AllReadyH.nil)
                  simp only [List.getElem_toArray, List.getElem_cons_succ, List.getElem_cons_zero]
                  rw [if_pos (by rfl)]
                  go_simp
                  obtain ⟨wt18, hwt18⟩ : ∃ W, W = wt17.alloc (.cells (madeCells #[.int .i64 0] n) 2) := ⟨_, rfl⟩
                  have Jwt18 : Hid (Keep wt17 wt18) := by rw [hwt18]; exact Keep.one _ _
                  have Kwt18 : Hid (Keep w2 wt18) := Kwt17.out.trans Jwt18.out
                  have L97 : Hid (wt1.heap.size < wt17.heap.size) := (Array.getElem?_eq_some_iff.1 F9.out).1
                  replace F9 : Hid (wt18.heap[wt1.heap.size]? = some (.cells #[.int .i64 0, .slice none 0 0, .slice none 0 0] 42 (0, 0))) := Jwt18.out.block F9.out
                  replace R6 : Hid (wt18.ownsRow w2.heap.size 2 1 (.slice A6 n c6) n (rowL n Z)) := own_keep R6.out Jwt18.out
                  have F7 : Hid (wt18.heap[wt17.heap.size]? = some (.cells (madeCells #[.int .i64 0] n) 2 (0, 0))) := by rw [hwt18]; exact heap_alloc_new _ _
                  rw [← hwt18]
                  replace hwt18 := Lib.hid hwt18
                  refine hK.out _ _ (HELD _ Kwt18.out) (fun hHeld => ?_)
                  clear hK K
                  try simp only [Act.put, List.getElem_toArray, List.getElem_cons_succ, List.getElem_cons_zero, List.setIfInBounds_toArray, List.set_cons_zero, List.set_cons_succ]
                  refine wpAnyH_take (i := 8) (v := .agg #[.int .i64 k, .slice A6 n c6, .slice (some ⟨wt17.heap.size, 0, none⟩) n n]) rfl (by kernel_rfl) (by kernel_rfl) (by kernel_rfl) (fun _ _ _ h => h) (Or.inl ⟨by rfl, fun Wz hW => by obtain ⟨s0, s1⟩ := hW; go_simp⟩) hHeld ?_
                  simp only [Act.put, List.getElem_toArray, List.getElem_cons_succ, List.getElem_cons_zero, List.setIfInBounds_toArray, List.set_cons_zero, List.set_cons_succ]
                  refine wpAnyH_ready (rs := [10]) (by kernel_rfl) (by simp) ?_
                  refine (AllReadyH.cons rfl (fun K hK => ?_) AllReadyH.nil)
                  simp only [List.getElem_toArray, List.getElem_cons_succ, List.getElem_cons_zero]
                  rw [if_pos (by rfl)]
                  obtain ⟨c0, c1, c2, f0⟩ := celN F9.out
                  go_simp
                  obtain ⟨wt19, hwt19⟩ : ∃ W, W = ((wt18.setCell ⟨wt1.heap.size, 0, none⟩ (.int .i64 k)).setCell ⟨wt1.heap.size, 1, none⟩ (.slice A6 n c6)).setCell ⟨wt1.heap.size, 2, none⟩ (.slice (some ⟨wt17.heap.size, 0, none⟩) n n) := ⟨_, rfl⟩
                  have Kwt19 : Hid (Keep w2 wt19) := by rw [hwt19]; have := Kwt1.out.size; exact ((Kwt18.out.set (by show _ ≤ wt1.heap.size; omega) _).set (by show _ ≤ wt1.heap.size; omega) _).set (by show _ ≤ wt1.heap.size; omega) _
                  have R7 : Hid (wt19.ownsRow w2.heap.size 2 1 (.slice A6 n c6) n (rowL n Z)) := by rw [hwt19]; exact own_blocks1 R6.out fun g hg => set3_other (row_ne R6.out F9.out (by decide) g hg)
                  have G7 : Hid (wt19.heap[wt17.heap.size]? = some (.cells (madeCells #[.int .i64 0] n) 2 (0, 0))) := by rw [hwt19]; exact (set3_other (by have := L97.out; omega)).trans F7.out
                  have G9 : Hid (wt19.heap[wt1.heap.size]? = some (.cells #[.int .i64 k, .slice A6 n c6, .slice (some ⟨wt17.heap.size, 0, none⟩) n n] 42 (0, 0))) := by rw [hwt19]; exact set3N F9.out
                  clear c0 c1 c2 f0
                  rw [← hwt19]
                  replace hwt19 := Lib.hid hwt19
                  refine hK.out _ _ (HELD _ Kwt19.out) (fun hHeld => ?_)
                  clear hK K
                  try simp only [Act.put, List.getElem_toArray, List.getElem_cons_succ, List.getElem_cons_zero, List.setIfInBounds_toArray, List.set_cons_zero, List.set_cons_succ]
                  refine wpAnyH_done (by kernel_rfl) ?_ _
                  go_wp2_with fail
                  go_meet
                  case rel => exact ⟨wt1.heap.size, wt17.heap.size, A6, c6, rfl, Kwt19.out, G9.out, rd_own R7.out rdA.out.small rdA.out.range, rd_made G7.out (by omega), nl6.out⟩
                · simp only [List.getElem_toArray, List.getElem_cons_succ, List.getElem_cons_zero]
                  rw [if_pos (by rfl)]
                  go_simp
                  obtain ⟨wt20, hwt20⟩ : ∃ W, W = wt16.alloc (.cells (madeCells #[.int .i64 0] n) 2) := ⟨_, rfl⟩
                  have Jwt20 : Hid (Keep wt16 wt20) := by rw [hwt20]; exact Keep.one _ _
                  have Kwt20 : Hid (Keep w2 wt20) := Kwt16.out.trans Jwt20.out
                  have L27 : Hid (wt0.heap.size < wt16.heap.size) := (Array.getElem?_eq_some_iff.1 F2.out).1
                  have L97 : Hid (wt1.heap.size < wt16.heap.size) := (Array.getElem?_eq_some_iff.1 F9.out).1
                  replace F2 : Hid (wt20.heap[wt0.heap.size]? = some (.cells #[] 2 (0, 0))) := Jwt20.out.block F2.out
                  replace F9 : Hid (wt20.heap[wt1.heap.size]? = some (.cells #[.int .i64 0, .slice none 0 0, .slice none 0 0] 42 (0, 0))) := Jwt20.out.block F9.out
                  have F7 : Hid (wt20.heap[wt16.heap.size]? = some (.cells (madeCells #[.int .i64 0] n) 2 (0, 0))) := by rw [hwt20]; exact heap_alloc_new _ _
                  rw [← hwt20]
                  replace hwt20 := Lib.hid hwt20
                  refine hK.out _ _ (HELD _ Kwt20.out) (fun hHeld => ?_)
                  clear hK K
                  try simp only [Act.put, List.getElem_toArray, List.getElem_cons_succ, List.getElem_cons_zero, List.setIfInBounds_toArray, List.set_cons_zero, List.set_cons_succ]
                  refine wpAnyH_ready (rs := [5]) (by kernel_rfl) (by simp) ?_
                  refine (AllReadyH.cons rfl (fun K hK => ?_) AllReadyH.nil)
                  simp only [List.getElem_toArray, List.getElem_cons_succ, List.getElem_cons_zero]
                  rw [if_pos (by rfl)]
                  refine wp_amounts (.tmp 52) (.tmp 54) rfl w2.heap.size (.slice (some ⟨wt0.heap.size, 0, none⟩) 0 0) (by simp [Act.eval]) (own_none (by have := Kwt0.out.size; omega) F2.out) A n c Z (by simp [Act.eval]) (rdA.out.keep (K2.out.trans Kwt20.out)) nilA.out (by omega) (Kwt20.out.size) ?_
                  intro v6 wt21 hr6 hg6
                  obtain ⟨A6, c6, hv6, nl6⟩ := own_form hr6
                  subst hv6
                  have Jwt21 : Hid (Keep w2 wt21) := keep_grown Kwt20.out hg6 (fun q hq => by simp [Value.ownBlock] at hq; have := Kwt0.out.size; omega)
                  have Kwt21 : Hid (Keep w2 wt21) := Jwt21.out
                  replace F9 : Hid (wt21.heap[wt1.heap.size]? = some (.cells #[.int .i64 0, .slice none 0 0, .slice none 0 0] 42 (0, 0))) := (hg6.block _ (Array.getElem?_eq_some_iff.1 F9.out).1 (by have := L29.out; simp [Value.ownBlock]; omega)).trans F9.out
                  replace F7 : Hid (wt21.heap[wt16.heap.size]? = some (.cells (madeCells #[.int .i64 0] n) 2 (0, 0))) := (hg6.block _ (Array.getElem?_eq_some_iff.1 F7.out).1 (by have := L27.out; simp [Value.ownBlock]; omega)).trans F7.out
                  have nl6 := Lib.hid nl6
                  have R6 : Hid (wt21.ownsRow w2.heap.size 2 1 (.slice A6 n c6) n (rowL n Z)) := hr6
                  clear hr6
                  replace hg6 := Lib.hid hg6
                  clear F2
                  refine hK.out _ _ (HELD _ Kwt21.out) (fun hHeld => ?_)
                  clear hK K
                  try simp only [Act.put, List.setIfInBounds_toArray, List.set_cons_zero, List.set_cons_succ]
                  refine wpAnyH_take (i := 8) (v := .agg #[.int .i64 k, .slice A6 n c6, .slice (some ⟨wt16.heap.size, 0, none⟩) n n]) rfl (by kernel_rfl) (by kernel_rfl) (by kernel_rfl) (fun _ _ _ h => h) (Or.inl ⟨by rfl, fun Wz hW => by obtain ⟨s0, s1⟩ := hW; go_simp⟩) hHeld ?_
                  simp only [Act.put, List.getElem_toArray, List.getElem_cons_succ, List.getElem_cons_zero, List.setIfInBounds_toArray, List.set_cons_zero, List.set_cons_succ]
                  refine wpAnyH_ready (rs := [10]) (by kernel_rfl) (by simp) ?_
                  refine (AllReadyH.cons rfl (fun K hK => ?_) AllReadyH.nil)
                  simp only [List.getElem_toArray, List.getElem_cons_succ, List.getElem_cons_zero]
                  rw [if_pos (by rfl)]
                  obtain ⟨c0, c1, c2, f0⟩ := celN F9.out
                  go_simp
                  obtain ⟨wt22, hwt22⟩ : ∃ W, W = ((wt21.setCell ⟨wt1.heap.size, 0, none⟩ (.int .i64 k)).setCell ⟨wt1.heap.size, 1, none⟩ (.slice A6 n c6)).setCell ⟨wt1.heap.size, 2, none⟩ (.slice (some ⟨wt16.heap.size, 0, none⟩) n n) := ⟨_, rfl⟩
                  have Kwt22 : Hid (Keep w2 wt22) := by rw [hwt22]; have := Kwt1.out.size; exact ((Kwt21.out.set (by show _ ≤ wt1.heap.size; omega) _).set (by show _ ≤ wt1.heap.size; omega) _).set (by show _ ≤ wt1.heap.size; omega) _
                  have R7 : Hid (wt22.ownsRow w2.heap.size 2 1 (.slice A6 n c6) n (rowL n Z)) := by rw [hwt22]; exact own_blocks1 R6.out fun g hg => set3_other (row_ne R6.out F9.out (by decide) g hg)
                  have G7 : Hid (wt22.heap[wt16.heap.size]? = some (.cells (madeCells #[.int .i64 0] n) 2 (0, 0))) := by rw [hwt22]; exact (set3_other (by have := L97.out; omega)).trans F7.out
                  have G9 : Hid (wt22.heap[wt1.heap.size]? = some (.cells #[.int .i64 k, .slice A6 n c6, .slice (some ⟨wt16.heap.size, 0, none⟩) n n] 42 (0, 0))) := by rw [hwt22]; exact set3N F9.out
                  clear c0 c1 c2 f0
                  rw [← hwt22]
                  replace hwt22 := Lib.hid hwt22
                  refine hK.out _ _ (HELD _ Kwt22.out) (fun hHeld => ?_)
                  clear hK K
                  try simp only [Act.put, List.getElem_toArray, List.getElem_cons_succ, List.getElem_cons_zero, List.setIfInBounds_toArray, List.set_cons_zero, List.set_cons_succ]
                  refine wpAnyH_done (by kernel_rfl) ?_ _
                  go_wp2_with fail
                  go_meet
                  case rel => exact ⟨wt1.heap.size, wt16.heap.size, A6, c6, rfl, Kwt22.out, G9.out, rd_own R7.out rdA.out.small rdA.out.range, rd_made G7.out (by omega), nl6.out⟩
            · simp only [List.getElem_toArray, List.getElem_cons_succ, List.getElem_cons_zero]
              rw [if_pos (by rfl)]
              go_simp
              obtain ⟨wt23, hwt23⟩ : ∃ W, W = wt0.alloc (.cells (madeCells #[.int .i64 0] n) 2) := ⟨_, rfl⟩
              have Jwt23 : Hid (Keep wt0 wt23) := by rw [hwt23]; exact Keep.one _ _
              have Kwt23 : Hid (Keep w2 wt23) := Kwt0.out.trans Jwt23.out
              have F7 : Hid (wt23.heap[wt0.heap.size]? = some (.cells (madeCells #[.int .i64 0] n) 2 (0, 0))) := by rw [hwt23]; exact heap_alloc_new _ _
              rw [← hwt23]
              replace hwt23 := Lib.hid hwt23
              refine hK.out _ _ (HELD _ Kwt23.out) (fun hHeld => ?_)
              clear hK K
              try simp only [Act.put, List.getElem_toArray, List.getElem_cons_succ, List.getElem_cons_zero, List.setIfInBounds_toArray, List.set_cons_zero, List.set_cons_succ]
              refine wpAnyH_ready (rs := [2, 9]) (by kernel_rfl) (by simp) ?_
              refine (AllReadyH.cons rfl (fun K hK => ?_) (AllReadyH.cons rfl (fun K hK => ?_) AllReadyH.nil))
              · simp only [List.getElem_toArray, List.getElem_cons_succ, List.getElem_cons_zero]
                rw [if_pos (by rfl)]
                go_simp
                obtain ⟨wt24, hwt24⟩ : ∃ W, W = wt23.alloc (.cells #[] 2) := ⟨_, rfl⟩
                have Jwt24 : Hid (Keep wt23 wt24) := by rw [hwt24]; exact Keep.one _ _
                have Kwt24 : Hid (Keep w2 wt24) := Kwt23.out.trans Jwt24.out
                have L72 : Hid (wt0.heap.size < wt23.heap.size) := (Array.getElem?_eq_some_iff.1 F7.out).1
                replace F7 : Hid (wt24.heap[wt0.heap.size]? = some (.cells (madeCells #[.int .i64 0] n) 2 (0, 0))) := Jwt24.out.block F7.out
                have F2 : Hid (wt24.heap[wt23.heap.size]? = some (.cells #[] 2 (0, 0))) := by rw [hwt24]; exact heap_alloc_new _ _
                rw [← hwt24]
                replace hwt24 := Lib.hid hwt24
                refine hK.out _ _ (HELD _ Kwt24.out) (fun hHeld => ?_)
                clear hK K
                try simp only [Act.put, List.getElem_toArray, List.getElem_cons_succ, List.getElem_cons_zero, List.setIfInBounds_toArray, List.set_cons_zero, List.set_cons_succ]
                refine wpAnyH_ready (rs := [5, 9]) (by kernel_rfl) (by simp) ?_
                refine (AllReadyH.cons rfl (fun K hK => ?_) (AllReadyH.cons rfl (fun K hK => ?_) AllReadyH.nil))
                · simp only [List.getElem_toArray, List.getElem_cons_succ, List.getElem_cons_zero]
                  rw [if_pos (by rfl)]
                  refine wp_amounts (.tmp 52) (.tmp 54) rfl w2.heap.size (.slice (some ⟨wt23.heap.size, 0, none⟩) 0 0) (by simp [Act.eval]) (own_none (by have := Kwt23.out.size; omega) F2.out) A n c Z (by simp [Act.eval]) (rdA.out.keep (K2.out.trans Kwt24.out)) nilA.out (by omega) (Kwt24.out.size) ?_
                  intro v6 wt25 hr6 hg6
                  obtain ⟨A6, c6, hv6, nl6⟩ := own_form hr6
                  subst hv6
                  have Jwt25 : Hid (Keep w2 wt25) := keep_grown Kwt24.out hg6 (fun q hq => by simp [Value.ownBlock] at hq; have := Kwt23.out.size; omega)
                  have Kwt25 : Hid (Keep w2 wt25) := Jwt25.out
                  replace F7 : Hid (wt25.heap[wt0.heap.size]? = some (.cells (madeCells #[.int .i64 0] n) 2 (0, 0))) := (hg6.block _ (Array.getElem?_eq_some_iff.1 F7.out).1 (by have := L72.out; simp [Value.ownBlock]; omega)).trans F7.out
                  have nl6 := Lib.hid nl6
                  have R6 : Hid (wt25.ownsRow w2.heap.size 2 1 (.slice A6 n c6) n (rowL n Z)) := hr6
                  clear hr6
                  replace hg6 := Lib.hid hg6
                  clear F2
                  refine hK.out _ _ (HELD _ Kwt25.out) (fun hHeld => ?_)
                  clear hK K
                  try simp only [Act.put, List.setIfInBounds_toArray, List.set_cons_zero, List.set_cons_succ]
                  refine wpAnyH_take (i := 8) (v := .agg #[.int .i64 k, .slice A6 n c6, .slice (some ⟨wt0.heap.size, 0, none⟩) n n]) rfl (by kernel_rfl) (by kernel_rfl) (by kernel_rfl) (fun _ _ _ h => h) (Or.inl ⟨by rfl, fun Wz hW => by obtain ⟨s0, s1⟩ := hW; go_simp⟩) hHeld ?_
                  simp only [Act.put, List.getElem_toArray, List.getElem_cons_succ, List.getElem_cons_zero, List.setIfInBounds_toArray, List.set_cons_zero, List.set_cons_succ]
                  refine wpAnyH_ready (rs := [9]) (by kernel_rfl) (by simp) ?_
                  refine (AllReadyH.cons rfl (fun K hK => ?_) AllReadyH.nil)
                  simp only [List.getElem_toArray, List.getElem_cons_succ, List.getElem_cons_zero]
                  rw [if_pos (by rfl)]
                  go_simp
                  obtain ⟨wt26, hwt26⟩ : ∃ W, W = wt25.alloc (.cells #[.int .i64 0, .slice none 0 0, .slice none 0 0] 42) := ⟨_, rfl⟩
                  have Jwt26 : Hid (Keep wt25 wt26) := by rw [hwt26]; exact Keep.one _ _
                  have Kwt26 : Hid (Keep w2 wt26) := Kwt25.out.trans Jwt26.out
                  have L79 : Hid (wt0.heap.size < wt25.heap.size) := (Array.getElem?_eq_some_iff.1 F7.out).1
                  replace F7 : Hid (wt26.heap[wt0.heap.size]? = some (.cells (madeCells #[.int .i64 0] n) 2 (0, 0))) := Jwt26.out.block F7.out
                  replace R6 : Hid (wt26.ownsRow w2.heap.size 2 1 (.slice A6 n c6) n (rowL n Z)) := own_keep R6.out Jwt26.out
                  have F9 : Hid (wt26.heap[wt25.heap.size]? = some (.cells #[.int .i64 0, .slice none 0 0, .slice none 0 0] 42 (0, 0))) := by rw [hwt26]; exact heap_alloc_new _ _
                  rw [← hwt26]
                  replace hwt26 := Lib.hid hwt26
                  refine hK.out _ _ (HELD _ Kwt26.out) (fun hHeld => ?_)
                  clear hK K
                  try simp only [Act.put, List.getElem_toArray, List.getElem_cons_succ, List.getElem_cons_zero, List.setIfInBounds_toArray, List.set_cons_zero, List.set_cons_succ]
                  refine wpAnyH_ready (rs := [10]) (by kernel_rfl) (by simp) ?_
                  refine (AllReadyH.cons rfl (fun K hK => ?_) AllReadyH.nil)
                  simp only [List.getElem_toArray, List.getElem_cons_succ, List.getElem_cons_zero]
                  rw [if_pos (by rfl)]
                  obtain ⟨c0, c1, c2, f0⟩ := celN F9.out
                  go_simp
                  obtain ⟨wt27, hwt27⟩ : ∃ W, W = ((wt26.setCell ⟨wt25.heap.size, 0, none⟩ (.int .i64 k)).setCell ⟨wt25.heap.size, 1, none⟩ (.slice A6 n c6)).setCell ⟨wt25.heap.size, 2, none⟩ (.slice (some ⟨wt0.heap.size, 0, none⟩) n n) := ⟨_, rfl⟩
                  have Kwt27 : Hid (Keep w2 wt27) := by rw [hwt27]; have := Kwt25.out.size; exact ((Kwt26.out.set (by show _ ≤ wt25.heap.size; omega) _).set (by show _ ≤ wt25.heap.size; omega) _).set (by show _ ≤ wt25.heap.size; omega) _
                  have R7 : Hid (wt27.ownsRow w2.heap.size 2 1 (.slice A6 n c6) n (rowL n Z)) := by rw [hwt27]; exact own_blocks1 R6.out fun g hg => set3_other (row_ne R6.out F9.out (by decide) g hg)
                  have G7 : Hid (wt27.heap[wt0.heap.size]? = some (.cells (madeCells #[.int .i64 0] n) 2 (0, 0))) := by rw [hwt27]; exact (set3_other (by have := L79.out; omega)).trans F7.out
                  have G9 : Hid (wt27.heap[wt25.heap.size]? = some (.cells #[.int .i64 k, .slice A6 n c6, .slice (some ⟨wt0.heap.size, 0, none⟩) n n] 42 (0, 0))) := by rw [hwt27]; exact set3N F9.out
                  clear c0 c1 c2 f0
                  rw [← hwt27]
                  replace hwt27 := Lib.hid hwt27
                  refine hK.out _ _ (HELD _ Kwt27.out) (fun hHeld => ?_)
                  clear hK K
                  try simp only [Act.put, List.getElem_toArray, List.getElem_cons_succ, List.getElem_cons_zero, List.setIfInBounds_toArray, List.set_cons_zero, List.set_cons_succ]
                  refine wpAnyH_done (by kernel_rfl) ?_ _
                  go_wp2_with fail
                  go_meet
                  case rel => exact ⟨wt25.heap.size, wt0.heap.size, A6, c6, rfl, Kwt27.out, G9.out, rd_own R7.out rdA.out.small rdA.out.range, rd_made G7.out (by omega), nl6.out⟩
                · simp only [List.getElem_toArray, List.getElem_cons_succ, List.getElem_cons_zero]
                  rw [if_pos (by rfl)]
                  go_simp
                  obtain ⟨wt28, hwt28⟩ : ∃ W, W = wt24.alloc (.cells #[.int .i64 0, .slice none 0 0, .slice none 0 0] 42) := ⟨_, rfl⟩
                  have Jwt28 : Hid (Keep wt24 wt28) := by rw [hwt28]; exact Keep.one _ _
                  have Kwt28 : Hid (Keep w2 wt28) := Kwt24.out.trans Jwt28.out
                  have L79 : Hid (wt0.heap.size < wt24.heap.size) := (Array.getElem?_eq_some_iff.1 F7.out).1
                  have L29 : Hid (wt23.heap.size < wt24.heap.size) := (Array.getElem?_eq_some_iff.1 F2.out).1
                  replace F7 : Hid (wt28.heap[wt0.heap.size]? = some (.cells (madeCells #[.int .i64 0] n) 2 (0, 0))) := Jwt28.out.block F7.out
                  replace F2 : Hid (wt28.heap[wt23.heap.size]? = some (.cells #[] 2 (0, 0))) := Jwt28.out.block F2.out
                  have F9 : Hid (wt28.heap[wt24.heap.size]? = some (.cells #[.int .i64 0, .slice none 0 0, .slice none 0 0] 42 (0, 0))) := by rw [hwt28]; exact heap_alloc_new _ _
                  rw [← hwt28]
                  replace hwt28 := Lib.hid hwt28
                  refine hK.out _ _ (HELD _ Kwt28.out) (fun hHeld => ?_)
                  clear hK K
                  try simp only [Act.put, List.getElem_toArray, List.getElem_cons_succ, List.getElem_cons_zero, List.setIfInBounds_toArray, List.set_cons_zero, List.set_cons_succ]
                  refine wpAnyH_ready (rs := [5]) (by kernel_rfl) (by simp) ?_
                  refine (AllReadyH.cons rfl (fun K hK => ?_) AllReadyH.nil)
                  simp only [List.getElem_toArray, List.getElem_cons_succ, List.getElem_cons_zero]
                  rw [if_pos (by rfl)]
                  refine wp_amounts (.tmp 52) (.tmp 54) rfl w2.heap.size (.slice (some ⟨wt23.heap.size, 0, none⟩) 0 0) (by simp [Act.eval]) (own_none (by have := Kwt23.out.size; omega) F2.out) A n c Z (by simp [Act.eval]) (rdA.out.keep (K2.out.trans Kwt28.out)) nilA.out (by omega) (Kwt28.out.size) ?_
                  intro v6 wt29 hr6 hg6
                  obtain ⟨A6, c6, hv6, nl6⟩ := own_form hr6
                  subst hv6
                  have Jwt29 : Hid (Keep w2 wt29) := keep_grown Kwt28.out hg6 (fun q hq => by simp [Value.ownBlock] at hq; have := Kwt23.out.size; omega)
                  have Kwt29 : Hid (Keep w2 wt29) := Jwt29.out
                  replace F7 : Hid (wt29.heap[wt0.heap.size]? = some (.cells (madeCells #[.int .i64 0] n) 2 (0, 0))) := (hg6.block _ (Array.getElem?_eq_some_iff.1 F7.out).1 (by have := L72.out; simp [Value.ownBlock]; omega)).trans F7.out
                  replace F9 : Hid (wt29.heap[wt24.heap.size]? = some (.cells #[.int .i64 0, .slice none 0 0, .slice none 0 0] 42 (0, 0))) := (hg6.block _ (Array.getElem?_eq_some_iff.1 F9.out).1 (by have := L29.out; simp [Value.ownBlock]; omega)).trans F9.out
                  have nl6 := Lib.hid nl6
                  have R6 : Hid (wt29.ownsRow w2.heap.size 2 1 (.slice A6 n c6) n (rowL n Z)) := hr6
                  clear hr6
                  replace hg6 := Lib.hid hg6
                  clear F2
                  refine hK.out _ _ (HELD _ Kwt29.out) (fun hHeld => ?_)
                  clear hK K
                  try simp only [Act.put, List.setIfInBounds_toArray, List.set_cons_zero, List.set_cons_succ]
                  refine wpAnyH_take (i := 8) (v := .agg #[.int .i64 k, .slice A6 n c6, .slice (some ⟨wt0.heap.size, 0, none⟩) n n]) rfl (by kernel_rfl) (by kernel_rfl) (by kernel_rfl) (fun _ _ _ h => h) (Or.inl ⟨by rfl, fun Wz hW => by obtain ⟨s0, s1⟩ := hW; go_simp⟩) hHeld ?_
                  simp only [Act.put, List.getElem_toArray, List.getElem_cons_succ, List.getElem_cons_zero, List.setIfInBounds_toArray, List.set_cons_zero, List.set_cons_succ]
                  refine wpAnyH_ready (rs := [10]) (by kernel_rfl) (by simp) ?_
                  refine (AllReadyH.cons rfl (fun K hK => ?_) AllReadyH.nil)
                  simp only [List.getElem_toArray, List.getElem_cons_succ, List.getElem_cons_zero]
                  rw [if_pos (by rfl)]
                  obtain ⟨c0, c1, c2, f0⟩ := celN F9.out
                  go_simp
                  obtain ⟨wt30, hwt30⟩ : ∃ W, W = ((wt29.setCell ⟨wt24.heap.size, 0, none⟩ (.int .i64 k)).setCell ⟨wt24.heap.size, 1, none⟩ (.slice A6 n c6)).setCell ⟨wt24.heap.size, 2, none⟩ (.slice (some ⟨wt0.heap.size, 0, none⟩) n n) := ⟨_, rfl⟩
                  have Kwt30 : Hid (Keep w2 wt30) := by rw [hwt30]; have := Kwt24.out.size; exact ((Kwt29.out.set (by show _ ≤ wt24.heap.size; omega) _).set (by show _ ≤ wt24.heap.size; omega) _).set (by show _ ≤ wt24.heap.size; omega) _
                  have R7 : Hid (wt30.ownsRow w2.heap.size 2 1 (.slice A6 n c6) n (rowL n Z)) := by rw [hwt30]; exact own_blocks1 R6.out fun g hg => set3_other (row_ne R6.out F9.out (by decide) g hg)
                  have G7 : Hid (wt30.heap[wt0.heap.size]? = some (.cells (madeCells #[.int .i64 0] n) 2 (0, 0))) := by rw [hwt30]; exact (set3_other (by have := L79.out; omega)).trans F7.out
                  have G9 : Hid (wt30.heap[wt24.heap.size]? = some (.cells #[.int .i64 k, .slice A6 n c6, .slice (some ⟨wt0.heap.size, 0, none⟩) n n] 42 (0, 0))) := by rw [hwt30]; exact set3N F9.out
                  clear c0 c1 c2 f0
                  rw [← hwt30]
                  replace hwt30 := Lib.hid hwt30
                  refine hK.out _ _ (HELD _ Kwt30.out) (fun hHeld => ?_)
                  clear hK K
                  try simp only [Act.put, List.getElem_toArray, List.getElem_cons_succ, List.getElem_cons_zero, List.setIfInBounds_toArray, List.set_cons_zero, List.set_cons_succ]
                  refine wpAnyH_done (by kernel_rfl) ?_ _
                  go_wp2_with fail
                  go_meet
                  case rel => exact ⟨wt24.heap.size, wt0.heap.size, A6, c6, rfl, Kwt30.out, G9.out, rd_own R7.out rdA.out.small rdA.out.range, rd_made G7.out (by omega), nl6.out⟩
              · simp only [List.getElem_toArray, List.getElem_cons_succ, List.getElem_cons_zero]
                rw [if_pos (by rfl)]
                go_simp
                obtain ⟨wt31, hwt31⟩ : ∃ W, W = wt23.alloc (.cells #[.int .i64 0, .slice none 0 0, .slice none 0 0] 42) := ⟨_, rfl⟩
                have Jwt31 : Hid (Keep wt23 wt31) := by rw [hwt31]; exact Keep.one _ _
                have Kwt31 : Hid (Keep w2 wt31) := Kwt23.out.trans Jwt31.out
                have L79 : Hid (wt0.heap.size < wt23.heap.size) := (Array.getElem?_eq_some_iff.1 F7.out).1
                replace F7 : Hid (wt31.heap[wt0.heap.size]? = some (.cells (madeCells #[.int .i64 0] n) 2 (0, 0))) := Jwt31.out.block F7.out
                have F9 : Hid (wt31.heap[wt23.heap.size]? = some (.cells #[.int .i64 0, .slice none 0 0, .slice none 0 0] 42 (0, 0))) := by rw [hwt31]; exact heap_alloc_new _ _
                rw [← hwt31]
                replace hwt31 := Lib.hid hwt31
                refine hK.out _ _ (HELD _ Kwt31.out) (fun hHeld => ?_)
                clear hK K
                try simp only [Act.put, List.getElem_toArray, List.getElem_cons_succ, List.getElem_cons_zero, List.setIfInBounds_toArray, List.set_cons_zero, List.set_cons_succ]
                refine wpAnyH_ready (rs := [2]) (by kernel_rfl) (by simp) ?_
                refine (AllReadyH.cons rfl (fun K hK => ?_) AllReadyH.nil)
                simp only [List.getElem_toArray, List.getElem_cons_succ, List.getElem_cons_zero]
                rw [if_pos (by rfl)]
                go_simp
                obtain ⟨wt32, hwt32⟩ : ∃ W, W = wt31.alloc (.cells #[] 2) := ⟨_, rfl⟩
                have Jwt32 : Hid (Keep wt31 wt32) := by rw [hwt32]; exact Keep.one _ _
                have Kwt32 : Hid (Keep w2 wt32) := Kwt31.out.trans Jwt32.out
                have L72 : Hid (wt0.heap.size < wt31.heap.size) := (Array.getElem?_eq_some_iff.1 F7.out).1
                have L92 : Hid (wt23.heap.size < wt31.heap.size) := (Array.getElem?_eq_some_iff.1 F9.out).1
                replace F7 : Hid (wt32.heap[wt0.heap.size]? = some (.cells (madeCells #[.int .i64 0] n) 2 (0, 0))) := Jwt32.out.block F7.out
                replace F9 : Hid (wt32.heap[wt23.heap.size]? = some (.cells #[.int .i64 0, .slice none 0 0, .slice none 0 0] 42 (0, 0))) := Jwt32.out.block F9.out
                have F2 : Hid (wt32.heap[wt31.heap.size]? = some (.cells #[] 2 (0, 0))) := by rw [hwt32]; exact heap_alloc_new _ _
                rw [← hwt32]
                replace hwt32 := Lib.hid hwt32
                refine hK.out _ _ (HELD _ Kwt32.out) (fun hHeld => ?_)
                clear hK K
                try simp only [Act.put, List.getElem_toArray, List.getElem_cons_succ, List.getElem_cons_zero, List.setIfInBounds_toArray, List.set_cons_zero, List.set_cons_succ]
                refine wpAnyH_ready (rs := [5]) (by kernel_rfl) (by simp) ?_
                refine (AllReadyH.cons rfl (fun K hK => ?_) AllReadyH.nil)
                simp only [List.getElem_toArray, List.getElem_cons_succ, List.getElem_cons_zero]
                rw [if_pos (by rfl)]
                refine wp_amounts (.tmp 52) (.tmp 54) rfl w2.heap.size (.slice (some ⟨wt31.heap.size, 0, none⟩) 0 0) (by simp [Act.eval]) (own_none (by have := Kwt31.out.size; omega) F2.out) A n c Z (by simp [Act.eval]) (rdA.out.keep (K2.out.trans Kwt32.out)) nilA.out (by omega) (Kwt32.out.size) ?_
                intro v6 wt33 hr6 hg6
                obtain ⟨A6, c6, hv6, nl6⟩ := own_form hr6
                subst hv6
                have Jwt33 : Hid (Keep w2 wt33) := keep_grown Kwt32.out hg6 (fun q hq => by simp [Value.ownBlock] at hq; have := Kwt31.out.size; omega)
                have Kwt33 : Hid (Keep w2 wt33) := Jwt33.out
                replace F7 : Hid (wt33.heap[wt0.heap.size]? = some (.cells (madeCells #[.int .i64 0] n) 2 (0, 0))) := (hg6.block _ (Array.getElem?_eq_some_iff.1 F7.out).1 (by have := L72.out; simp [Value.ownBlock]; omega)).trans F7.out
                replace F9 : Hid (wt33.heap[wt23.heap.size]? = some (.cells #[.int .i64 0, .slice none 0 0, .slice none 0 0] 42 (0, 0))) := (hg6.block _ (Array.getElem?_eq_some_iff.1 F9.out).1 (by have := L92.out; simp [Value.ownBlock]; omega)).trans F9.out
                have nl6 := Lib.hid nl6
                have R6 : Hid (wt33.ownsRow w2.heap.size 2 1 (.slice A6 n c6) n (rowL n Z)) := hr6
                clear hr6
                replace hg6 := Lib.hid hg6
                clear F2
                refine hK.out _ _ (HELD _ Kwt33.out) (fun hHeld => ?_)
                clear hK K
                try simp only [Act.put, List.setIfInBounds_toArray, List.set_cons_zero, List.set_cons_succ]
                refine wpAnyH_take (i := 8) (v := .agg #[.int .i64 k, .slice A6 n c6, .slice (some ⟨wt0.heap.size, 0, none⟩) n n]) rfl (by kernel_rfl) (by kernel_rfl) (by kernel_rfl) (fun _ _ _ h => h) (Or.inl ⟨by rfl, fun Wz hW => by obtain ⟨s0, s1⟩ := hW; go_simp⟩) hHeld ?_
                simp only [Act.put, List.getElem_toArray, List.getElem_cons_succ, List.getElem_cons_zero, List.setIfInBounds_toArray, List.set_cons_zero, List.set_cons_succ]
                refine wpAnyH_ready (rs := [10]) (by kernel_rfl) (by simp) ?_
                refine (AllReadyH.cons rfl (fun K hK => ?_) AllReadyH.nil)
                simp only [List.getElem_toArray, List.getElem_cons_succ, List.getElem_cons_zero]
                rw [if_pos (by rfl)]
                obtain ⟨c0, c1, c2, f0⟩ := celN F9.out
                go_simp
                obtain ⟨wt34, hwt34⟩ : ∃ W, W = ((wt33.setCell ⟨wt23.heap.size, 0, none⟩ (.int .i64 k)).setCell ⟨wt23.heap.size, 1, none⟩ (.slice A6 n c6)).setCell ⟨wt23.heap.size, 2, none⟩ (.slice (some ⟨wt0.heap.size, 0, none⟩) n n) := ⟨_, rfl⟩
                have Kwt34 : Hid (Keep w2 wt34) := by rw [hwt34]; have := Kwt23.out.size; exact ((Kwt33.out.set (by show _ ≤ wt23.heap.size; omega) _).set (by show _ ≤ wt23.heap.size; omega) _).set (by show _ ≤ wt23.heap.size; omega) _
                have R7 : Hid (wt34.ownsRow w2.heap.size 2 1 (.slice A6 n c6) n (rowL n Z)) := by rw [hwt34]; exact own_blocks1 R6.out fun g hg => set3_other (row_ne R6.out F9.out (by decide) g hg)
                have G7 : Hid (wt34.heap[wt0.heap.size]? = some (.cells (madeCells #[.int .i64 0] n) 2 (0, 0))) := by rw [hwt34]; exact (set3_other (by have := L79.out; omega)).trans F7.out
                have G9 : Hid (wt34.heap[wt23.heap.size]? = some (.cells #[.int .i64 k, .slice A6 n c6, .slice (some ⟨wt0.heap.size, 0, none⟩) n n] 42 (0, 0))) := by rw [hwt34]; exact set3N F9.out
                clear c0 c1 c2 f0
                rw [← hwt34]
                replace hwt34 := Lib.hid hwt34
                refine hK.out _ _ (HELD _ Kwt34.out) (fun hHeld => ?_)
                clear hK K
                try simp only [Act.put, List.getElem_toArray, List.getElem_cons_succ, List.getElem_cons_zero, List.setIfInBounds_toArray, List.set_cons_zero, List.set_cons_succ]
                refine wpAnyH_done (by kernel_rfl) ?_ _
                go_wp2_with fail
                go_meet
                case rel => exact ⟨wt23.heap.size, wt0.heap.size, A6, c6, rfl, Kwt34.out, G9.out, rd_own R7.out rdA.out.small rdA.out.range, rd_made G7.out (by omega), nl6.out⟩
            · simp only [List.getElem_toArray, List.getElem_cons_succ, List.getElem_cons_zero]
              rw [if_pos (by rfl)]
              go_simp
              obtain ⟨wt35, hwt35⟩ : ∃ W, W = wt0.alloc (.cells #[.int .i64 0, .slice none 0 0, .slice none 0 0] 42) := ⟨_, rfl⟩
              have Jwt35 : Hid (Keep wt0 wt35) := by rw [hwt35]; exact Keep.one _ _
              have Kwt35 : Hid (Keep w2 wt35) := Kwt0.out.trans Jwt35.out
              have F9 : Hid (wt35.heap[wt0.heap.size]? = some (.cells #[.int .i64 0, .slice none 0 0, .slice none 0 0] 42 (0, 0))) := by rw [hwt35]; exact heap_alloc_new _ _
              rw [← hwt35]
              replace hwt35 := Lib.hid hwt35
              refine hK.out _ _ (HELD _ Kwt35.out) (fun hHeld => ?_)
              clear hK K
              try simp only [Act.put, List.getElem_toArray, List.getElem_cons_succ, List.getElem_cons_zero, List.setIfInBounds_toArray, List.set_cons_zero, List.set_cons_succ]
              refine wpAnyH_ready (rs := [2, 7]) (by kernel_rfl) (by simp) ?_
              refine (AllReadyH.cons rfl (fun K hK => ?_) (AllReadyH.cons rfl (fun K hK => ?_) AllReadyH.nil))
              · simp only [List.getElem_toArray, List.getElem_cons_succ, List.getElem_cons_zero]
                rw [if_pos (by rfl)]
                go_simp
                obtain ⟨wt36, hwt36⟩ : ∃ W, W = wt35.alloc (.cells #[] 2) := ⟨_, rfl⟩
                have Jwt36 : Hid (Keep wt35 wt36) := by rw [hwt36]; exact Keep.one _ _
                have Kwt36 : Hid (Keep w2 wt36) := Kwt35.out.trans Jwt36.out
                have L92 : Hid (wt0.heap.size < wt35.heap.size) := (Array.getElem?_eq_some_iff.1 F9.out).1
                replace F9 : Hid (wt36.heap[wt0.heap.size]? = some (.cells #[.int .i64 0, .slice none 0 0, .slice none 0 0] 42 (0, 0))) := Jwt36.out.block F9.out
                have F2 : Hid (wt36.heap[wt35.heap.size]? = some (.cells #[] 2 (0, 0))) := by rw [hwt36]; exact heap_alloc_new _ _
                rw [← hwt36]
                replace hwt36 := Lib.hid hwt36
                refine hK.out _ _ (HELD _ Kwt36.out) (fun hHeld => ?_)
                clear hK K
                try simp only [Act.put, List.getElem_toArray, List.getElem_cons_succ, List.getElem_cons_zero, List.setIfInBounds_toArray, List.set_cons_zero, List.set_cons_succ]
                refine wpAnyH_ready (rs := [5, 7]) (by kernel_rfl) (by simp) ?_
                refine (AllReadyH.cons rfl (fun K hK => ?_) (AllReadyH.cons rfl (fun K hK => ?_) AllReadyH.nil))
                · simp only [List.getElem_toArray, List.getElem_cons_succ, List.getElem_cons_zero]
                  rw [if_pos (by rfl)]
                  refine wp_amounts (.tmp 52) (.tmp 54) rfl w2.heap.size (.slice (some ⟨wt35.heap.size, 0, none⟩) 0 0) (by simp [Act.eval]) (own_none (by have := Kwt35.out.size; omega) F2.out) A n c Z (by simp [Act.eval]) (rdA.out.keep (K2.out.trans Kwt36.out)) nilA.out (by omega) (Kwt36.out.size) ?_
                  intro v6 wt37 hr6 hg6
                  obtain ⟨A6, c6, hv6, nl6⟩ := own_form hr6
                  subst hv6
                  have Jwt37 : Hid (Keep w2 wt37) := keep_grown Kwt36.out hg6 (fun q hq => by simp [Value.ownBlock] at hq; have := Kwt35.out.size; omega)
                  have Kwt37 : Hid (Keep w2 wt37) := Jwt37.out
                  replace F9 : Hid (wt37.heap[wt0.heap.size]? = some (.cells #[.int .i64 0, .slice none 0 0, .slice none 0 0] 42 (0, 0))) := (hg6.block _ (Array.getElem?_eq_some_iff.1 F9.out).1 (by have := L92.out; simp [Value.ownBlock]; omega)).trans F9.out
                  have nl6 := Lib.hid nl6
                  have R6 : Hid (wt37.ownsRow w2.heap.size 2 1 (.slice A6 n c6) n (rowL n Z)) := hr6
                  clear hr6
                  replace hg6 := Lib.hid hg6
                  clear F2
                  refine hK.out _ _ (HELD _ Kwt37.out) (fun hHeld => ?_)
                  clear hK K
                  try simp only [Act.put, List.setIfInBounds_toArray, List.set_cons_zero, List.set_cons_succ]
                  refine wpAnyH_ready (rs := [7]) (by kernel_rfl) (by simp) ?_
                  refine (AllReadyH.cons rfl (fun K hK => ?_) AllReadyH.nil)
                  simp only [List.getElem_toArray, List.getElem_cons_succ, List.getElem_cons_zero]
                  rw [if_pos (by rfl)]
                  go_simp
                  obtain ⟨wt38, hwt38⟩ : ∃ W, W = wt37.alloc (.cells (madeCells #[.int .i64 0] n) 2) := ⟨_, rfl⟩
                  have Jwt38 : Hid (Keep wt37 wt38) := by rw [hwt38]; exact Keep.one _ _
                  have Kwt38 : Hid (Keep w2 wt38) := Kwt37.out.trans Jwt38.out
                  have L97 : Hid (wt0.heap.size < wt37.heap.size) := (Array.getElem?_eq_some_iff.1 F9.out).1
                  replace F9 : Hid (wt38.heap[wt0.heap.size]? = some (.cells #[.int .i64 0, .slice none 0 0, .slice none 0 0] 42 (0, 0))) := Jwt38.out.block F9.out
                  replace R6 : Hid (wt38.ownsRow w2.heap.size 2 1 (.slice A6 n c6) n (rowL n Z)) := own_keep R6.out Jwt38.out
                  have F7 : Hid (wt38.heap[wt37.heap.size]? = some (.cells (madeCells #[.int .i64 0] n) 2 (0, 0))) := by rw [hwt38]; exact heap_alloc_new _ _
                  rw [← hwt38]
                  replace hwt38 := Lib.hid hwt38
                  refine hK.out _ _ (HELD _ Kwt38.out) (fun hHeld => ?_)
                  clear hK K
                  try simp only [Act.put, List.getElem_toArray, List.getElem_cons_succ, List.getElem_cons_zero, List.setIfInBounds_toArray, List.set_cons_zero, List.set_cons_succ]
                  refine wpAnyH_take (i := 8) (v := .agg #[.int .i64 k, .slice A6 n c6, .slice (some ⟨wt37.heap.size, 0, none⟩) n n]) rfl (by kernel_rfl) (by kernel_rfl) (by kernel_rfl) (fun _ _ _ h => h) (Or.inl ⟨by rfl, fun Wz hW => by obtain ⟨s0, s1⟩ := hW; go_simp⟩) hHeld ?_
                  simp only [Act.put, List.getElem_toArray, List.getElem_cons_succ, List.getElem_cons_zero, List.setIfInBounds_toArray, List.set_cons_zero, List.set_cons_succ]
                  refine wpAnyH_ready (rs := [10]) (by kernel_rfl) (by simp) ?_
                  refine (AllReadyH.cons rfl (fun K hK => ?_) AllReadyH.nil)
                  simp only [List.getElem_toArray, List.getElem_cons_succ, List.getElem_cons_zero]
                  rw [if_pos (by rfl)]
                  obtain ⟨c0, c1, c2, f0⟩ := celN F9.out
                  go_simp
                  obtain ⟨wt39, hwt39⟩ : ∃ W, W = ((wt38.setCell ⟨wt0.heap.size, 0, none⟩ (.int .i64 k)).setCell ⟨wt0.heap.size, 1, none⟩ (.slice A6 n c6)).setCell ⟨wt0.heap.size, 2, none⟩ (.slice (some ⟨wt37.heap.size, 0, none⟩) n n) := ⟨_, rfl⟩
                  have Kwt39 : Hid (Keep w2 wt39) := by rw [hwt39]; have := Kwt0.out.size; exact ((Kwt38.out.set (by show _ ≤ wt0.heap.size; omega) _).set (by show _ ≤ wt0.heap.size; omega) _).set (by show _ ≤ wt0.heap.size; omega) _
                  have R7 : Hid (wt39.ownsRow w2.heap.size 2 1 (.slice A6 n c6) n (rowL n Z)) := by rw [hwt39]; exact own_blocks1 R6.out fun g hg => set3_other (row_ne R6.out F9.out (by decide) g hg)
                  have G7 : Hid (wt39.heap[wt37.heap.size]? = some (.cells (madeCells #[.int .i64 0] n) 2 (0, 0))) := by rw [hwt39]; exact (set3_other (by have := L97.out; omega)).trans F7.out
                  have G9 : Hid (wt39.heap[wt0.heap.size]? = some (.cells #[.int .i64 k, .slice A6 n c6, .slice (some ⟨wt37.heap.size, 0, none⟩) n n] 42 (0, 0))) := by rw [hwt39]; exact set3N F9.out
                  clear c0 c1 c2 f0
                  rw [← hwt39]
                  replace hwt39 := Lib.hid hwt39
                  refine hK.out _ _ (HELD _ Kwt39.out) (fun hHeld => ?_)
                  clear hK K
                  try simp only [Act.put, List.getElem_toArray, List.getElem_cons_succ, List.getElem_cons_zero, List.setIfInBounds_toArray, List.set_cons_zero, List.set_cons_succ]
                  refine wpAnyH_done (by kernel_rfl) ?_ _
                  go_wp2_with fail
                  go_meet
                  case rel => exact ⟨wt0.heap.size, wt37.heap.size, A6, c6, rfl, Kwt39.out, G9.out, rd_own R7.out rdA.out.small rdA.out.range, rd_made G7.out (by omega), nl6.out⟩
                · simp only [List.getElem_toArray, List.getElem_cons_succ, List.getElem_cons_zero]
                  rw [if_pos (by rfl)]
                  go_simp
                  obtain ⟨wt40, hwt40⟩ : ∃ W, W = wt36.alloc (.cells (madeCells #[.int .i64 0] n) 2) := ⟨_, rfl⟩
                  have Jwt40 : Hid (Keep wt36 wt40) := by rw [hwt40]; exact Keep.one _ _
                  have Kwt40 : Hid (Keep w2 wt40) := Kwt36.out.trans Jwt40.out
                  have L97 : Hid (wt0.heap.size < wt36.heap.size) := (Array.getElem?_eq_some_iff.1 F9.out).1
                  have L27 : Hid (wt35.heap.size < wt36.heap.size) := (Array.getElem?_eq_some_iff.1 F2.out).1
                  replace F9 : Hid (wt40.heap[wt0.heap.size]? = some (.cells #[.int .i64 0, .slice none 0 0, .slice none 0 0] 42 (0, 0))) := Jwt40.out.block F9.out
                  replace F2 : Hid (wt40.heap[wt35.heap.size]? = some (.cells #[] 2 (0, 0))) := Jwt40.out.block F2.out
                  have F7 : Hid (wt40.heap[wt36.heap.size]? = some (.cells (madeCells #[.int .i64 0] n) 2 (0, 0))) := by rw [hwt40]; exact heap_alloc_new _ _
                  rw [← hwt40]
                  replace hwt40 := Lib.hid hwt40
                  refine hK.out _ _ (HELD _ Kwt40.out) (fun hHeld => ?_)
                  clear hK K
                  try simp only [Act.put, List.getElem_toArray, List.getElem_cons_succ, List.getElem_cons_zero, List.setIfInBounds_toArray, List.set_cons_zero, List.set_cons_succ]
                  refine wpAnyH_ready (rs := [5]) (by kernel_rfl) (by simp) ?_
                  refine (AllReadyH.cons rfl (fun K hK => ?_) AllReadyH.nil)
                  simp only [List.getElem_toArray, List.getElem_cons_succ, List.getElem_cons_zero]
                  rw [if_pos (by rfl)]
                  refine wp_amounts (.tmp 52) (.tmp 54) rfl w2.heap.size (.slice (some ⟨wt35.heap.size, 0, none⟩) 0 0) (by simp [Act.eval]) (own_none (by have := Kwt35.out.size; omega) F2.out) A n c Z (by simp [Act.eval]) (rdA.out.keep (K2.out.trans Kwt40.out)) nilA.out (by omega) (Kwt40.out.size) ?_
                  intro v6 wt41 hr6 hg6
                  obtain ⟨A6, c6, hv6, nl6⟩ := own_form hr6
                  subst hv6
                  have Jwt41 : Hid (Keep w2 wt41) := keep_grown Kwt40.out hg6 (fun q hq => by simp [Value.ownBlock] at hq; have := Kwt35.out.size; omega)
                  have Kwt41 : Hid (Keep w2 wt41) := Jwt41.out
                  replace F9 : Hid (wt41.heap[wt0.heap.size]? = some (.cells #[.int .i64 0, .slice none 0 0, .slice none 0 0] 42 (0, 0))) := (hg6.block _ (Array.getElem?_eq_some_iff.1 F9.out).1 (by have := L92.out; simp [Value.ownBlock]; omega)).trans F9.out
                  replace F7 : Hid (wt41.heap[wt36.heap.size]? = some (.cells (madeCells #[.int .i64 0] n) 2 (0, 0))) := (hg6.block _ (Array.getElem?_eq_some_iff.1 F7.out).1 (by have := L27.out; simp [Value.ownBlock]; omega)).trans F7.out
                  have nl6 := Lib.hid nl6
                  have R6 : Hid (wt41.ownsRow w2.heap.size 2 1 (.slice A6 n c6) n (rowL n Z)) := hr6
                  clear hr6
                  replace hg6 := Lib.hid hg6
                  clear F2
                  refine hK.out _ _ (HELD _ Kwt41.out) (fun hHeld => ?_)
                  clear hK K
                  try simp only [Act.put, List.setIfInBounds_toArray, List.set_cons_zero, List.set_cons_succ]
                  refine wpAnyH_take (i := 8) (v := .agg #[.int .i64 k, .slice A6 n c6, .slice (some ⟨wt36.heap.size, 0, none⟩) n n]) rfl (by kernel_rfl) (by kernel_rfl) (by kernel_rfl) (fun _ _ _ h => h) (Or.inl ⟨by rfl, fun Wz hW => by obtain ⟨s0, s1⟩ := hW; go_simp⟩) hHeld ?_
                  simp only [Act.put, List.getElem_toArray, List.getElem_cons_succ, List.getElem_cons_zero, List.setIfInBounds_toArray, List.set_cons_zero, List.set_cons_succ]
                  refine wpAnyH_ready (rs := [10]) (by kernel_rfl) (by simp) ?_
                  refine (AllReadyH.cons rfl (fun K hK => ?_) AllReadyH.nil)
                  simp only [List.getElem_toArray, List.getElem_cons_succ, List.getElem_cons_zero]
                  rw [if_pos (by rfl)]
                  obtain ⟨c0, c1, c2, f0⟩ := celN F9.out
                  go_simp
                  obtain ⟨wt42, hwt42⟩ : ∃ W, W = ((wt41.setCell ⟨wt0.heap.size, 0, none⟩ (.int .i64 k)).setCell ⟨wt0.heap.size, 1, none⟩ (.slice A6 n c6)).setCell ⟨wt0.heap.size, 2, none⟩ (.slice (some ⟨wt36.heap.size, 0, none⟩) n n) := ⟨_, rfl⟩
                  have Kwt42 : Hid (Keep w2 wt42) := by rw [hwt42]; have := Kwt0.out.size; exact ((Kwt41.out.set (by show _ ≤ wt0.heap.size; omega) _).set (by show _ ≤ wt0.heap.size; omega) _).set (by show _ ≤ wt0.heap.size; omega) _
                  have R7 : Hid (wt42.ownsRow w2.heap.size 2 1 (.slice A6 n c6) n (rowL n Z)) := by rw [hwt42]; exact own_blocks1 R6.out fun g hg => set3_other (row_ne R6.out F9.out (by decide) g hg)
                  have G7 : Hid (wt42.heap[wt36.heap.size]? = some (.cells (madeCells #[.int .i64 0] n) 2 (0, 0))) := by rw [hwt42]; exact (set3_other (by have := L97.out; omega)).trans F7.out
                  have G9 : Hid (wt42.heap[wt0.heap.size]? = some (.cells #[.int .i64 k, .slice A6 n c6, .slice (some ⟨wt36.heap.size, 0, none⟩) n n] 42 (0, 0))) := by rw [hwt42]; exact set3N F9.out
                  clear c0 c1 c2 f0
                  rw [← hwt42]
                  replace hwt42 := Lib.hid hwt42
                  refine hK.out _ _ (HELD _ Kwt42.out) (fun hHeld => ?_)
                  clear hK K
                  try simp only [Act.put, List.getElem_toArray, List.getElem_cons_succ, List.getElem_cons_zero, List.setIfInBounds_toArray, List.set_cons_zero, List.set_cons_succ]
                  refine wpAnyH_done (by kernel_rfl) ?_ _
                  go_wp2_with fail
                  go_meet
                  case rel => exact ⟨wt0.heap.size, wt36.heap.size, A6, c6, rfl, Kwt42.out, G9.out, rd_own R7.out rdA.out.small rdA.out.range, rd_made G7.out (by omega), nl6.out⟩
              · simp only [List.getElem_toArray, List.getElem_cons_succ, List.getElem_cons_zero]
                rw [if_pos (by rfl)]
                go_simp
                obtain ⟨wt43, hwt43⟩ : ∃ W, W = wt35.alloc (.cells (madeCells #[.int .i64 0] n) 2) := ⟨_, rfl⟩
                have Jwt43 : Hid (Keep wt35 wt43) := by rw [hwt43]; exact Keep.one _ _
                have Kwt43 : Hid (Keep w2 wt43) := Kwt35.out.trans Jwt43.out
                have L97 : Hid (wt0.heap.size < wt35.heap.size) := (Array.getElem?_eq_some_iff.1 F9.out).1
                replace F9 : Hid (wt43.heap[wt0.heap.size]? = some (.cells #[.int .i64 0, .slice none 0 0, .slice none 0 0] 42 (0, 0))) := Jwt43.out.block F9.out
                have F7 : Hid (wt43.heap[wt35.heap.size]? = some (.cells (madeCells #[.int .i64 0] n) 2 (0, 0))) := by rw [hwt43]; exact heap_alloc_new _ _
                rw [← hwt43]
                replace hwt43 := Lib.hid hwt43
                refine hK.out _ _ (HELD _ Kwt43.out) (fun hHeld => ?_)
                clear hK K
                try simp only [Act.put, List.getElem_toArray, List.getElem_cons_succ, List.getElem_cons_zero, List.setIfInBounds_toArray, List.set_cons_zero, List.set_cons_succ]
                refine wpAnyH_ready (rs := [2]) (by kernel_rfl) (by simp) ?_
                refine (AllReadyH.cons rfl (fun K hK => ?_) AllReadyH.nil)
                simp only [List.getElem_toArray, List.getElem_cons_succ, List.getElem_cons_zero]
                rw [if_pos (by rfl)]
                go_simp
                obtain ⟨wt44, hwt44⟩ : ∃ W, W = wt43.alloc (.cells #[] 2) := ⟨_, rfl⟩
                have Jwt44 : Hid (Keep wt43 wt44) := by rw [hwt44]; exact Keep.one _ _
                have Kwt44 : Hid (Keep w2 wt44) := Kwt43.out.trans Jwt44.out
                have L92 : Hid (wt0.heap.size < wt43.heap.size) := (Array.getElem?_eq_some_iff.1 F9.out).1
                have L72 : Hid (wt35.heap.size < wt43.heap.size) := (Array.getElem?_eq_some_iff.1 F7.out).1
                replace F9 : Hid (wt44.heap[wt0.heap.size]? = some (.cells #[.int .i64 0, .slice none 0 0, .slice none 0 0] 42 (0, 0))) := Jwt44.out.block F9.out
                replace F7 : Hid (wt44.heap[wt35.heap.size]? = some (.cells (madeCells #[.int .i64 0] n) 2 (0, 0))) := Jwt44.out.block F7.out
                have F2 : Hid (wt44.heap[wt43.heap.size]? = some (.cells #[] 2 (0, 0))) := by rw [hwt44]; exact heap_alloc_new _ _
                rw [← hwt44]
                replace hwt44 := Lib.hid hwt44
                refine hK.out _ _ (HELD _ Kwt44.out) (fun hHeld => ?_)
                clear hK K
                try simp only [Act.put, List.getElem_toArray, List.getElem_cons_succ, List.getElem_cons_zero, List.setIfInBounds_toArray, List.set_cons_zero, List.set_cons_succ]
                refine wpAnyH_ready (rs := [5]) (by kernel_rfl) (by simp) ?_
                refine (AllReadyH.cons rfl (fun K hK => ?_) AllReadyH.nil)
                simp only [List.getElem_toArray, List.getElem_cons_succ, List.getElem_cons_zero]
                rw [if_pos (by rfl)]
                refine wp_amounts (.tmp 52) (.tmp 54) rfl w2.heap.size (.slice (some ⟨wt43.heap.size, 0, none⟩) 0 0) (by simp [Act.eval]) (own_none (by have := Kwt43.out.size; omega) F2.out) A n c Z (by simp [Act.eval]) (rdA.out.keep (K2.out.trans Kwt44.out)) nilA.out (by omega) (Kwt44.out.size) ?_
                intro v6 wt45 hr6 hg6
                obtain ⟨A6, c6, hv6, nl6⟩ := own_form hr6
                subst hv6
                have Jwt45 : Hid (Keep w2 wt45) := keep_grown Kwt44.out hg6 (fun q hq => by simp [Value.ownBlock] at hq; have := Kwt43.out.size; omega)
                have Kwt45 : Hid (Keep w2 wt45) := Jwt45.out
                replace F9 : Hid (wt45.heap[wt0.heap.size]? = some (.cells #[.int .i64 0, .slice none 0 0, .slice none 0 0] 42 (0, 0))) := (hg6.block _ (Array.getElem?_eq_some_iff.1 F9.out).1 (by have := L92.out; simp [Value.ownBlock]; omega)).trans F9.out
                replace F7 : Hid (wt45.heap[wt35.heap.size]? = some (.cells (madeCells #[.int .i64 0] n) 2 (0, 0))) := (hg6.block _ (Array.getElem?_eq_some_iff.1 F7.out).1 (by have := L72.out; simp [Value.ownBlock]; omega)).trans F7.out
                have nl6 := Lib.hid nl6
                have R6 : Hid (wt45.ownsRow w2.heap.size 2 1 (.slice A6 n c6) n (rowL n Z)) := hr6
                clear hr6
                replace hg6 := Lib.hid hg6
                clear F2
                refine hK.out _ _ (HELD _ Kwt45.out) (fun hHeld => ?_)
                clear hK K
                try simp only [Act.put, List.setIfInBounds_toArray, List.set_cons_zero, List.set_cons_succ]
                refine wpAnyH_take (i := 8) (v := .agg #[.int .i64 k, .slice A6 n c6, .slice (some ⟨wt35.heap.size, 0, none⟩) n n]) rfl (by kernel_rfl) (by kernel_rfl) (by kernel_rfl) (fun _ _ _ h => h) (Or.inl ⟨by rfl, fun Wz hW => by obtain ⟨s0, s1⟩ := hW; go_simp⟩) hHeld ?_
                simp only [Act.put, List.getElem_toArray, List.getElem_cons_succ, List.getElem_cons_zero, List.setIfInBounds_toArray, List.set_cons_zero, List.set_cons_succ]
                refine wpAnyH_ready (rs := [10]) (by kernel_rfl) (by simp) ?_
                refine (AllReadyH.cons rfl (fun K hK => ?_) AllReadyH.nil)
                simp only [List.getElem_toArray, List.getElem_cons_succ, List.getElem_cons_zero]
                rw [if_pos (by rfl)]
                obtain ⟨c0, c1, c2, f0⟩ := celN F9.out
                go_simp
                obtain ⟨wt46, hwt46⟩ : ∃ W, W = ((wt45.setCell ⟨wt0.heap.size, 0, none⟩ (.int .i64 k)).setCell ⟨wt0.heap.size, 1, none⟩ (.slice A6 n c6)).setCell ⟨wt0.heap.size, 2, none⟩ (.slice (some ⟨wt35.heap.size, 0, none⟩) n n) := ⟨_, rfl⟩
                have Kwt46 : Hid (Keep w2 wt46) := by rw [hwt46]; have := Kwt0.out.size; exact ((Kwt45.out.set (by show _ ≤ wt0.heap.size; omega) _).set (by show _ ≤ wt0.heap.size; omega) _).set (by show _ ≤ wt0.heap.size; omega) _
                have R7 : Hid (wt46.ownsRow w2.heap.size 2 1 (.slice A6 n c6) n (rowL n Z)) := by rw [hwt46]; exact own_blocks1 R6.out fun g hg => set3_other (row_ne R6.out F9.out (by decide) g hg)
                have G7 : Hid (wt46.heap[wt35.heap.size]? = some (.cells (madeCells #[.int .i64 0] n) 2 (0, 0))) := by rw [hwt46]; exact (set3_other (by have := L97.out; omega)).trans F7.out
                have G9 : Hid (wt46.heap[wt0.heap.size]? = some (.cells #[.int .i64 k, .slice A6 n c6, .slice (some ⟨wt35.heap.size, 0, none⟩) n n] 42 (0, 0))) := by rw [hwt46]; exact set3N F9.out
                clear c0 c1 c2 f0
                rw [← hwt46]
                replace hwt46 := Lib.hid hwt46
                refine hK.out _ _ (HELD _ Kwt46.out) (fun hHeld => ?_)
                clear hK K
                try simp only [Act.put, List.getElem_toArray, List.getElem_cons_succ, List.getElem_cons_zero, List.setIfInBounds_toArray, List.set_cons_zero, List.set_cons_succ]
                refine wpAnyH_done (by kernel_rfl) ?_ _
                go_wp2_with fail
                go_meet
                case rel => exact ⟨wt0.heap.size, wt35.heap.size, A6, c6, rfl, Kwt46.out, G9.out, rd_own R7.out rdA.out.small rdA.out.range, rd_made G7.out (by omega), nl6.out⟩
          case rest =>
            obtain ⟨g, g2, A', c', rfl, Kx, Gx, RA, RU, nA'⟩ := hcut
            have KC : Hid (Keep w1 wc) := K2.out.trans Kx.out
            clear y0 y1 hbl
            obtain ⟨x, hx⟩ : ∃ x : RnV, x = ⟨k, A', n, c', Z, some ⟨g2, 0, none⟩, n, n, fun _ => 0⟩ := ⟨_, rfl⟩
            have Bx : Hid (wc.heap[g]? = some (.cells #[.int .i64 x.k, .slice x.A x.n x.c, .slice x.B x.m x.d] 42 (0, 0))) := by rw [hx]; exact Gx.out
            have ex : Hid (x.k = k) := by rw [hx]; exact rfl
            have isx : Hid (NIs wc n x) := by rw [hx]; exact ⟨rfl, rfl, RA.out, RU.out, nA'.out, fun h => by cases h⟩
            have nx : Hid (node x = ⟨k, Z, fun _ => 0⟩) := by rw [hx]; exact rfl
            have okx : Hid (RnOk x) := ⟨by rw [ex.out]; exact hkr.out, trivial⟩
            have fin2 : Hid (rnCs P (jp + 1) ++ x.cells ++ rnCs (fun t => P ((jp + 1) + t)) (N - (jp + 1)) = rnCs (row (insL x (lst P N))) (N + 1)) := ins_row (by omega) (by rw [hlst.out]; exact hs.out) (fun t h1 h2 => (bef_iff _ _).2 (by rw [ex.out]; exact CM.out t (by omega) h2)) (Or.inr ((bef_no _ _).2 (by rw [ex.out]; show ¬ k < (P jp).k; rw [← hyP.out, ← hyk.out]; omega)))
            have fin3 : Hid (∀ (B5 : Option Addr) (d5 : Nat) (w5 : World), Keep wc w5 → w5.ownsRow wc.heap.size 42 3 (.slice B5 (N + 1) d5) (N + 1) (rnCs (row (insL x (lst P N))) (N + 1)) → ∃ B' c' l', Ending.returned (.tuple #[.slice B5 (N + 1 : Nat) d5, .int .i64 0, .int .i64 0]) = .returned (.tuple #[.slice B' l'.length c', .int .i64 0, .int .i64 0]) ∧ Keep w w5 ∧ RL w5 n B' c' l' ∧ l'.map node = G.ins NodeV.k ⟨k, Z, fun _ => 0⟩ (l.map node)) := fun B5 d5 w5 k5 ho => radd_end H.out x isx.out okx.out nx.out (KW.out.trans KC.out) k5 hN.out hlst.out (by omega) ho
            obtain ⟨x0, x1, x2, _⟩ := celN Bx.out
            have hbl := cell_lt x0
            clear hx Kx Gx RA RU nA'
            go_wp2_with fail
            go_region_law (first
              | (refine step_own Tryz.tyN12 rfl (.tmp 59) (.tmp 62) rfl wc.heap.size (.slice (some ⟨wc.heap.size, 0, none⟩) 0 0) 0 [] (by simp [Act.eval]) (own_empty (by omega) (heap_alloc_new _ _)) (.slice (some ⟨b, off, none⟩) (jp + 1) cp) (jp + 1) (rnCs P (jp + 1)) (by simp [Act.eval]) (src_lo CA.out hji (KC.out.trans (by repeat (first | exact Keep.refl _ | apply Keep.alloc | apply Keep.drew)))) (rnCs_one _ _) (by omega) (by simp <;> omega) _ (Nat.zero_add _) ?_; intro v3 w3 hr3 hg3; have K3 : Hid (Keep wc w3) := keep_grown (by repeat (first | exact Keep.refl _ | apply Keep.alloc | apply Keep.drew)) hg3 (fun q hq => by simp [Value.ownBlock] at hq; omega); have z0 := K3.out.cell x0; have z1 := K3.out.cell x1; have z2 := K3.out.cell x2; simp only [List.nil_append] at hr3; replace hr3 := Lib.hid hr3; replace hg3 := Lib.hid hg3)
              | (refine step_own Tryz.tyN12 rfl (.tmp 59) (.tmp 62) rfl wc.heap.size (.slice (some ⟨wc.heap.size, 0, none⟩) 0 0) 0 [] (by simp [Act.eval]) (own_empty (by omega) (hp1 _ _ _ _)) (.slice (some ⟨b, off, none⟩) (jp + 1) cp) (jp + 1) (rnCs P (jp + 1)) (by simp [Act.eval]) (src_lo CA.out hji (KC.out.trans (by repeat (first | exact Keep.refl _ | apply Keep.alloc | apply Keep.drew)))) (rnCs_one _ _) (by omega) (by simp <;> omega) _ (Nat.zero_add _) ?_; intro v3 w3 hr3 hg3; have K3 : Hid (Keep wc w3) := keep_grown (by repeat (first | exact Keep.refl _ | apply Keep.alloc | apply Keep.drew)) hg3 (fun q hq => by simp [Value.ownBlock] at hq; omega); have z0 := K3.out.cell x0; have z1 := K3.out.cell x1; have z2 := K3.out.cell x2; have B3 : Hid (w3.heap[wc.heap.size + 1]? = some (.cells #[.int .i64 x.k, .slice x.A x.n x.c, .slice x.B x.m x.d] 42 (0, 0))) := (hg3.block (wc.heap.size + 1) (by simp) (by simp [Value.ownBlock])).trans (hp2 _ _ _ _); simp only [List.nil_append] at hr3; replace hr3 := Lib.hid hr3; replace hg3 := Lib.hid hg3)
              | (refine step_own Tryz.tyN12 rfl (.tmp 59) (.tmp 62) rfl wc.heap.size (.slice (some ⟨wc.heap.size + 1, 0, none⟩) 0 0) 0 [] (by simp [Act.eval]) (own_empty (by omega) (hp2 _ _ _ _)) (.slice (some ⟨b, off, none⟩) (jp + 1) cp) (jp + 1) (rnCs P (jp + 1)) (by simp [Act.eval]) (src_lo CA.out hji (KC.out.trans (by repeat (first | exact Keep.refl _ | apply Keep.alloc | apply Keep.drew)))) (rnCs_one _ _) (by omega) (by simp <;> omega) _ (Nat.zero_add _) ?_; intro v3 w3 hr3 hg3; have K3 : Hid (Keep wc w3) := keep_grown (by repeat (first | exact Keep.refl _ | apply Keep.alloc | apply Keep.drew)) hg3 (fun q hq => by simp [Value.ownBlock] at hq; omega); have z0 := K3.out.cell x0; have z1 := K3.out.cell x1; have z2 := K3.out.cell x2; have B3 : Hid (w3.heap[wc.heap.size]? = some (.cells #[.int .i64 x.k, .slice x.A x.n x.c, .slice x.B x.m x.d] 42 (0, 0))) := (hg3.block wc.heap.size (by simp <;> omega) (by simp [Value.ownBlock])).trans (hp1 _ _ _ _); simp only [List.nil_append] at hr3; replace hr3 := Lib.hid hr3; replace hg3 := Lib.hid hg3)
              | (refine step_own Tryz.tyN12 rfl (.tmp 63) (.tmp 65) rfl wc.heap.size v3 (jp + 1) (rnCs P (jp + 1)) (by simp [Act.eval]) (hr3.out) (.slice (some ⟨wc.heap.size + 1, 0, none⟩) 1 1) 1 x.cells (by simp [Act.eval]) (src_one B3.out) (cells_one _) (by omega) (by have := K3.out.size; simp <;> omega) _ rfl ?_; intro v4 w4 hr4 hg4; have K4 : Hid (Keep wc w4) := keep_grown (K3.out) hg4 (fun q hq => (hr3.out.lt q hq).1); replace hr4 := Lib.hid hr4; replace hg4 := Lib.hid hg4)
              | (refine step_own Tryz.tyN12 rfl (.tmp 63) (.tmp 65) rfl wc.heap.size v3 (jp + 1) (rnCs P (jp + 1)) (by simp [Act.eval]) (hr3.out) (.slice (some ⟨wc.heap.size, 0, none⟩) 1 1) 1 x.cells (by simp [Act.eval]) (src_one B3.out) (cells_one _) (by omega) (by have := K3.out.size; simp <;> omega) _ rfl ?_; intro v4 w4 hr4 hg4; have K4 : Hid (Keep wc w4) := keep_grown (K3.out) hg4 (fun q hq => (hr3.out.lt q hq).1); replace hr4 := Lib.hid hr4; replace hg4 := Lib.hid hg4)
              | (refine step_own Tryz.tyN12 rfl (.tmp 63) (.tmp 65) rfl wc.heap.size v3 (jp + 1) (rnCs P (jp + 1)) (by simp [Act.eval]) (own_keep hr3.out (Keep.one _ _)) (.slice (some ⟨w3.heap.size, 0, none⟩) 1 1) 1 x.cells (by simp [Act.eval]) (src_one (heap_alloc_new _ _)) (cells_one _) (by omega) (by have := K3.out.size; simp <;> omega) _ rfl ?_; intro v4 w4 hr4 hg4; have K4 : Hid (Keep wc w4) := keep_grown (K3.out.trans (Keep.one _ _)) hg4 (fun q hq => (hr3.out.lt q hq).1); replace hr4 := Lib.hid hr4; replace hg4 := Lib.hid hg4)
              | (refine step_own Tryz.tyN12 rfl (.tmp 66) (.tmp 69) rfl wc.heap.size v4 (jp + 1 + 1) (rnCs P (jp + 1) ++ x.cells) (by simp [Act.eval]) hr4.out (.slice (if cp = jp + 1 then some ⟨b, off, none⟩ else some ⟨b, off + (jp + 1) * 3, none⟩) (N - (jp + 1)) (cp - (jp + 1))) (N - (jp + 1)) (rnCs (fun t => P ((jp + 1) + t)) (N - (jp + 1))) (by simp [Act.eval]) (src_hi CA.out hji hLen (KC.out.trans K4.out)) (rnCs_one _ _) (by omega) (by have := K4.out.size; simp <;> omega) (N + 1) (by omega) ?_; intro v5 w5 hr5 hg5; have K5 : Hid (Keep wc w5) := keep_grown K4.out hg5 (fun q hq => (hr4.out.lt q hq).1); replace hg5 := Lib.hid hg5; obtain ⟨B5, d5, hv5, _⟩ := own_form hr5; subst hv5; replace hr5 := Lib.hid hr5))
            all_goals
              have RF : Hid (w5.ownsRow wc.heap.size 42 3 (.slice B5 (N + 1) d5) (N + 1) (rnCs (row (insL x (lst P N))) (N + 1))) := by
                show World.ownsRow _ _ _ _ _ _ _
                rw [← fin2.out]
                exact hr5.out
              go_wp2
              all_goals
                go_ret3
                exact fin3.out B5 d5 w5 K5.out RF.out
end Go.Proofs.YtokopegffeablaaGreatDoor.T12
