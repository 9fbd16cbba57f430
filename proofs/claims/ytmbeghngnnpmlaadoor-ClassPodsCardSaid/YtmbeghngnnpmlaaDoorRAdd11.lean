/-
  The reference's Add. Conditions: at most 1000 pairs, sorted.
-/
import Derived.Test.YtmbeghngnnpmlaaDoorRef11
namespace Go.Proofs.YtmbeghngnnpmlaaDoor.T11
open Go.RowKit Go.Sort Go.Lib

theorem cel_laid (w : World) (x : ClV) (T : TypeId) (cs : Array Value) (h : cs = #[.int .i64 x.k, .int .i64 x.p, .bool x.f]) : Cel3 (w.alloc (.cells cs T)) w.heap.size 0 x := by
  subst h
  constructor <;> simp [World.cell?_alloc_new]
theorem hp2 (w : World) (o : Obj) (cs : Array Value) (T : TypeId) : ((w.alloc o).alloc (.cells cs T)).heap[w.heap.size + 1]? = some (.cells cs T (0, 0)) := by
  have := heap_alloc_new (w.alloc o) (.cells cs T)
  rwa [World.size_alloc] at this
theorem hp1 (w : World) (o : Obj) (cs : Array Value) (T : TypeId) : ((w.alloc (.cells cs T)).alloc o).heap[w.heap.size]? = some (.cells cs T (0, 0)) := (Keep.one _ _).block (heap_alloc_new w _)
section
variable {w W : World} {b off n c : Nat} {P : Nat → ClV}
theorem src_lo (h : ∀ j, j < n → Cel3 w b (off + j * 3) (P j)) {i : Nat} (hi : i ≤ n) (k : Keep w W) : SrcC W (.slice (some ⟨b, off, none⟩) i c) i (clCs P i) :=
  src_part (off := off) (i := 0) (fun j hj => by rw [Nat.zero_add]; exact (h j (by omega)).keep k) off (Or.inr (by omega))
theorem src_hi (h : ∀ j, j < n → Cel3 w b (off + j * 3) (P j)) {i : Nat} (hi : i ≤ n) (hc : n ≤ c) (k : Keep w W) : SrcC W (.slice (if c = i then some ⟨b, off, none⟩ else some ⟨b, off + i * 3, none⟩) (n - i) (c - i)) (n - i) (clCs (fun t => P (i + t)) (n - i)) := by
  by_cases he : c = i
  · rw [if_pos he]
    exact src_part (off := off) (i := i) (fun j hj => (h (i + j) (by omega)).keep k) off (Or.inl (by omega))
  · rw [if_neg he]
    exact src_part (off := off) (i := i) (fun j hj => (h (i + j) (by omega)).keep k) _ (Or.inr rfl)
theorem src_all (h : ∀ j, j < n → Cel3 w b (off + j * 3) (P j)) (k : Keep w W) : SrcC W (.slice (some ⟨b, off, none⟩) n c) (n - 0) (clCs (fun t => P (0 + t)) (n - 0)) := by
  have := src_lo (c := c) h (Nat.le_refl n) k
  rw [Nat.sub_zero, clCs_congr (R := P) n (fun t _ => by rw [Nat.zero_add])]
  exact this
end
/-- Where a slice lies: nowhere, with no room, or plainly in a block. -/
def Pl (A : Option Addr) (n c : Nat) : Prop := (A = none ∧ n = 0 ∧ c = 0) ∨ ∃ b off, A = some ⟨b, off, none⟩
/-- What the reference's list is behind an operation. -/
structure RList (w w' : World) (B : Option Addr) (d : Nat) (L : List ClV) : Prop where
  keep : Keep w w'
  rd : RdC w' B L.length (row L)
  pl : Pl B L.length d
  cap : L.length ≤ d
theorem own_rlist {w w' : World} {B : Option Addr} {d : Nat} {L : List ClV} {e : TypeId} (k : Keep w w') (h : w'.ownsRow w.heap.size e 3 (.slice B L.length d) L.length (clCs (row L) L.length)) (hl : L.length ≤ 1048576) (hi : ∀ x ∈ L, ClOk x) : RList w w' B d L := by
  refine ⟨k, rows_rd h (by omega) (row_ok hi), ?_, own_cap h⟩
  rcases h.2 with ⟨hv, h0⟩ | ⟨g, cap, cur, hv, _⟩
  · simp only [Value.slice.injEq] at hv
    exact Or.inl ⟨hv.1, h0, hv.2.2⟩
  · simp only [Value.slice.injEq] at hv
    exact Or.inr ⟨g, 0, hv.1⟩
set_option maxRecDepth 100000 in
set_option maxHeartbeats 16000000 in
theorem radd_dup (A : Option Addr) (n c : Nat) (P : Nat → ClV) (x : ClV) (s : Int) (w : World) (hR : RdC w A n P) (hA : Pl A n c) (hc : n ≤ c) (hk : x.k ∈ keys (lst P n)) :
    Calls Tryd.prog 10 #[.slice A n c, .int .i64 s, x.val] w fun e w' => ∃ B d, e = .returned (.tuple #[.slice B n d, .int .i64 6]) ∧ RList w w' B d (lst P n) := by
  have el : (lst P n).length = n := lst_len P n
  have cF := Lib.hid (rfind_fn A n c P x.k (w.alloc (.cells #[.int .i64 x.k, .int .i64 x.p, .bool x.f] 30)) (hR.keep (Keep.one _ _)))
  have fk := find_iff (P := P) (id := x.k) (n := n)
  obtain ⟨r, hr⟩ : ∃ r, r = findN P x.k n := ⟨_, rfl⟩
  rw [← hr] at cF fk
  replace hr := Lib.hid hr
  have hin : 0 ≤ r := fk.2 hk
  have fin : Hid (RList w (w.alloc (.cells #[.int .i64 x.k, .int .i64 x.p, .bool x.f] 30)) A c (lst P n)) := ⟨Keep.one _ _, by rw [el]; exact (hR.keep (Keep.one _ _)).congr (fun j hj => (row_lst hj).symm), by rw [el]; exact hA, by rw [el]; exact hc⟩
  replace el := Lib.hid el
  replace fk := Lib.hid fk
  clear hR hA
  unfold ClV.val
  go_enter Tryd.func10, Tryd.ntmps10
  go_wp2_with fail
  refine cF.out.mono ?_
  rintro e w1 ⟨rfl, rfl⟩
  clear cF
  go_wp2
  go_ret2
  exact ⟨A, c, rfl, fin.out⟩
set_option maxRecDepth 100000 in
set_option maxHeartbeats 16000000 in
theorem radd_full (A : Option Addr) (n c : Nat) (P : Nat → ClV) (x : ClV) (s : Int) (w : World) (hR : RdC w A n P) (hA : Pl A n c) (hc : n ≤ c) (hk : x.k ∉ keys (lst P n)) (hf : s ≤ (n : Int)) :
    Calls Tryd.prog 10 #[.slice A n c, .int .i64 s, x.val] w fun e w' => ∃ B d, e = .returned (.tuple #[.slice B n d, .int .i64 7]) ∧ RList w w' B d (lst P n) := by
  have el : (lst P n).length = n := lst_len P n
  have cF := Lib.hid (rfind_fn A n c P x.k (w.alloc (.cells #[.int .i64 x.k, .int .i64 x.p, .bool x.f] 30)) (hR.keep (Keep.one _ _)))
  have fk := find_iff (P := P) (id := x.k) (n := n)
  obtain ⟨r, hr⟩ : ∃ r, r = findN P x.k n := ⟨_, rfl⟩
  rw [← hr] at cF fk
  replace hr := Lib.hid hr
  have hin : r < 0 := by have := mt fk.1 hk; omega
  have fin : Hid (RList w (w.alloc (.cells #[.int .i64 x.k, .int .i64 x.p, .bool x.f] 30)) A c (lst P n)) := ⟨Keep.one _ _, by rw [el]; exact (hR.keep (Keep.one _ _)).congr (fun j hj => (row_lst hj).symm), by rw [el]; exact hA, by rw [el]; exact hc⟩
  replace el := Lib.hid el
  replace fk := Lib.hid fk
  clear hR hA
  unfold ClV.val
  go_enter Tryd.func10, Tryd.ntmps10
  go_wp2_with fail
  refine cF.out.mono ?_
  rintro e w1 ⟨rfl, rfl⟩
  clear cF
  go_wp2
  go_ret2
  exact ⟨A, c, rfl, fin.out⟩
set_option maxRecDepth 100000 in
set_option maxHeartbeats 16000000 in
theorem radd_new (A : Option Addr) (n c : Nat) (P : Nat → ClV) (x : ClV) (s : Int) (w : World) (hR : RdC w A n P) (hA : Pl A n c) (hc : n ≤ c) (hn : n ≤ 1000) (hx : ClOk x) (hs : Srt (lst P n)) (hk : x.k ∉ keys (lst P n)) (hf : (n : Int) < s) :
    Calls Tryd.prog 10 #[.slice A n c, .int .i64 s, x.val] w fun e w' => ∃ B d, e = .returned (.tuple #[.slice B (n + 1) d, .int .i64 0]) ∧ RList w w' B d (insL x (lst P n)) := by
  have mixed : Tryd.prog.follows .mixedOrders = true := by kernel_rfl
  have cF := Lib.hid (rfind_fn A n c P x.k (w.alloc (.cells #[.int .i64 x.k, .int .i64 x.p, .bool x.f] 30)) (hR.keep (Keep.one _ _)))
  have fk := find_iff (P := P) (id := x.k) (n := n)
  obtain ⟨r, hr⟩ : ∃ r, r = findN P x.k n := ⟨_, rfl⟩
  rw [← hr] at cF fk
  replace hr := Lib.hid hr
  have okP := Lib.hid (lst_ok hR.ok)
  have hx := Lib.hid hx
  unfold ClV.val
  have el : (insL x (lst P n)).length = n + 1 := by rw [ins_len, lst_len]
  have fin3 : Hid (∀ (B : Option Addr) (d : Nat) (w' : World), Keep w w' → w'.ownsRow w.heap.size 30 3 (.slice B (n + 1) d) (n + 1) (clCs (row (insL x (lst P n))) (n + 1)) → ∃ B' d', Ending.returned (.tuple #[.slice B (n + 1) d, .int .i64 0]) = .returned (.tuple #[.slice B' (n + 1) d', .int .i64 0]) ∧ RList w w' B' d' (insL x (lst P n))) := fun B d w' k h => by
    refine ⟨B, d, rfl, ?_⟩
    rw [← el] at h
    exact own_rlist k h (by omega) (fun y hy => by
      rcases ins_mem.1 hy with rfl | hy
      · exact hx.out
      · exact okP.out y hy)
  have hin2 : r < 0 := by have := mt fk.1 hk; omega
  have hfs : ¬ s ≤ (n : Int) := by omega
  replace el := Lib.hid el
  replace fk := Lib.hid fk
  replace hs := Lib.hid hs
  replace hk := Lib.hid hk
  obtain ⟨W, hW⟩ : ∃ W, W = w.alloc (.cells #[.int .i64 x.k, .int .i64 x.p, .bool x.f] 30) := ⟨_, rfl⟩
  have KW : Hid (Keep w W) := by rw [hW]; exact Keep.one _ _
  have X : Cel3 W w.heap.size 0 x := by rw [hW]; exact cel_laid w x _ _ rfl
  have RW := hR.keep KW.out
  clear hR
  replace KW := Lib.hid KW.out
  go_enter Tryd.func10, Tryd.ntmps10
  go_wp2_with fail
  refine cF.out.mono ?_
  rintro e w1 ⟨rfl, rfl⟩
  clear cF
  rw [← hW]
  replace hW := Lib.hid hW
  rcases hA with ⟨rfl, rfl, rfl⟩ | ⟨b, off, rfl⟩
  · replace RW := Lib.hid RW
    have fin2 : Hid (clCs P 0 ++ x.cells ++ clCs (fun t => P (0 + t)) (0 - 0) = clCs (row (insL x (lst P 0))) (0 + 1)) := ins_row (Nat.le_refl _) hs.out (fun t h1 h2 => absurd h2 (by omega)) (Or.inl rfl)
    obtain ⟨n, hn0⟩ : ∃ n, n = 0 := ⟨_, rfl⟩
    go_wp2
    go_loopg [8] 0 (fun gx s8 wr => s8 = .int .i64 0 ∧ Hid (Gr W wr))
    case atStart => exact ⟨rfl, Gr.refl _⟩
    case round =>
      obtain ⟨rfl, GQ⟩ := hrel
      go_wp2_with fail
      go_quiet (fail)
      have G2 : Hid (Gr W (wr.drewN nq)) := GQ.out.drewN nq
      generalize wr.drewN nq = w2 at G2 ⊢
      have GK : Hid (Keep w W) := KW
      have K2 : Hid (Keep W w2) := G2.out.keep
      have X3 := X.keep K2.out
      have hbl := cell_lt X3.e0; have x0 := X3.e0; have x1 := X3.e1; have x2 := X3.e2
      clear X3
      go_wp2_with fail
      go_region_law (first
        | (refine step_own Tryd.tyC11 rfl (.tmp 37) (.tmp 40) rfl w2.heap.size (.slice (some ⟨w2.heap.size, 0, none⟩) 0 0) 0 [] (by simp [Act.eval]) (own_empty (by omega) (heap_alloc_new _ _)) (.slice none 0 0) (0) (clCs P (0)) (by simp [Act.eval]) ((fun (_ : Keep W _) => (.inl ⟨rfl, rfl, rfl⟩ : SrcC _ _ _ _)) (K2.out.trans (by repeat (first | exact Keep.refl _ | apply Keep.alloc | apply Keep.drew)))) (clCs_one _ _) (by omega) (by simp <;> omega) _ (Nat.zero_add _) ?_; intro v3 w3 hr3 hg3; have K3 : Hid (Keep w2 w3) := keep_grown (by repeat (first | exact Keep.refl _ | apply Keep.alloc | apply Keep.drew)) hg3 (fun q hq => by simp [Value.ownBlock] at hq; omega); have z0 := K3.out.cell x0; have z1 := K3.out.cell x1; have z2 := K3.out.cell x2; simp only [List.nil_append] at hr3; replace hr3 := Lib.hid hr3; replace hg3 := Lib.hid hg3)
        | (refine step_own Tryd.tyC11 rfl (.tmp 37) (.tmp 40) rfl w2.heap.size (.slice (some ⟨w2.heap.size, 0, none⟩) 0 0) 0 [] (by simp [Act.eval]) (own_empty (by omega) (hp1 _ _ _ _)) (.slice none 0 0) (0) (clCs P (0)) (by simp [Act.eval]) ((fun (_ : Keep W _) => (.inl ⟨rfl, rfl, rfl⟩ : SrcC _ _ _ _)) (K2.out.trans (by repeat (first | exact Keep.refl _ | apply Keep.alloc | apply Keep.drew)))) (clCs_one _ _) (by omega) (by simp <;> omega) _ (Nat.zero_add _) ?_; intro v3 w3 hr3 hg3; have K3 : Hid (Keep w2 w3) := keep_grown (by repeat (first | exact Keep.refl _ | apply Keep.alloc | apply Keep.drew)) hg3 (fun q hq => by simp [Value.ownBlock] at hq; omega); have z0 := K3.out.cell x0; have z1 := K3.out.cell x1; have z2 := K3.out.cell x2; have B3 : Hid (w3.heap[w2.heap.size + 1]? = some (.cells #[.int .i64 x.k, .int .i64 x.p, .bool x.f] 30 (0, 0))) := (hg3.block (w2.heap.size + 1) (by simp) (by simp [Value.ownBlock])).trans (hp2 _ _ _ _); simp only [List.nil_append] at hr3; replace hr3 := Lib.hid hr3; replace hg3 := Lib.hid hg3)
        | (refine step_own Tryd.tyC11 rfl (.tmp 37) (.tmp 40) rfl w2.heap.size (.slice (some ⟨w2.heap.size + 1, 0, none⟩) 0 0) 0 [] (by simp [Act.eval]) (own_empty (by omega) (hp2 _ _ _ _)) (.slice none 0 0) (0) (clCs P (0)) (by simp [Act.eval]) ((fun (_ : Keep W _) => (.inl ⟨rfl, rfl, rfl⟩ : SrcC _ _ _ _)) (K2.out.trans (by repeat (first | exact Keep.refl _ | apply Keep.alloc | apply Keep.drew)))) (clCs_one _ _) (by omega) (by simp <;> omega) _ (Nat.zero_add _) ?_; intro v3 w3 hr3 hg3; have K3 : Hid (Keep w2 w3) := keep_grown (by repeat (first | exact Keep.refl _ | apply Keep.alloc | apply Keep.drew)) hg3 (fun q hq => by simp [Value.ownBlock] at hq; omega); have z0 := K3.out.cell x0; have z1 := K3.out.cell x1; have z2 := K3.out.cell x2; have B3 : Hid (w3.heap[w2.heap.size]? = some (.cells #[.int .i64 x.k, .int .i64 x.p, .bool x.f] 30 (0, 0))) := (hg3.block w2.heap.size (by simp <;> omega) (by simp [Value.ownBlock])).trans (hp1 _ _ _ _); simp only [List.nil_append] at hr3; replace hr3 := Lib.hid hr3; replace hg3 := Lib.hid hg3)
        | (refine step_own Tryd.tyC11 rfl (.tmp 41) (.tmp 43) rfl w2.heap.size v3 (0) (clCs P (0)) (by simp [Act.eval]) (hr3.out) (.slice (some ⟨w2.heap.size + 1, 0, none⟩) 1 1) 1 x.cells (by simp [Act.eval]) (src_one B3.out) (cells_one _) (by omega) (by have := K3.out.size; simp <;> omega) _ rfl ?_; intro v4 w4 hr4 hg4; have K4 : Hid (Keep w2 w4) := keep_grown (K3.out) hg4 (fun q hq => (hr3.out.lt q hq).1); replace hr4 := Lib.hid hr4; replace hg4 := Lib.hid hg4)
        | (refine step_own Tryd.tyC11 rfl (.tmp 41) (.tmp 43) rfl w2.heap.size v3 (0) (clCs P (0)) (by simp [Act.eval]) (hr3.out) (.slice (some ⟨w2.heap.size, 0, none⟩) 1 1) 1 x.cells (by simp [Act.eval]) (src_one B3.out) (cells_one _) (by omega) (by have := K3.out.size; simp <;> omega) _ rfl ?_; intro v4 w4 hr4 hg4; have K4 : Hid (Keep w2 w4) := keep_grown (K3.out) hg4 (fun q hq => (hr3.out.lt q hq).1); replace hr4 := Lib.hid hr4; replace hg4 := Lib.hid hg4)
        | (refine step_own Tryd.tyC11 rfl (.tmp 41) (.tmp 43) rfl w2.heap.size v3 (0) (clCs P (0)) (by simp [Act.eval]) (own_keep hr3.out (Keep.one _ _)) (.slice (some ⟨w3.heap.size, 0, none⟩) 1 1) 1 x.cells (by simp [Act.eval]) (src_one (heap_alloc_new _ _)) (cells_one _) (by omega) (by have := K3.out.size; simp <;> omega) _ rfl ?_; intro v4 w4 hr4 hg4; have K4 : Hid (Keep w2 w4) := keep_grown (K3.out.trans (Keep.one _ _)) hg4 (fun q hq => (hr3.out.lt q hq).1); replace hr4 := Lib.hid hr4; replace hg4 := Lib.hid hg4)
        | (refine step_own Tryd.tyC11 rfl (.tmp 44) (.tmp 47) rfl w2.heap.size v4 (0 + 1) (clCs P (0) ++ x.cells) (by simp [Act.eval]) hr4.out (.slice none 0 0) (0 - (0)) (clCs (fun t => P ((0) + t)) (0 - (0))) (by simp [Act.eval]) ((fun (_ : Keep W _) => (.inl ⟨rfl, rfl, rfl⟩ : SrcC _ _ _ _)) (K2.out.trans K4.out)) (clCs_one _ _) (by omega) (by have := K4.out.size; simp <;> omega) (0 + 1) (by omega) ?_; intro v5 w5 hr5 hg5; have K5 : Hid (Keep w2 w5) := keep_grown K4.out hg5 (fun q hq => (hr4.out.lt q hq).1); replace hg5 := Lib.hid hg5; obtain ⟨B5, d5, hv5, _⟩ := own_form hr5; subst hv5; replace hr5 := Lib.hid hr5))
      all_goals
        have GF : Hid (Keep w w5) := GK.out.trans (K2.out.trans K5.out)
        have RF : Hid (w5.ownsRow w.heap.size 30 3 (.slice B5 (0 + 1) d5) (0 + 1) (clCs (row (insL x (lst P 0))) (0 + 1))) := by
          show World.ownsRow _ _ _ _ _ _ _
          rw [← fin2.out]
          exact own_base hr5.out (GK.out.trans K2.out).size
        go_wp2
        all_goals
          go_ret2
          exact fin3.out B5 d5 w5 GF.out RF.out
  have CA : Hid (∀ j, j < n → Cel3 W b (off + j * 3) (P j)) := fun j hj => by
    obtain ⟨b', off', e', ca⟩ := RW.adr (by omega)
    have e2 := Option.some.inj e'
    simp only [Addr.mk.injEq, and_true] at e2
    rw [e2.1, e2.2]
    exact ca j hj
  replace RW := Lib.hid RW
  go_wp2
  go_loopg [8] n (fun gx s8 wr => ∃ j : Nat, s8 = .int .i64 j ∧ j ≤ n ∧ j = gx ∧ Hid (Gr W wr) ∧ Hid (∀ t, j ≤ t → t < n → x.k < (P t).k))
  case atStart => exact ⟨n, rfl, Nat.le_refl _, rfl, Gr.refl _, fun t h1 h2 => absurd h2 (by omega)⟩
  case round =>
    obtain ⟨j, rfl, hji, rfl, GQ, CM⟩ := hrel
    have X2 := X.keep GQ.out.keep
    have GK : Hid (Keep w W) := KW
    rcases Nat.eq_zero_or_pos j with rfl | hj0
    · have fin2 : Hid (clCs P 0 ++ x.cells ++ clCs (fun t => P (0 + t)) (n - 0) = clCs (row (insL x (lst P n))) (n + 1)) := ins_row hji hs.out (fun t h1 h2 => (bef_iff _ _).2 (CM.out t h1 h2)) (Or.inl rfl)
      clear X2
      go_wp2_with fail
      go_quiet (fail)
      have G2 : Hid (Gr W (wr.drewN nq)) := GQ.out.drewN nq
      generalize wr.drewN nq = w2 at G2 ⊢
      have K2 : Hid (Keep W w2) := G2.out.keep
      have X3 := X.keep K2.out
      have hbl := cell_lt X3.e0; have x0 := X3.e0; have x1 := X3.e1; have x2 := X3.e2
      clear X3
      go_wp2_with fail
      go_region_law (first
        | (refine step_own Tryd.tyC11 rfl (.tmp 37) (.tmp 40) rfl w2.heap.size (.slice (some ⟨w2.heap.size, 0, none⟩) 0 0) 0 [] (by simp [Act.eval]) (own_empty (by omega) (heap_alloc_new _ _)) (.slice (some ⟨b, off, none⟩) 0 c) (0) (clCs P (0)) (by simp [Act.eval]) (src_lo CA.out (Nat.zero_le _) (K2.out.trans (by repeat (first | exact Keep.refl _ | apply Keep.alloc | apply Keep.drew)))) (clCs_one _ _) (by omega) (by simp <;> omega) _ (Nat.zero_add _) ?_; intro v3 w3 hr3 hg3; have K3 : Hid (Keep w2 w3) := keep_grown (by repeat (first | exact Keep.refl _ | apply Keep.alloc | apply Keep.drew)) hg3 (fun q hq => by simp [Value.ownBlock] at hq; omega); have z0 := K3.out.cell x0; have z1 := K3.out.cell x1; have z2 := K3.out.cell x2; simp only [List.nil_append] at hr3; replace hr3 := Lib.hid hr3; replace hg3 := Lib.hid hg3)
        | (refine step_own Tryd.tyC11 rfl (.tmp 37) (.tmp 40) rfl w2.heap.size (.slice (some ⟨w2.heap.size, 0, none⟩) 0 0) 0 [] (by simp [Act.eval]) (own_empty (by omega) (hp1 _ _ _ _)) (.slice (some ⟨b, off, none⟩) 0 c) (0) (clCs P (0)) (by simp [Act.eval]) (src_lo CA.out (Nat.zero_le _) (K2.out.trans (by repeat (first | exact Keep.refl _ | apply Keep.alloc | apply Keep.drew)))) (clCs_one _ _) (by omega) (by simp <;> omega) _ (Nat.zero_add _) ?_; intro v3 w3 hr3 hg3; have K3 : Hid (Keep w2 w3) := keep_grown (by repeat (first | exact Keep.refl _ | apply Keep.alloc | apply Keep.drew)) hg3 (fun q hq => by simp [Value.ownBlock] at hq; omega); have z0 := K3.out.cell x0; have z1 := K3.out.cell x1; have z2 := K3.out.cell x2; have B3 : Hid (w3.heap[w2.heap.size + 1]? = some (.cells #[.int .i64 x.k, .int .i64 x.p, .bool x.f] 30 (0, 0))) := (hg3.block (w2.heap.size + 1) (by simp) (by simp [Value.ownBlock])).trans (hp2 _ _ _ _); simp only [List.nil_append] at hr3; replace hr3 := Lib.hid hr3; replace hg3 := Lib.hid hg3)
        | (refine step_own Tryd.tyC11 rfl (.tmp 37) (.tmp 40) rfl w2.heap.size (.slice (some ⟨w2.heap.size + 1, 0, none⟩) 0 0) 0 [] (by simp [Act.eval]) (own_empty (by omega) (hp2 _ _ _ _)) (.slice (some ⟨b, off, none⟩) 0 c) (0) (clCs P (0)) (by simp [Act.eval]) (src_lo CA.out (Nat.zero_le _) (K2.out.trans (by repeat (first | exact Keep.refl _ | apply Keep.alloc | apply Keep.drew)))) (clCs_one _ _) (by omega) (by simp <;> omega) _ (Nat.zero_add _) ?_; intro v3 w3 hr3 hg3; have K3 : Hid (Keep w2 w3) := keep_grown (by repeat (first | exact Keep.refl _ | apply Keep.alloc | apply Keep.drew)) hg3 (fun q hq => by simp [Value.ownBlock] at hq; omega); have z0 := K3.out.cell x0; have z1 := K3.out.cell x1; have z2 := K3.out.cell x2; have B3 : Hid (w3.heap[w2.heap.size]? = some (.cells #[.int .i64 x.k, .int .i64 x.p, .bool x.f] 30 (0, 0))) := (hg3.block w2.heap.size (by simp <;> omega) (by simp [Value.ownBlock])).trans (hp1 _ _ _ _); simp only [List.nil_append] at hr3; replace hr3 := Lib.hid hr3; replace hg3 := Lib.hid hg3)
        | (refine step_own Tryd.tyC11 rfl (.tmp 41) (.tmp 43) rfl w2.heap.size v3 (0) (clCs P (0)) (by simp [Act.eval]) (hr3.out) (.slice (some ⟨w2.heap.size + 1, 0, none⟩) 1 1) 1 x.cells (by simp [Act.eval]) (src_one B3.out) (cells_one _) (by omega) (by have := K3.out.size; simp <;> omega) _ rfl ?_; intro v4 w4 hr4 hg4; have K4 : Hid (Keep w2 w4) := keep_grown (K3.out) hg4 (fun q hq => (hr3.out.lt q hq).1); replace hr4 := Lib.hid hr4; replace hg4 := Lib.hid hg4)
        | (refine step_own Tryd.tyC11 rfl (.tmp 41) (.tmp 43) rfl w2.heap.size v3 (0) (clCs P (0)) (by simp [Act.eval]) (hr3.out) (.slice (some ⟨w2.heap.size, 0, none⟩) 1 1) 1 x.cells (by simp [Act.eval]) (src_one B3.out) (cells_one _) (by omega) (by have := K3.out.size; simp <;> omega) _ rfl ?_; intro v4 w4 hr4 hg4; have K4 : Hid (Keep w2 w4) := keep_grown (K3.out) hg4 (fun q hq => (hr3.out.lt q hq).1); replace hr4 := Lib.hid hr4; replace hg4 := Lib.hid hg4)
        | (refine step_own Tryd.tyC11 rfl (.tmp 41) (.tmp 43) rfl w2.heap.size v3 (0) (clCs P (0)) (by simp [Act.eval]) (own_keep hr3.out (Keep.one _ _)) (.slice (some ⟨w3.heap.size, 0, none⟩) 1 1) 1 x.cells (by simp [Act.eval]) (src_one (heap_alloc_new _ _)) (cells_one _) (by omega) (by have := K3.out.size; simp <;> omega) _ rfl ?_; intro v4 w4 hr4 hg4; have K4 : Hid (Keep w2 w4) := keep_grown (K3.out.trans (Keep.one _ _)) hg4 (fun q hq => (hr3.out.lt q hq).1); replace hr4 := Lib.hid hr4; replace hg4 := Lib.hid hg4)
        | (refine step_own Tryd.tyC11 rfl (.tmp 44) (.tmp 47) rfl w2.heap.size v4 (0 + 1) (clCs P (0) ++ x.cells) (by simp [Act.eval]) hr4.out (.slice (some ⟨b, off, none⟩) n c) (n - (0)) (clCs (fun t => P ((0) + t)) (n - (0))) (by simp [Act.eval]) (src_all CA.out (K2.out.trans K4.out)) (clCs_one _ _) (by omega) (by have := K4.out.size; simp <;> omega) (n + 1) (by omega) ?_; intro v5 w5 hr5 hg5; have K5 : Hid (Keep w2 w5) := keep_grown K4.out hg5 (fun q hq => (hr4.out.lt q hq).1); replace hg5 := Lib.hid hg5; obtain ⟨B5, d5, hv5, _⟩ := own_form hr5; subst hv5; replace hr5 := Lib.hid hr5))
      all_goals
        have GF : Hid (Keep w w5) := GK.out.trans (K2.out.trans K5.out)
        have RF : Hid (w5.ownsRow w.heap.size 30 3 (.slice B5 (n + 1) d5) (n + 1) (clCs (row (insL x (lst P n))) (n + 1))) := by
          show World.ownsRow _ _ _ _ _ _ _
          rw [← fin2.out]
          exact own_base hr5.out (GK.out.trans K2.out).size
        go_wp2
        all_goals
          go_ret2
          exact fin3.out B5 d5 w5 GF.out RF.out
    · obtain ⟨jp, rfl⟩ : ∃ jp, j = jp + 1 := ⟨j - 1, by omega⟩
      have ej : IntKind.i64.wrap ((jp : Int) + 1 - 1) = (jp : Int) := by rw [IntKind.wrap_i64]; omega
      have ej2 : (jp : Int) + 1 - 1 = (jp : Int) := by omega
      have hjd : decide ((0 : Int) < (jp : Int) + 1) = true := decide_eq_true (by omega)
      have q2 := atC b off n c jp (by omega)
      have Y := (CA.out jp (by omega)).keep GQ.out.keep
      obtain ⟨y, hy⟩ : ∃ y, y = P jp := ⟨_, rfl⟩
      have CM2 : Hid (x.k < y.k → ∀ t, jp ≤ t → t < n → x.k < (P t).k) := fun h t h1 h2 => by
        by_cases e : t = jp
        · rw [e, ← hy]; exact h
        · exact CM.out t (by omega) h2
      have fin : Hid (¬ x.k < y.k → clCs P (jp + 1) ++ x.cells ++ clCs (fun t => P (jp + 1 + t)) (n - (jp + 1)) = clCs (row (insL x (lst P n))) (n + 1)) := fun h => ins_row hji hs.out (fun t h1 h2 => (bef_iff _ _).2 (CM.out t h1 h2)) (Or.inr ((bef_no _ _).2 (by show ¬ x.k < (P jp).k; rw [← hy]; exact h)))
      rw [← hy] at Y
      replace hy := Lib.hid hy
      have u0 := X2.e0
      have y0 := Y.e0
      clear Y X2
      obtain ⟨yk, hyk⟩ : ∃ yk, yk = y.k := ⟨_, rfl⟩
      rw [← hyk] at y0 fin CM2
      replace hyk := Lib.hid hyk
      by_cases hlk : x.k < yk
      · have CM3 := Lib.hid (CM2.out hlk)
        clear fin CM2
        go_wp2_with fail
        go_quiet (fail)
        have G2 : Hid (Gr W (wr.drewN nq)) := GQ.out.drewN nq
        generalize wr.drewN nq = w2 at G2 ⊢
        clear u0 y0 q2 hjd
        go_wp2
        go_roundg jp
        case measure => omega
        case rel => exact ⟨jp, by go_num, by omega, rfl, G2, CM3⟩
      · have fin2 := Lib.hid (fin.out hlk)
        clear fin CM2
        go_wp2_with fail
        go_quiet (fail)
        have G2 : Hid (Gr W (wr.drewN nq)) := GQ.out.drewN nq
        generalize wr.drewN nq = w2 at G2 ⊢
        clear u0 y0 q2 hjd
        have hz0 : (0 : Int) ≤ (jp : Int) + 1 := by omega
        have hz1 : (jp : Int) + 1 ≤ (c : Int) := by omega
        have hz2 : (jp : Int) + 1 ≤ (n : Int) := by omega
        have K2 : Hid (Keep W w2) := G2.out.keep
        have X3 := X.keep K2.out
        have hbl := cell_lt X3.e0; have x0 := X3.e0; have x1 := X3.e1; have x2 := X3.e2
        clear X3
        go_wp2_with fail
        go_region_law (first
          | (refine step_own Tryd.tyC11 rfl (.tmp 37) (.tmp 40) rfl w2.heap.size (.slice (some ⟨w2.heap.size, 0, none⟩) 0 0) 0 [] (by simp [Act.eval]) (own_empty (by omega) (heap_alloc_new _ _)) (.slice (some ⟨b, off, none⟩) (jp + 1) c) (jp + 1) (clCs P (jp + 1)) (by simp [Act.eval]) (src_lo CA.out hji (K2.out.trans (by repeat (first | exact Keep.refl _ | apply Keep.alloc | apply Keep.drew)))) (clCs_one _ _) (by omega) (by simp <;> omega) _ (Nat.zero_add _) ?_; intro v3 w3 hr3 hg3; have K3 : Hid (Keep w2 w3) := keep_grown (by repeat (first | exact Keep.refl _ | apply Keep.alloc | apply Keep.drew)) hg3 (fun q hq => by simp [Value.ownBlock] at hq; omega); have z0 := K3.out.cell x0; have z1 := K3.out.cell x1; have z2 := K3.out.cell x2; simp only [List.nil_append] at hr3; replace hr3 := Lib.hid hr3; replace hg3 := Lib.hid hg3)
          | (refine step_own Tryd.tyC11 rfl (.tmp 37) (.tmp 40) rfl w2.heap.size (.slice (some ⟨w2.heap.size, 0, none⟩) 0 0) 0 [] (by simp [Act.eval]) (own_empty (by omega) (hp1 _ _ _ _)) (.slice (some ⟨b, off, none⟩) (jp + 1) c) (jp + 1) (clCs P (jp + 1)) (by simp [Act.eval]) (src_lo CA.out hji (K2.out.trans (by repeat (first | exact Keep.refl _ | apply Keep.alloc | apply Keep.drew)))) (clCs_one _ _) (by omega) (by simp <;> omega) _ (Nat.zero_add _) ?_; intro v3 w3 hr3 hg3; have K3 : Hid (Keep w2 w3) := keep_grown (by repeat (first | exact Keep.refl _ | apply Keep.alloc | apply Keep.drew)) hg3 (fun q hq => by simp [Value.ownBlock] at hq; omega); have z0 := K3.out.cell x0; have z1 := K3.out.cell x1; have z2 := K3.out.cell x2; have B3 : Hid (w3.heap[w2.heap.size + 1]? = some (.cells #[.int .i64 x.k, .int .i64 x.p, .bool x.f] 30 (0, 0))) := (hg3.block (w2.heap.size + 1) (by simp) (by simp [Value.ownBlock])).trans (hp2 _ _ _ _); simp only [List.nil_append] at hr3; replace hr3 := Lib.hid hr3; replace hg3 := Lib.hid hg3)
          | (refine step_own Tryd.tyC11 rfl (.tmp 37) (.tmp 40) rfl w2.heap.size (.slice (some ⟨w2.heap.size + 1, 0, none⟩) 0 0) 0 [] (by simp [Act.eval]) (own_empty (by omega) (hp2 _ _ _ _)) (.slice (some ⟨b, off, none⟩) (jp + 1) c) (jp + 1) (clCs P (jp + 1)) (by simp [Act.eval]) (src_lo CA.out hji (K2.out.trans (by repeat (first | exact Keep.refl _ | apply Keep.alloc | apply Keep.drew)))) (clCs_one _ _) (by omega) (by simp <;> omega) _ (Nat.zero_add _) ?_; intro v3 w3 hr3 hg3; have K3 : Hid (Keep w2 w3) := keep_grown (by repeat (first | exact Keep.refl _ | apply Keep.alloc | apply Keep.drew)) hg3 (fun q hq => by simp [Value.ownBlock] at hq; omega); have z0 := K3.out.cell x0; have z1 := K3.out.cell x1; have z2 := K3.out.cell x2; have B3 : Hid (w3.heap[w2.heap.size]? = some (.cells #[.int .i64 x.k, .int .i64 x.p, .bool x.f] 30 (0, 0))) := (hg3.block w2.heap.size (by simp <;> omega) (by simp [Value.ownBlock])).trans (hp1 _ _ _ _); simp only [List.nil_append] at hr3; replace hr3 := Lib.hid hr3; replace hg3 := Lib.hid hg3)
          | (refine step_own Tryd.tyC11 rfl (.tmp 41) (.tmp 43) rfl w2.heap.size v3 (jp + 1) (clCs P (jp + 1)) (by simp [Act.eval]) (hr3.out) (.slice (some ⟨w2.heap.size + 1, 0, none⟩) 1 1) 1 x.cells (by simp [Act.eval]) (src_one B3.out) (cells_one _) (by omega) (by have := K3.out.size; simp <;> omega) _ rfl ?_; intro v4 w4 hr4 hg4; have K4 : Hid (Keep w2 w4) := keep_grown (K3.out) hg4 (fun q hq => (hr3.out.lt q hq).1); replace hr4 := Lib.hid hr4; replace hg4 := Lib.hid hg4)
          | (refine step_own Tryd.tyC11 rfl (.tmp 41) (.tmp 43) rfl w2.heap.size v3 (jp + 1) (clCs P (jp + 1)) (by simp [Act.eval]) (hr3.out) (.slice (some ⟨w2.heap.size, 0, none⟩) 1 1) 1 x.cells (by simp [Act.eval]) (src_one B3.out) (cells_one _) (by omega) (by have := K3.out.size; simp <;> omega) _ rfl ?_; intro v4 w4 hr4 hg4; have K4 : Hid (Keep w2 w4) := keep_grown (K3.out) hg4 (fun q hq => (hr3.out.lt q hq).1); replace hr4 := Lib.hid hr4; replace hg4 := Lib.hid hg4)
          | (refine step_own Tryd.tyC11 rfl (.tmp 41) (.tmp 43) rfl w2.heap.size v3 (jp + 1) (clCs P (jp + 1)) (by simp [Act.eval]) (own_keep hr3.out (Keep.one _ _)) (.slice (some ⟨w3.heap.size, 0, none⟩) 1 1) 1 x.cells (by simp [Act.eval]) (src_one (heap_alloc_new _ _)) (cells_one _) (by omega) (by have := K3.out.size; simp <;> omega) _ rfl ?_; intro v4 w4 hr4 hg4; have K4 : Hid (Keep w2 w4) := keep_grown (K3.out.trans (Keep.one _ _)) hg4 (fun q hq => (hr3.out.lt q hq).1); replace hr4 := Lib.hid hr4; replace hg4 := Lib.hid hg4)
          | (refine step_own Tryd.tyC11 rfl (.tmp 44) (.tmp 47) rfl w2.heap.size v4 (jp + 1 + 1) (clCs P (jp + 1) ++ x.cells) (by simp [Act.eval]) hr4.out (.slice (if c = jp + 1 then some ⟨b, off, none⟩ else some ⟨b, off + (jp + 1) * 3, none⟩) (n - (jp + 1)) (c - (jp + 1))) (n - (jp + 1)) (clCs (fun t => P ((jp + 1) + t)) (n - (jp + 1))) (by simp [Act.eval]) (src_hi CA.out hji hc (K2.out.trans K4.out)) (clCs_one _ _) (by omega) (by have := K4.out.size; simp <;> omega) (n + 1) (by omega) ?_; intro v5 w5 hr5 hg5; have K5 : Hid (Keep w2 w5) := keep_grown K4.out hg5 (fun q hq => (hr4.out.lt q hq).1); replace hg5 := Lib.hid hg5; obtain ⟨B5, d5, hv5, _⟩ := own_form hr5; subst hv5; replace hr5 := Lib.hid hr5))
        all_goals
          have GF : Hid (Keep w w5) := GK.out.trans (K2.out.trans K5.out)
          have RF : Hid (w5.ownsRow w.heap.size 30 3 (.slice B5 (n + 1) d5) (n + 1) (clCs (row (insL x (lst P n))) (n + 1))) := by
            show World.ownsRow _ _ _ _ _ _ _
            rw [← fin2.out]
            exact own_base hr5.out (GK.out.trans K2.out).size
          go_wp2
          all_goals
            go_ret2
            exact fin3.out B5 d5 w5 GF.out RF.out
end Go.Proofs.YtmbeghngnnpmlaaDoor.T11
