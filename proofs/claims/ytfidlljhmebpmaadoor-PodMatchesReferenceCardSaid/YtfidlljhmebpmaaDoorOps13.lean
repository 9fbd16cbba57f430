/-
  The law's operations, its few, its code; the reference's list behind an operation. Conditions: errors.errorType holds its own; at most 1000 pods.
-/
import Derived.Test.YtfidlljhmebpmaaDoorCon13
import Derived.Test.YtfidlljhmebpmaaDoorROn13
namespace Go.Proofs.YtfidlljhmebpmaaDoor.T13
open Go.RowKit Go.Sort Go.Lib V12

/-- An operation: its event, its pod, its node, its deadline. -/
structure OpV where
  ev : Int
  x : PodV
  nd : Int
  dl : Int
def OpV.val (o : OpV) : Value := .agg #[.int .i64 o.ev, .int .i64 o.x.k, .int .i64 o.x.p, .bool o.x.f, .int .i64 o.x.g, .slice o.x.A o.x.m o.x.c, .int .i64 o.x.a, .int .i64 o.x.h, .int .i64 o.x.d, .int .i64 o.x.t, .int .i64 o.nd, .int .i64 o.dl]
def OpV.arr (o : OpV) : Array Value := #[.int .i64 o.ev, .int .i64 o.x.k, .int .i64 o.x.p, .bool o.x.f, .int .i64 o.x.g, .slice o.x.A o.x.m o.x.c, .int .i64 o.x.a, .int .i64 o.x.h, .int .i64 o.x.d, .int .i64 o.x.t, .int .i64 o.nd, .int .i64 o.dl]
structure OpIs (w : World) (o : OpV) : Prop where
  e : I64 o.ev
  x : PodIs w o.x
  n : I64 o.nd
  d : I64 o.dl
theorem OpIs.keep {w w' : World} {o : OpV} (h : OpIs w o) (k : Keep w w') : OpIs w' o := ⟨h.e, h.x.keep k, h.n, h.d⟩
/-- Its twelve cells. -/
structure Cel12 (w : World) (b o : Nat) (v : OpV) : Prop where
  e : w.cell? ⟨b, o, none⟩ = some (.int .i64 v.ev)
  x : Cel9 w b (o + 1) v.x
  n : w.cell? ⟨b, o + 10, none⟩ = some (.int .i64 v.nd)
  d : w.cell? ⟨b, o + 11, none⟩ = some (.int .i64 v.dl)
theorem Cel12.keep {w w' : World} {b o : Nat} {v : OpV} (h : Cel12 w b o v) (k : Keep w w') : Cel12 w' b o v := ⟨k.cell h.e, h.x.keep k, k.cell h.n, k.cell h.d⟩
theorem Cel12.same {w w' : World} {b o : Nat} {v : OpV} (h : Cel12 w b o v) (e : w'.heap[b]? = w.heap[b]?) : Cel12 w' b o v := ⟨cell_same h.e e, h.x.same e, cell_same h.n e, cell_same h.d e⟩
theorem cel12_of {w : World} {b : Nat} {v : OpV} {T : TypeId} (h : w.heap[b]? = some (.cells v.arr T (0, 0))) : Cel12 w b 0 v := by
  have c : ∀ i u, v.arr[i]? = some u → w.cell? ⟨b, i, none⟩ = some u := fun i u hu => by rw [cell_of_row w b i _ _ _ h]; exact hu
  exact ⟨c 0 _ rfl, ⟨c 1 _ rfl, c 2 _ rfl, c 3 _ rfl, c 4 _ rfl, c 5 _ rfl, c 6 _ rfl, c 7 _ rfl, c 8 _ rfl, c 9 _ rfl⟩, c 10 _ rfl, c 11 _ rfl⟩
/-- The operations of a slice. -/
structure RdO (w : World) (A : Option Addr) (n : Nat) (P : Nat → OpV) : Prop where
  small : n ≤ 9223372036854775807
  adr : 0 < n → ∃ b off, A = some ⟨b, off, none⟩ ∧ ∀ j, j < n → Cel12 w b (off + j * 12) (P j)
  is : ∀ j, j < n → OpIs w (P j)
theorem RdO.keep {w w' : World} {A : Option Addr} {n : Nat} {P : Nat → OpV} (h : RdO w A n P) (k : Keep w w') : RdO w' A n P :=
  ⟨h.small, fun hn => by
    obtain ⟨b, off, e, c⟩ := h.adr hn
    exact ⟨b, off, e, fun j hj => (c j hj).keep k⟩, fun j hj => (h.is j hj).keep k⟩
theorem atO (b off n cp j : Nat) (hj : j < n) (W : World) : (Instr.indexAt 22 (.slice (some ⟨b, off, none⟩) n cp) (.int .i64 j)).run Tryd.prog W = .ok (.pointer (some ⟨b, off + j * 12, none⟩)) W := by
  go_simp
def FewX (x : PodV) : Prop := FewP (fun _ => x) 1
def FewO (P : Nat → OpV) (n : Nat) : Prop := n ≤ 60 ∧ ∀ j, j < n → FewX (P j).x
theorem few_or (P : Nat → OpV) (n : Nat) : ∃ b, b = true ↔ FewO P n := ⟨@decide (FewO P n) (Classical.propDecidable _), by simp⟩
theorem fewx_or (x : PodV) : ∃ b, b = true ↔ FewX x := ⟨@decide (FewX x) (Classical.propDecidable _), by simp⟩
theorem FewX.m {x : PodV} (h : FewX x) : x.m ≤ 20 := (h.2 0 (by omega)).2.2
theorem rd_single {w : World} {b : Nat} {x : PodV} {T : TypeId} (h : w.heap[b]? = some (.cells (podB x) T (0, 0))) (hx : PodIs w x) : RdPods w (some ⟨b, 0, none⟩) 1 (fun _ => x) := by
  obtain ⟨e0, e1, e2, e3, e4, e5, e6, e7, e8, _⟩ := blk9 h
  refine ⟨by omega, fun _ => ⟨b, 0, rfl, fun j hj => ?_⟩, fun _ _ => hx⟩
  obtain rfl : j = 0 := by omega
  exact ⟨e0, e1, e2, e3, e4, e5, e6, e7, e8⟩
set_option maxRecDepth 100000 in
set_option maxHeartbeats 4000000 in
theorem few_fn (A : Option Addr) (n c : Nat) (P : Nat → OpV) (w : World) (hR : RdO w A n P) (b : Bool) (hb : b = true ↔ FewO P n) : Calls Tryd.prog 10 #[.slice A n c] w fun e w' => e = .returned (.bool b) ∧ Keep w w' := by
  have hn := hR.small
  replace hR := Lib.hid hR
  replace hb := Lib.hid hb
  go_enter Tryd.func10, Tryd.ntmps10
  go_wp2
  go_loopg [3] n (fun gx s3 wr => ∃ j : Nat, j ≤ n ∧ gx = n - j ∧ s3 = .int .i64 j ∧ Hid (Keep w wr) ∧ Hid (∀ t, t < j → FewX (P t).x))
  case atStart => exact ⟨0, Nat.zero_le _, rfl, rfl, Keep.refl _, fun t h => absurd h (Nat.not_lt_zero _)⟩
  case round =>
    obtain ⟨j, hj, rfl, rfl, K, NO⟩ := hrel
    by_cases hlt : j < n
    · have R2 := hR.out.keep K.out
      obtain ⟨g, off, hA, ca⟩ := R2.adr (by omega)
      subst hA
      have q1 := atO g off n c j hlt
      have X := (ca j hlt).x
      have ox := (R2.is j hlt).x
      clear ca
      obtain ⟨fb, hfb⟩ := fewx_or (P j).x
      have no : Hid (fb = false → b = false) := fun h => by
        cases hc : b with
        | false => rfl
        | true =>
          have := hfb.2 ((hb.out.1 hc).2 j hlt)
          rw [h] at this
          cases this
      have yes : Hid (fb = true → ∀ t, t < j + 1 → FewX (P t).x) := fun h t ht => by
        by_cases e : t = j
        · rw [e]; exact hfb.1 h
        · exact NO.out t (by omega)
      obtain ⟨x, hx⟩ : ∃ x, x = (P j).x := ⟨_, rfl⟩
      rw [← hx] at X ox hfb
      obtain ⟨W, hW⟩ : ∃ W, W = wr.alloc (.cells (podB x) 32) := ⟨_, rfl⟩
      have KW : Hid (Keep wr W) := by rw [hW]; exact Keep.one _ _
      have BW : W.heap[wr.heap.size]? = some (.cells (podB x) 32 (0, 0)) := by rw [hW]; exact heap_alloc_new _ _
      have cF := Lib.hid (rfew_fn (some ⟨wr.heap.size, 0, none⟩) 1 1 (fun _ => x) W (rd_single BW (ox.keep KW.out)) fb hfb)
      have x0 := X.e0; have x1 := X.e1; have x2 := X.e2; have x3 := X.e3; have x4 := X.e4; have x5 := X.e5; have x6 := X.e6; have x7 := X.e7; have x8 := X.e8
      clear X
      unfold podB at hW
      replace BW := Lib.hid BW
      replace hx := Lib.hid hx
      replace ox := Lib.hid ox
      replace hfb := Lib.hid hfb
      replace R2 := Lib.hid R2
      go_wp2_with fail
      rw [← hW]
      replace hW := Lib.hid hW
      refine cF.out.mono ?_
      rintro e w1 ⟨rfl, rfl⟩
      clear x0 x1 x2 x3 x4 x5 x6 x7 x8 cF
      cases fb with
      | false =>
        have e := Lib.hid (no.out rfl)
        go_wp2
        go_ret
        exact ⟨by rw [e.out]; rfl, K.out.trans KW.out⟩
      | true =>
        have e := Lib.hid (yes.out rfl)
        have K2 : Hid (Keep w W) := K.out.trans KW.out
        go_wp2
        go_roundg (n - (j + 1))
        case measure => omega
        case rel => exact ⟨j + 1, hlt, rfl, by go_num, K2, e⟩
    · obtain rfl : j = n := by omega
      have e : b = decide (j ≤ 60) := by
        rw [Bool.eq_iff_iff, hb.out, decide_eq_true_eq]
        exact ⟨fun h => h.1, fun h => ⟨h, NO.out⟩⟩
      subst e
      by_cases h60 : j ≤ 60
      · go_wp2
        go_ret
        refine ⟨?_, K.out⟩
        simp [h60] <;> omega
      · go_wp2
        go_ret
        refine ⟨?_, K.out⟩
        simp [h60] <;> omega
/-- The law's code of an error. -/
theorem lcode_yes (c : Int) (w : World) (hg : ErrT w) : Calls Tryd.prog 29 #[flt c 0] w fun e w' => e = .returned (.int .i64 c) ∧ Keep w w' := by
  have h := Lib.hid (code_yes c [] (.fault c 0) _ w (.base _) (Or.inr ⟨_, rfl⟩) hg)
  clear hg
  unfold flt
  go_enter Tryd.func29, Tryd.ntmps29
  go_wp2_with fail
  refine h.out.mono ?_
  rintro e w1 ⟨rfl, k⟩
  have k := Lib.hid k
  go_wp2
  go_ret
  exact ⟨rfl, k.out⟩
theorem lcode_nil (w : World) : Calls Tryd.prog 29 #[.nilIface] w fun e w' => e = .returned (.int .i64 0) ∧ Keep w w' := by
  have h := Lib.hid (code_nil w)
  go_enter Tryd.func29, Tryd.ntmps29
  go_wp2_with fail
  refine h.out.mono ?_
  rintro e w1 ⟨rfl, k⟩
  have k := Lib.hid k
  go_wp2
  go_ret
  exact ⟨rfl, k.out⟩
theorem at_nil (w : World) : Calls Tryd.prog 31 #[.nilIface] w fun e w' => e = .returned (.tuple #[.int .i64 0, .bool false]) ∧ Keep w w' := by
  have h := Lib.hid (findFault_nil w)
  go_enter Tryd.func31, Tryd.ntmps31
  go_wp2_with (go_at_call 46; refine h.out.mono ?_; rintro e w' ⟨rfl, hr⟩)
  go_ret2
  exact ⟨rfl, hr.alloc _⟩
/-- What an operation leaves, and its code. -/
def opL (L : List PodV) (s : Int) (o : OpV) : List PodV := if o.ev = 0 then subL L s o.x else appL L o.x.k o.ev o.nd o.dl
theorem opL_len (L : List PodV) (s : Int) (o : OpV) : (opL L s o).length ≤ L.length + 1 := by
  unfold opL
  split
  · exact subL_len _ _ _
  · rw [appL_len]; omega
theorem opL_m {L : List PodV} {s : Int} {o : OpV} {m : Nat} (h : ∀ y ∈ L, y.m ≤ m) (ho : o.x.m ≤ m) : ∀ y ∈ opL L s o, y.m ≤ m := by
  intro y hy
  unfold opL at hy
  split at hy
  · unfold subL at hy
    split at hy
    · rcases List.mem_append.1 hy with hy | hy
      · exact h y hy
      · rw [List.mem_singleton.1 hy]; exact ho
    · exact h y hy
  · unfold appL at hy
    split at hy
    · obtain ⟨z, hz, rfl⟩ := List.mem_map.1 hy
      split
      · exact h z hz
      · exact h z hz
    · exact h y hy
/-- The reference's Submit beside the store's. -/
theorem rl_sub {w : World} {X : Nat → Prop} {w1 : World} {B : Option Addr} {c n : Nat} {P : Nat → PodV} {L : List PodV} (h : RL w X w1 B c n P) (hL : (lst P n).map nm = L) (s : Int) (x : PodV) (hx : PodIs w x) (k : Keep w w1) (hn : n ≤ 1000) :
    Calls Tryd.prog 26 #[.slice B n c, .int .i64 s, x.val] w1 fun e w' => ∃ B' c' n' P', e = .returned (.tuple #[.slice B' n' c', .int .i64 (subC L s x)]) ∧ Keep w1 w' ∧ RL w (fun i => X i ∨ (w1.heap.size ≤ i ∧ i < w'.heap.size)) w' B' c' n' P' ∧ (lst P' n').map nm = subL L s x ∧ (subC L s x = 0 → ∃ t, t < n' ∧ findN P' x.k n' = (t : Int) ∧ nm (P' t) = subP x L.length) := by
  subst hL
  have hB : B = none → n = 0 ∧ c = 0 := fun e => by
    rcases h.pl with ⟨_, h0⟩ | ⟨g, eg, _⟩
    · exact h0
    · rw [e] at eg; cases eg
  refine (rsub_fn B c n P s x w1 h.rd hB hn).mono ?_
  rintro e w' ⟨B', c', n', P', he, kk, hp⟩
  have hl : ((lst P n).map nm).length = n := by rw [List.length_map, lst_len]
  rcases hp with ⟨h0, rfl, rfl, rfl, rfl⟩ | ⟨h0, rfl, rfl, ho⟩
  · refine ⟨B', c', n', P', he, kk, (h.keep kk).less fun i => Or.inl, ?_, fun h1 => absurd h1 h0⟩
    unfold subL
    rw [if_neg h0]
  · have hk : x.k ∉ keys ((lst P n).map nm) := fun hk => by
      unfold subC at h0
      rw [if_pos hk] at h0
      exact absurd h0 (by decide)
    have no : ∀ t, t < n → (P t).k ≠ x.k := fun t ht e => hk (by
      rw [keys_nm]
      unfold keys
      rw [← e]
      exact List.mem_map_of_mem (lst_mem.2 ⟨t, ht, rfl⟩))
    refine ⟨B', c', n + 1, put P n (subV x n), he, kk, ⟨own_rd ho (by omega) fun j hj => ?_, own_cap ho, Or.inr ?_, fun j hj => ?_⟩, ?_, fun _ => ⟨n, by omega, find_at (by rw [put_at]; rfl) (fun t ht => by rw [put_ne _ _ _ (by omega)]; exact no t ht) (by omega), by rw [put_at, hl]; rfl⟩⟩
    · by_cases e : j = n
      · rw [e, put_at]
        exact ⟨(hx.keep (k.trans kk)).rd, hx.nil, hx.rng.1, hx.rng.2.1, hx.rng.2.2.1, by unfold I64; show _ ≤ (n : Int) ∧ (n : Int) ≤ _; omega, by unfold I64; show _ ≤ (1 : Int) ∧ (1 : Int) ≤ _; omega, by unfold I64; show _ ≤ (-1 : Int) ∧ (-1 : Int) ≤ _; omega, by unfold I64; show _ ≤ (-1 : Int) ∧ (-1 : Int) ≤ _; omega⟩
      · rw [put_ne _ _ _ e]
        exact (h.is j (by omega)).keep (k.trans kk)
    · obtain ⟨g, cap, e, _, hb⟩ := ho.form (by omega)
      simp only [Value.slice.injEq] at e
      exact ⟨g, e.1, Or.inr (ho.lt g (by rw [e.1]; rfl))⟩
    · by_cases e : j = n
      · rw [e, put_at]
        exact ⟨hx.rd, hx.nil, hx.rng.1, hx.rng.2.1, hx.rng.2.2.1, by unfold I64; show _ ≤ (n : Int) ∧ (n : Int) ≤ _; omega, by unfold I64; show _ ≤ (1 : Int) ∧ (1 : Int) ≤ _; omega, by unfold I64; show _ ≤ (-1 : Int) ∧ (-1 : Int) ≤ _; omega, by unfold I64; show _ ≤ (-1 : Int) ∧ (-1 : Int) ≤ _; omega⟩
      · rw [put_ne _ _ _ e]
        exact h.is j (by omega)
    · unfold subL
      rw [if_pos h0, lst_put, List.map_append, List.map_singleton, hl]
      rfl
theorem lst_puti {P : Nat → PodV} {n i : Nat} {y : PodV} (hd : ∀ t, t < n → t ≠ i → (P t).k ≠ (P i).k) (f : PodV → PodV) (hf : f (P i) = y) : lst (put P i y) n = (lst P n).map fun z => if z.k = (P i).k then f z else z := by
  refine List.ext_getElem? fun j => ?_
  by_cases hj : j < n
  · rw [lst_get hj, List.getElem?_map, lst_get hj]
    show some _ = some (if (P j).k = (P i).k then f (P j) else P j)
    by_cases e : j = i
    · rw [e, put_at, if_pos rfl, hf]
    · rw [put_ne _ _ _ e, if_neg (hd j hj e)]
  · rw [List.getElem?_eq_none (by rw [lst_len]; omega), List.getElem?_eq_none (by rw [List.length_map, lst_len]; omega)]
theorem rl_app {w : World} {X : Nat → Prop} {w1 : World} {B : Option Addr} {c n : Nat} {P : Nat → PodV} {L : List PodV} (h : RL w X w1 B c n P) (hL : (lst P n).map nm = L) (hok : LOk L) (id ev nd dl : Int) (hnd : I64 nd) (hdl : I64 dl) (hn : n ≤ 1000) :
    Calls Tryd.prog 30 #[.slice B n c, .int .i64 id, .int .i64 ev, .int .i64 nd, .int .i64 dl] w1 fun e w' => ∃ B' c' n' P', e = .returned (.tuple #[.slice B' n' c', .int .i64 (appC L id ev)]) ∧ Keep w1 w' ∧ RL w (fun i => X i ∨ (w1.heap.size ≤ i ∧ i < w'.heap.size)) w' B' c' n' P' ∧ (lst P' n').map nm = appL L id ev nd dl ∧ (appC L id ev = 0 → ∃ t, t < n' ∧ findN P' id n' = (t : Int) ∧ nm (P' t) = appP (getL L id) ev nd dl) := by
  subst hL
  refine (rapp_fn B c n P id ev nd dl w1 h.rd hn hnd hdl).mono ?_
  rintro e w' ⟨B', c', P', he, kk, hp⟩
  rcases hp with ⟨h0, rfl, rfl, rfl⟩ | ⟨h0, hc, g, i, hi, hk, hm, rfl, hg, rfl, hr⟩
  · refine ⟨B', c', n, P', he, kk, (h.keep kk).less fun i => Or.inl, ?_, fun h1 => absurd h1 h0⟩
    unfold appL
    rw [if_neg h0]
  · have hin : id ∈ keys ((lst P n).map nm) := by
      rw [keys_nm]
      unfold keys
      rw [← hk]
      exact List.mem_map_of_mem (lst_mem.2 ⟨i, hi, rfl⟩)
    have hget : getL ((lst P n).map nm) id = nm (P i) := by rw [← get_nm, get_first hi hk hm]
    have hdis : ∀ t, t < n → t ≠ i → (P t).k ≠ (P i).k := fun t ht hne e => by
      have hnd := hok.nod
      rw [keys_nm] at hnd
      unfold keys at hnd
      refine hne ((List.getElem_inj (h₀ := by rw [List.length_map, lst_len]; exact ht) (h₁ := by rw [List.length_map, lst_len]; exact hi) hnd).1 ?_)
      rw [List.getElem_map, List.getElem_map]
      have a1 := lst_get (Q := P) ht
      have a2 := lst_get (Q := P) hi
      rw [List.getElem?_eq_getElem (by rw [lst_len]; exact ht)] at a1
      rw [List.getElem?_eq_getElem (by rw [lst_len]; exact hi)] at a2
      rw [Option.some.inj a1, Option.some.inj a2]
      exact e
    have his : ∀ j, j < n → PodIs w (put P i (appP (P i) ev nd dl) j) := fun j hj => by
      have h1 := hr.is j hj
      by_cases e : j = i
      · have h2 := h.is i hi
        rw [e, put_at] at h1 ⊢
        exact ⟨h2.rd, h2.nil, h1.rng⟩
      · rw [put_ne _ _ _ e]
        exact h.is j hj
    refine ⟨_, c', n, _, he, kk, ⟨hr, hc, Or.inr ⟨g, rfl, Or.inr ⟨hg, ?_⟩⟩, his⟩, ?_, fun _ => ⟨i, hi, find_at (by rw [put_at]; exact hk) (fun t ht => by rw [put_ne _ _ _ (by omega)]; exact hm t ht) hi, by rw [put_at, nm_app, hget]⟩⟩
    · obtain ⟨b2, off2, e2, c2⟩ := hr.adr (by omega)
      have e3 := Option.some.inj e2
      simp only [Addr.mk.injEq, and_true] at e3
      rw [e3.1]
      exact cell_lt (c2 0 (by omega)).e0
    · unfold appL
      rw [if_pos h0, lst_puti hdis (fun z => appP z ev nd dl) rfl, List.map_map, List.map_map]
      refine List.map_congr_left fun z _ => ?_
      show nm (if z.k = (P i).k then appP z ev nd dl else z) = if (nm z).k = id then appP (nm z) ev nd dl else nm z
      rw [nm_k, ← hk]
      split
      · exact nm_app _ _ _ _
      · rfl
end Go.Proofs.YtfidlljhmebpmaaDoor.T13
