/-
  A lot in memory: its map of entries, the lot as a list of pods with reasons. No condition.
-/
import Derived.Test.YtpkpmoiekjhdnaaDoorFr8
import Derived.Test.YtpkpmoiekjhdnaaDoorMapW8
namespace Go.Proofs.YtpkpmoiekjhdnaaDoor
open Go.RowKit Go.Sort Go.Lib Go.Shelf
open Go.ChangeMaps (setBlock)

/-- An entry: a pod with its reason. -/
def PodV.ent (x : PodV) (r : Int) : Value := .agg #[.int .i64 x.k, .int .i64 x.p, .bool x.f, .int .i64 x.g, .slice x.A x.m x.c, .int .i64 x.a, .int .i64 x.h, .int .i64 x.d, .int .i64 x.t, .int .i64 r]
theorem Tryd.zeroEntry (w : World) : (zeroValue 62).run Tryd.prog w = .ok (zpod.ent 0) w := by kernel_rfl
def prs (E : List (PodV × Int)) : List (Int × Value) := E.map fun y => (y.1.k, y.1.ent y.2)
def nmE (y : PodV × Int) : PodV × Int := (nm y.1, y.2)
def keysE (L : List (PodV × Int)) : List Int := L.map fun y => y.1.k
theorem keys_prs (E : List (PodV × Int)) : (prs E).map (·.1) = keysE E := by unfold prs keysE; rw [List.map_map]; rfl
theorem keys_nm (E : List (PodV × Int)) : keysE (E.map nmE) = keysE E := by unfold keysE; rw [List.map_map]; rfl
theorem keys_perm {L M : List (PodV × Int)} (h : L.Perm M) : (keysE L).Perm (keysE M) := h.map _
def podsE (L : List (PodV × Int)) : List PodV := L.map (·.1)
theorem pods_nm (E : List (PodV × Int)) : podsE (E.map nmE) = (podsE E).map nm := by unfold podsE; rw [List.map_map, List.map_map]; rfl
theorem pods_keys (L : List (PodV × Int)) : (podsE L).map (·.k) = keysE L := by unfold podsE keysE; rw [List.map_map]; rfl

structure LMem (w : World) (b0 b1 bl B : Nat) (E : List (PodV × Int)) : Prop where
  hl : w.heap[bl]? = some (.cells #[.map (some B)] 55 (0, 0))
  map : MV.Is w B (prs E)
  own : ∀ y ∈ E, Req w b1 y.1 ∧ PodOk y.1
  lim : E.length ≤ 1000
  small : ∀ y ∈ E, y.1.m ≤ 1000
  lo : b0 ≤ bl ∧ b0 ≤ B ∧ b0 ≤ b1 ∧ b1 ≤ w.heap.size
def Foot8 (bl B : Nat) (k : Nat) : Prop := k = bl ∨ k = B
section
variable {w w' : World} {b0 b1 bl B : Nat} {E : List (PodV × Int)}
theorem LMem.lt (h : LMem w b0 b1 bl B E) : bl < w.heap.size ∧ B < w.heap.size := ⟨(Array.getElem?_eq_some_iff.1 h.hl).1, h.map.lt⟩
theorem LMem.ne (h : LMem w b0 b1 bl B E) : bl ≠ B := by
  obtain ⟨o, h1, es, c, rfl, _⟩ := h.map
  rintro rfl
  rw [h.hl] at h1
  cases h1
theorem LMem.e0 (h : LMem w b0 b1 bl B E) : w.cell? ⟨bl, 0, none⟩ = some (.map (some B)) := by rw [cell_of_row w _ _ _ _ _ h.hl]; rfl
theorem LMem.f0 (h : LMem w b0 b1 bl B E) : w.frozen? ⟨bl, 0, none⟩ = false := frozen_of_row w _ _ _ _ h.hl
theorem LMem.keep (h : LMem w b0 b1 bl B E) (k : Keep w w') : LMem w' b0 b1 bl B E :=
  ⟨k.block h.hl, h.map.of (Below.block k _ h.lt.2), fun y hy => ⟨own_keep (h.own y hy).1 k, (h.own y hy).2⟩, h.lim, h.small, h.lo.1, h.lo.2.1, h.lo.2.2.1, Nat.le_trans h.lo.2.2.2 k.size⟩
theorem LMem.foot_lt (h : LMem w b0 b1 bl B E) : ∀ k, Foot8 bl B k → b0 ≤ k ∧ k < w.heap.size := by
  rintro k (rfl | rfl)
  · exact ⟨h.lo.1, h.lt.1⟩
  · exact ⟨h.lo.2.1, h.lt.2⟩
/-- No row of amounts, of pods or of numbers lies among them. -/
theorem LMem.foot_kind (h : LMem w b0 b1 bl B E) : ∀ k, Foot8 bl B k → ∀ T, T ≠ 55 → ¬ Kind w k T := by
  rintro k (rfl | rfl) T hT ⟨cs, fr, e⟩
  · rw [h.hl] at e
    injection e with e
    injection e with _ e
    exact absurd e.symm hT
  · obtain ⟨o, h1, es, c, rfl, _⟩ := h.map
    rw [h1] at e
    cases e
theorem LMem.keys (h : LMem w b0 b1 bl B E) : (keysE E).Nodup := by rw [← keys_prs]; exact h.map.nodup
/-- A row of the lot's own lies apart from its blocks. -/
theorem LMem.apart (h : LMem w b0 b1 bl B E) {base : Nat} {x : PodV} (hx : Req w base x) {g : Nat} (hg : (Value.slice x.A x.m x.c).ownBlock = some g) : g ≠ bl ∧ g ≠ B := by
  obtain ⟨cur, hk⟩ := row_kind hx hg
  exact ⟨fun e => h.foot_kind g (Or.inl e) 2 (by decide) ⟨_, _, hk⟩, fun e => h.foot_kind g (Or.inr e) 2 (by decide) ⟨_, _, hk⟩⟩
/-- Worlds that differ in the lot's blocks alone. -/
theorem LMem.req (h : LMem w b0 b1 bl B E) (hs : ∀ k, k < w.heap.size → k ≠ bl → k ≠ B → w'.heap[k]? = w.heap[k]?) {base : Nat} {x : PodV} (hx : Req w base x) : Req w' base x :=
  own_blocks1 hx fun g hg => hs g (hx.lt g hg).2 (h.apart hx hg).1 (h.apart hx hg).2
/-- The lot's map is another one. -/
theorem LMem.put (h : LMem w b0 b1 bl B E) {E' : List (PodV × Int)} {o : Obj} (ho : MV.Obj' o (prs E')) (hB : w'.heap[B]? = some o) (hs : ∀ k, k < w.heap.size → k ≠ B → w'.heap[k]? = w.heap[k]?) (hz : w.heap.size ≤ w'.heap.size) (hE : ∀ y ∈ E', (y ∈ E ∨ Req w' b1 y.1 ∧ PodOk y.1 ∧ y.1.m ≤ 1000)) (hl : E'.length ≤ 1000) : LMem w' b0 b1 bl B E' :=
  ⟨(hs bl h.lt.1 h.ne).trans h.hl, ⟨o, hB, ho⟩, fun y hy => by
    rcases hE y hy with h1 | h1
    · exact ⟨h.req (fun k hk _ hn => hs k hk hn) (h.own y h1).1, (h.own y h1).2⟩
    · exact ⟨h1.1, h1.2.1⟩, hl, fun y hy => by
    rcases hE y hy with h1 | h1
    · exact h.small y h1
    · exact h1.2.2, h.lo.1, h.lo.2.1, h.lo.2.2.1, Nat.le_trans h.lo.2.2.2 hz⟩
end

def LInv (w : World) (b0 b1 bl : Nat) (D : Nat → Prop) (L : List (PodV × Int)) : Prop :=
  ∃ B E, LMem w b0 b1 bl B E ∧ (E.map nmE).Perm L ∧ D = Foot8 bl B
section
variable {w w' : World} {b0 b1 bl : Nat} {D : Nat → Prop} {L L' : List (PodV × Int)}
theorem LInv.perm (h : LInv w b0 b1 bl D L) (p : L.Perm L') : LInv w b0 b1 bl D L' := by
  obtain ⟨B, E, h1, h2, h3⟩ := h
  exact ⟨B, E, h1, h2.trans p, h3⟩
theorem LInv.keep (h : LInv w b0 b1 bl D L) (k : Keep w w') : LInv w' b0 b1 bl D L := by
  obtain ⟨B, E, h1, h2, h3⟩ := h
  exact ⟨B, E, h1.keep k, h2, h3⟩
theorem LInv.lo (h : LInv w b0 b1 bl D L) : ∀ k, D k → b0 ≤ k ∧ k < w.heap.size := by
  obtain ⟨B, E, h1, h2, rfl⟩ := h
  exact h1.foot_lt
theorem LInv.kind (h : LInv w b0 b1 bl D L) : ∀ k, D k → ∀ T, T ≠ 55 → ¬ Kind w k T := by
  obtain ⟨B, E, h1, h2, rfl⟩ := h
  exact h1.foot_kind
theorem LInv.len (h : LInv w b0 b1 bl D L) : L.length ≤ 1000 := by
  obtain ⟨B, E, h1, h2, rfl⟩ := h
  have := h2.length_eq
  rw [List.length_map] at this
  have := h1.lim
  omega
theorem LInv.keys (h : LInv w b0 b1 bl D L) : (keysE L).Nodup := by
  obtain ⟨B, E, h1, h2, rfl⟩ := h
  rw [← (keys_perm h2).nodup_iff, keys_nm]
  exact h1.keys
theorem LInv.small (h : LInv w b0 b1 bl D L) : ∀ y ∈ L, y.1.m ≤ 1000 := by
  obtain ⟨B, E, h1, h2, rfl⟩ := h
  intro y hy
  obtain ⟨z, hz, rfl⟩ := List.mem_map.1 (h2.mem_iff.2 hy)
  exact h1.small z hz
theorem LInv.frame (h : LInv w b0 b1 bl D L) {X : Nat → Prop} (f : Fr X w w') (h1 : ∀ k, D k → ¬ X k) (h2 : ∀ k, b1 ≤ k → ¬ X k) : LInv w' b0 b1 bl D L := by
  obtain ⟨B, E, H, hp, rfl⟩ := h
  refine ⟨B, E, ⟨(f.block _ H.lt.1 (h1 _ (Or.inl rfl))).trans H.hl, H.map.of (f.block _ H.lt.2 (h1 _ (Or.inr rfl))), fun y hy => ⟨own_blocks1 (H.own y hy).1 fun g hg => f.block g ((H.own y hy).1.lt g hg).2 (h2 _ ((H.own y hy).1.lt g hg).1), (H.own y hy).2⟩, H.lim, H.small, H.lo.1, H.lo.2.1, H.lo.2.2.1, Nat.le_trans H.lo.2.2.2 f.size⟩, hp, rfl⟩
end

/-! ### Look-ups -/
theorem prs_mem {E : List (PodV × Int)} {id : Int} {v : Value} : (id, v) ∈ prs E ↔ ∃ y ∈ E, y.1.k = id ∧ y.1.ent y.2 = v := by
  unfold prs
  simp only [List.mem_map, Prod.mk.injEq]
theorem look_in {w : World} {B : Nat} {E : List (PodV × Int)} (h : MV.Is w B (prs E)) {y : PodV × Int} (hy : y ∈ E) : MV.lookV (prs E) y.1.k = some (y.1.ent y.2) :=
  (MV.look_mem h.nodup).2 (prs_mem.2 ⟨y, hy, rfl, rfl⟩)
theorem look_out {E : List (PodV × Int)} {id : Int} (h : id ∉ keysE E) : MV.lookV (prs E) id = none := MV.look_none.2 (by rw [keys_prs]; exact h)
theorem mem_keys {L : List (PodV × Int)} {id : Int} : id ∈ keysE L ↔ ∃ y ∈ L, y.1.k = id := by unfold keysE; simp
/-- The entry at an ID, or the zero entry. -/
structure At (E : List (PodV × Int)) (id : Int) (x : PodV) (r : Int) (b : Bool) : Prop where
  on : b = true → (x, r) ∈ E ∧ x.k = id
  off : b = false → id ∉ keysE E ∧ x = zpod ∧ r = 0
theorem at_ex (E : List (PodV × Int)) (id : Int) : ∃ x r b, At E id x r b := by
  by_cases h : id ∈ keysE E
  · obtain ⟨y, hy, e⟩ := mem_keys.1 h
    exact ⟨y.1, y.2, true, fun _ => ⟨hy, e⟩, fun h => by cases h⟩
  · exact ⟨zpod, 0, false, fun h => by (cases h), fun _ => ⟨h, rfl, rfl⟩⟩
theorem look_at {w : World} {B : Nat} {E : List (PodV × Int)} {id : Int} {x : PodV} {r : Int} {b : Bool} (h : MV.Is w B (prs E)) (a : At E id x r b) :
    (Instr.lookup 53 (.map (some B)) (.int .i64 id) true).run Tryd.prog w = .ok (.tuple #[x.ent r, .bool b]) w := by
  have hl := MV.look2 (P := Tryd.prog) (tM := 53) (tK := 3) (tE := 62) (by kernel_rfl) (by kernel_rfl) Tryd.zeroEntry h id
  cases b with
  | true =>
    obtain ⟨h1, rfl⟩ := a.on rfl
    rw [look_in h h1] at hl
    exact hl
  | false =>
    obtain ⟨h1, rfl, rfl⟩ := a.off rfl
    rw [look_out h1] at hl
    exact hl

/-- A step of a loop over the lot's map. -/
theorem prs_step {T : List (PodV × Int)} {k : Int} {v : Value} {rs : List (Int × Value)} (h : (prs T).Perm ((k, v) :: rs)) : ∃ (x : PodV) (r : Int) (T' : List (PodV × Int)), T.Perm ((x, r) :: T') ∧ k = x.k ∧ v = x.ent r ∧ rs.Perm (prs T') := by
  obtain ⟨y, hy, e1, e2⟩ := prs_mem.1 (h.mem_iff.2 List.mem_cons_self)
  obtain ⟨s, t, rfl⟩ := List.append_of_mem hy
  have hp : (s ++ y :: t).Perm (y :: (s ++ t)) := List.perm_middle
  refine ⟨y.1, y.2, s ++ t, hp, e1.symm, e2.symm, ?_⟩
  have h2 : ((k, v) :: rs).Perm (prs (y :: (s ++ t))) := h.symm.trans (hp.map _)
  have e : prs (y :: (s ++ t)) = (k, v) :: prs (s ++ t) := by rw [← e1, ← e2]; rfl
  rw [e] at h2
  exact (List.perm_cons _).1 h2
theorem prs_nil {T : List (PodV × Int)} (h : prs T = []) : T = [] := by
  cases T with
  | nil => rfl
  | cons y r => cases h

/-! ### Reasons counted -/
def cntE (r : Int) (T : List (PodV × Int)) : Nat := (T.filter fun y => decide (y.2 = r)).length
theorem cnt_perm {r : Int} {T T' : List (PodV × Int)} (h : T.Perm T') : cntE r T = cntE r T' := (h.filter _).length_eq
theorem cnt_cons (r : Int) (x : PodV) (q : Int) (T : List (PodV × Int)) : cntE r ((x, q) :: T) = (if q = r then 1 else 0) + cntE r T := by
  unfold cntE
  by_cases h : q = r
  · rw [List.filter_cons_of_pos (by simp [h]), List.length_cons, if_pos h]; omega
  · rw [List.filter_cons_of_neg (by simp [h]), if_neg h]; omega
theorem cnt_le (r : Int) (T : List (PodV × Int)) : cntE r T ≤ T.length := List.length_filter_le _ _
theorem cnt_nm (r : Int) (E : List (PodV × Int)) : cntE r (E.map nmE) = cntE r E := by
  unfold cntE
  rw [List.filter_map, List.length_map]
  rfl
end Go.Proofs.YtpkpmoiekjhdnaaDoor
