/-
  The store's memory: its struct, its table with its map, its entries. No condition.
-/
import Derived.Test.YtokopegffeablaaDoorCon12
import Derived.Test.YtokopegffeablaaDoorTab12
namespace Go.Proofs.YtokopegffeablaaDoor.T12
open Go.RowKit Go.Sort Go.Lib V12
open Go.ChangeMaps (setBlock)

/-- An entry: its id, its block, its capacity and its usage (where they lie, what they are). -/
structure EnV where
  k : Int
  p : Nat
  A : Option Addr
  c : Nat
  C : Nat → Int
  B : Option Addr
  e : Nat
  U : Nat → Int
def ze : EnV := ⟨0, 0, none, 0, fun _ => 0, none, 0, fun _ => 0⟩
def EnV.nv (x : EnV) : NodeV := ⟨x.k, x.C, x.U⟩
def EnV.kv (x : EnV) : Int × Value := (x.k, .pointer (some ⟨x.p, 0, none⟩))
theorem nv_k (x : EnV) : x.nv.k = x.k := rfl
abbrev ekeys (E : List EnV) : List Int := G.keys EnV.k E
def eget (E : List EnV) (id : Int) : EnV := G.get EnV.k ze E id
theorem kv_keys (E : List EnV) : (E.map EnV.kv).map (·.1) = ekeys E := by unfold ekeys G.keys; rw [List.map_map]; rfl
theorem nv_keys (E : List EnV) : nkeys (E.map EnV.nv) = ekeys E := G.map_keys (ka := EnV.k) (kb := NodeV.k) nv_k E
theorem nv_get (E : List EnV) (id : Int) : (eget E id).nv = nget (E.map EnV.nv) id := G.map_get (ka := EnV.k) (kb := NodeV.k) nv_k ze E id
/-- At a world the entry lies at its block, its rows read as they are. -/
structure EIs (w : World) (d : Nat) (x : EnV) : Prop where
  blk : w.heap[x.p]? = some (.cells #[.int .i64 x.k, .slice x.A d x.c, .slice x.B d x.e] 56 (0, 0))
  rc : Rd w x.A d x.C
  ru : Rd w x.B d x.U
  na : x.A = none → d = 0 ∧ x.c = 0
  nb : x.B = none → d = 0 ∧ x.e = 0
  ta : 0 < d → ∀ b o, x.A = some ⟨b, o, none⟩ → Typ w b 2
  tb : 0 < d → ∀ b o, x.B = some ⟨b, o, none⟩ → Typ w b 2
  ok : NodeOk d x.nv
structure SC (w : World) (d : Nat) (s : Int) (q t m : Nat) (E : List EnV) : Prop where
  hq : w.heap[q]? = some (.cells #[.int .i64 d, .pointer (some ⟨t, 0, none⟩)] 45 (0, 0))
  ex : ∃ l, TMN w s t m l ∧ l.Perm (E.map EnV.kv)
  srt : G.Srt EnV.k E
  is : ∀ x ∈ E, EIs w d x
/-- The blocks that its functions change. -/
def DE (m : Nat) (E : List EnV) (k : Nat) : Prop := k = m ∨ ∃ x ∈ E, k = x.p
/-- All its blocks. -/
def FE (d q t m : Nat) (E : List EnV) (k : Nat) : Prop := k = q ∨ k = t ∨ k = m ∨ ∃ x ∈ E, k = x.p ∨ (0 < d ∧ ((∃ o, x.A = some ⟨k, o, none⟩) ∨ ∃ o, x.B = some ⟨k, o, none⟩))
def SI (w : World) (d : Nat) (s : Int) (q : Nat) (D : Nat → Prop) (L : List NodeV) : Prop := ∃ t m E, SC w d s q t m E ∧ L = E.map EnV.nv ∧ D = DE m E
theorem EIs.keep {w w' : World} {d : Nat} {x : EnV} (h : EIs w d x) (k : Keep w w') : EIs w' d x := ⟨k.block h.blk, h.rc.keep k, h.ru.keep k, h.na, h.nb, fun hn b o e => (h.ta hn b o e).keep k, fun hn b o e => (h.tb hn b o e).keep k, h.ok⟩
theorem lt_blk {w : World} {k : Nat} {o : Obj} (h : w.heap[k]? = some o) : k < w.heap.size := (Array.getElem?_eq_some_iff.1 h).1
theorem cell_blk {w w' : World} {a : Addr} (h : w'.heap[a.block]? = w.heap[a.block]?) : w'.cell? a = w.cell? a := World.cell?_of_block (w := w) h
section
variable {w w' : World} {d : Nat} {s : Int} {q t m : Nat} {E : List EnV}
theorem SC.keep (h : SC w d s q t m E) (k : Keep w w') : SC w' d s q t m E := ⟨k.block h.hq, by obtain ⟨l, a, b⟩ := h.ex; exact ⟨l, a.keep k, b⟩, h.srt, fun x hx => (h.is x hx).keep k⟩
/-- Another world with all its blocks. -/
theorem SC.frame (h : SC w d s q t m E) (f : ∀ k, FE d q t m E k → w'.heap[k]? = w.heap[k]?) : SC w' d s q t m E := by
  refine ⟨(f q (Or.inl rfl)).trans h.hq, ?_, h.srt, fun x hx => ?_⟩
  · obtain ⟨l, a, b⟩ := h.ex
    exact ⟨l, ⟨(f t (Or.inr (Or.inl rfl))).trans a.hp, a.mp.of (f m (Or.inr (Or.inr (Or.inl rfl)))), a.lo, a.hi, a.len⟩, b⟩
  · have hx' := h.is x hx
    refine ⟨(f x.p (Or.inr (Or.inr (Or.inr ⟨x, hx, Or.inl rfl⟩)))).trans hx'.blk, ⟨hx'.rc.small, hx'.rc.range, fun hn => ?_⟩, ⟨hx'.ru.small, hx'.ru.range, fun hn => ?_⟩, hx'.na, hx'.nb, fun hn b o e => (hx'.ta hn b o e).same (f b (Or.inr (Or.inr (Or.inr ⟨x, hx, Or.inr ⟨hn, Or.inl ⟨o, e⟩⟩⟩)))), fun hn b o e => (hx'.tb hn b o e).same (f b (Or.inr (Or.inr (Or.inr ⟨x, hx, Or.inr ⟨hn, Or.inr ⟨o, e⟩⟩⟩)))), hx'.ok⟩
    · obtain ⟨b, off, e, hc⟩ := hx'.rc.adr hn
      exact ⟨b, off, e, fun j hj => (cell_blk (a := ⟨b, off + j, none⟩) (f b (Or.inr (Or.inr (Or.inr ⟨x, hx, Or.inr ⟨hn, Or.inl ⟨off, e⟩⟩⟩))))).trans (hc j hj)⟩
    · obtain ⟨b, off, e, hc⟩ := hx'.ru.adr hn
      exact ⟨b, off, e, fun j hj => (cell_blk (a := ⟨b, off + j, none⟩) (f b (Or.inr (Or.inr (Or.inr ⟨x, hx, Or.inr ⟨hn, Or.inr ⟨off, e⟩⟩⟩))))).trans (hc j hj)⟩
theorem SC.mp (h : SC w d s q t m E) : ∃ es c, w.heap[m]? = some (.map es c) := by
  obtain ⟨l, a, _⟩ := h.ex
  obtain ⟨es, c, e, _⟩ := a.mp.length_le
  exact ⟨es, c, e⟩
theorem SC.hp (h : SC w d s q t m E) : w.heap[t]? = some (.cells #[.int .i64 s, .map (some m)] 67 (0, 0)) := by
  obtain ⟨l, a, _⟩ := h.ex
  exact a.hp
theorem SC.lt (h : SC w d s q t m E) : ∀ k, FE d q t m E k → k < w.heap.size := by
  intro k hk
  rcases hk with rfl | rfl | rfl | ⟨x, hx, h1 | ⟨hd, ⟨o, ha⟩ | ⟨o, ha⟩⟩⟩
  · exact lt_blk h.hq
  · exact lt_blk h.hp
  · obtain ⟨_, _, e⟩ := h.mp
    exact lt_blk e
  · rw [h1]; exact lt_blk (h.is x hx).blk
  · obtain ⟨b, off, e, hc⟩ := (h.is x hx).rc.adr hd
    rw [ha] at e
    simp only [Option.some.injEq, Addr.mk.injEq, and_true] at e
    rw [e.1]
    exact cell_lt (hc 0 hd)
  · obtain ⟨b, off, e, hc⟩ := (h.is x hx).ru.adr hd
    rw [ha] at e
    simp only [Option.some.injEq, Addr.mk.injEq, and_true] at e
    rw [e.1]
    exact cell_lt (hc 0 hd)
/-- A cell's block is not the map's. -/
theorem SC.off (h : SC w d s q t m E) {a : Addr} {v : Value} (hc : w.cell? a = some v) : ¬ a.block = m := fun e => by
  obtain ⟨es, c, e2⟩ := h.mp
  simp [World.cell?, e, e2] at hc
theorem SC.qm (h : SC w d s q t m E) : ¬ q = m := fun e => by
  obtain ⟨es, c, e2⟩ := h.mp
  rw [← e, h.hq] at e2
  cases e2
theorem SC.tm (h : SC w d s q t m E) : ¬ t = m := fun e => by
  obtain ⟨es, c, e2⟩ := h.mp
  rw [← e, h.hp] at e2
  cases e2
theorem SC.xm (h : SC w d s q t m E) {x : EnV} (hx : x ∈ E) : ¬ x.p = m := fun e => by
  obtain ⟨es, c, e2⟩ := h.mp
  rw [← e, (h.is x hx).blk] at e2
  cases e2
theorem SC.xq (h : SC w d s q t m E) {x : EnV} (hx : x ∈ E) : ¬ q = x.p := fun e => by
  have e2 := h.hq
  rw [e, (h.is x hx).blk] at e2
  simp at e2
theorem SC.xt (h : SC w d s q t m E) {x : EnV} (hx : x ∈ E) : ¬ t = x.p := fun e => by
  have e2 := h.hp
  rw [e, (h.is x hx).blk] at e2
  simp at e2
theorem SC.xy (h : SC w d s q t m E) {x y : EnV} (hx : x ∈ E) (hy : y ∈ E) (e : x.p = y.p) : x.k = y.k := by
  have e1 := (h.is x hx).blk
  rw [e, (h.is y hy).blk] at e1
  simp at e1
  exact e1.1.symm
theorem SC.c0 (h : SC w d s q t m E) : w.cell? ⟨q, 0, none⟩ = some (.int .i64 d) := by rw [cell_of_row w q _ _ _ _ h.hq]; rfl
theorem SC.c1 (h : SC w d s q t m E) : w.cell? ⟨q, 1, none⟩ = some (.pointer (some ⟨t, 0, none⟩)) := by rw [cell_of_row w q _ _ _ _ h.hq]; rfl
theorem SC.len (h : SC w d s q t m E) : (E.length : Int) ≤ s := by
  obtain ⟨l, a, b⟩ := h.ex
  have := a.len
  rw [b.length_eq, List.length_map] at this
  exact this
theorem eget_in {id : Int} (h : id ∈ ekeys E) : eget E id ∈ E ∧ (eget E id).k = id := G.get_some h
theorem SC.look_in (h : SC w d s q t m E) {l : List (Int × Value)} (hp : l.Perm (E.map EnV.kv)) {id : Int} (hk : id ∈ ekeys E) : MV.lookV l id = some (.pointer (some ⟨(eget E id).p, 0, none⟩)) := by
  have hn : (l.map (·.1)).Nodup := by rw [(hp.map _).nodup_iff, kv_keys]; exact G.keys_nodup h.srt
  rw [MV.look_mem hn, hp.mem_iff]
  have g := eget_in hk
  refine List.mem_map.2 ⟨eget E id, g.1, ?_⟩
  unfold EnV.kv
  rw [g.2]
theorem look_out {l : List (Int × Value)} (hp : l.Perm (E.map EnV.kv)) {id : Int} (h : id ∉ ekeys E) : MV.lookV l id = none := by
  rw [MV.look_none, (hp.map _).mem_iff, kv_keys]
  exact h
/-- The table's Get. -/
theorem tget_in (h : SC w d s q t m E) {id : Int} (hk : id ∈ ekeys E) : Calls Tryd.prog 40 #[.pointer (some ⟨t, 0, none⟩), .int .i64 id] w fun e w' => e = .returned (.tuple #[.pointer (some ⟨(eget E id).p, 0, none⟩), .bool true]) ∧ w = w' := by
  obtain ⟨l, a, b⟩ := h.ex
  exact tnget_some a id _ (h.look_in b hk)
theorem tget_out (h : SC w d s q t m E) {id : Int} (hk : id ∉ ekeys E) : Calls Tryd.prog 40 #[.pointer (some ⟨t, 0, none⟩), .int .i64 id] w fun e w' => e = .returned (.tuple #[.pointer none, .bool false]) ∧ w = w' := by
  obtain ⟨l, a, b⟩ := h.ex
  exact tnget_none a id (look_out b hk)
/-- The map changed: the entries in the new order, each as it lies. -/
theorem SC.put (h : SC w d s q t m E) {E' : List EnV} {l' : List (Int × Value)} (a : TMN w' s t m l') (b : l'.Perm (E'.map EnV.kv)) (f : Fr (· = m) w w') (hs : G.Srt EnV.k E') (hi : ∀ x ∈ E', EIs w d x) : SC w' d s q t m E' := by
  have h0 : ∀ {a : Addr} {v : Value}, w.cell? a = some v → ¬ a.block = m := fun hc => h.off hc
  refine ⟨(f.block _ (lt_blk h.hq) h.qm).trans h.hq, ⟨l', a, b⟩, hs, fun x hx => ?_⟩
  have hx' := hi x hx
  have nm : ¬ x.p = m := fun e => by
    obtain ⟨es, c, e2⟩ := h.mp
    rw [← e, hx'.blk] at e2
    cases e2
  have rr : ∀ {A : Option Addr} {Z : Nat → Int}, Rd w A d Z → Rd w' A d Z := fun g => ⟨g.small, g.range, fun hn => by
    obtain ⟨b, off, e, hc⟩ := g.adr hn
    exact ⟨b, off, e, fun j hj => f.cell (hc j hj) (h0 (hc j hj))⟩⟩
  have tt : ∀ {b : Nat} {T : TypeId}, Typ w b T → Typ w' b T := fun g => g.same (f.block _ g.lt fun e => by
    obtain ⟨es, c, e2⟩ := h.mp
    obtain ⟨cs, loc, e3⟩ := g
    rw [e, e2] at e3
    cases e3)
  exact ⟨(f.block _ (lt_blk hx'.blk) nm).trans hx'.blk, rr hx'.rc, rr hx'.ru, hx'.na, hx'.nb, fun hn b o e => tt (hx'.ta hn b o e), fun hn b o e => tt (hx'.tb hn b o e), hx'.ok⟩
theorem fr_int (h : SC w d s q t m E) {D : Nat → Prop} (f : Fr (· = m) w w') (hD : ∀ k, k = m → D k) : FrS D w w' := ⟨f.less hD, fun _ _ _ _ hc => f.cell hc (h.off hc)⟩
/-- An entry put into the table: its id is new, there is room. -/
theorem tadd_new (h : SC w d s q t m E) (x : EnV) (hx : EIs w d x) (hk : x.k ∉ ekeys E) (hl : (E.length : Int) < s) : Calls Tryd.prog 22 #[.pointer (some ⟨t, 0, none⟩), .int .i64 x.k, .pointer (some ⟨x.p, 0, none⟩)] w fun e w' => e = .returned .nilIface ∧ SC w' d s q t m (G.ins EnV.k x E) ∧ Fr (· = m) w w' := by
  obtain ⟨l, a, b⟩ := h.ex
  have e : l.length = E.length := by rw [b.length_eq, List.length_map]
  refine (tnadd_new a x.k x.p (look_out b hk) (by omega)).mono fun _ _ ⟨he, ht, hw⟩ => ⟨he, h.put ht ?_ hw (G.ins_sorted h.srt hk) fun y hy => ?_, hw⟩
  · refine List.Perm.trans ?_ ((G.ins_perm x E).map EnV.kv).symm
    rw [List.map_cons]
    exact (List.perm_append_singleton _ _).trans (b.cons _)
  · rcases G.ins_mem.1 hy with rfl | hy
    · exact hx
    · exact h.is y hy
theorem tadd_dup (h : SC w d s q t m E) (k : Int) (p : Nat) (hk : k ∈ ekeys E) : Calls Tryd.prog 22 #[.pointer (some ⟨t, 0, none⟩), .int .i64 k, .pointer (some ⟨p, 0, none⟩)] w fun e w' => e = .returned (err 6) ∧ w = w' := by
  obtain ⟨l, a, b⟩ := h.ex
  exact tnadd_dup a k p _ (h.look_in b hk)
theorem tadd_full (h : SC w d s q t m E) (k : Int) (p : Nat) (hk : k ∉ ekeys E) (hl : (E.length : Int) = s) : Calls Tryd.prog 22 #[.pointer (some ⟨t, 0, none⟩), .int .i64 k, .pointer (some ⟨p, 0, none⟩)] w fun e w' => e = .returned (err 7) ∧ Drawn w w' := by
  obtain ⟨l, a, b⟩ := h.ex
  have e : l.length = E.length := by rw [b.length_eq, List.length_map]
  exact tnadd_full a k p (look_out b hk) (by omega)
/-- An entry's usage changed. -/
theorem tri_last {w : World} {k : Nat} {a b c u : Value} {T : TypeId} (h : w.heap[k]? = some (.cells #[a, b, c] T (0, 0))) : (w.setCell ⟨k, 2, none⟩ u).heap[k]? = some (.cells #[a, b, u] T (0, 0)) := by
  have hlt := lt_blk h
  have h' : w.heap[k] = .cells #[a, b, c] T (0, 0) := by simpa [Array.getElem?_eq_getElem hlt] using h
  show (w.heap.modify k _)[k]? = _
  rw [Array.getElem?_eq_getElem (by simpa using hlt), Array.getElem_modify_self, h']
  rfl
theorem FrS.ent {w : World} {k : Nat} {a b u : Value} {A : Option Addr} {n c : Nat} {T : TypeId} {D : Nat → Prop} (h : w.heap[k]? = some (.cells #[a, b, .slice A n c] T (0, 0))) (hD : D k) : FrS D w (w.setCell ⟨k, 2, none⟩ u) := by
  have f : Fr D w (w.setCell ⟨k, 2, none⟩ u) := Fr.set (Fr.refl D w) (by left; exact hD) u
  refine ⟨f, fun b o kk i hc => ?_⟩
  by_cases e : b = k
  · subst e
    rw [cell_of_row w _ _ _ _ _ h] at hc
    rw [cell_of_row _ _ _ _ _ _ (tri_last (u := u) h)]
    rcases o with _ | _ | _ | o
    · exact hc
    · exact hc
    · cases hc
    · cases hc
  · rw [cell_blk (a := ⟨b, o, none⟩) (Below.heap_setCell w ⟨k, 2, none⟩ u b e)]
    exact hc
theorem SC.used (h : SC w d s q t m E) {id : Int} (hk : id ∈ ekeys E) (B : Option Addr) (e : Nat) (U : Nat → Int) (hr : Rd w B d U) (nb : B = none → d = 0 ∧ e = 0) (tB : 0 < d → ∀ b o, B = some ⟨b, o, none⟩ → Typ w b 2) (ok : NodeOk d ⟨id, (eget E id).C, U⟩) :
    SC (w.setCell ⟨(eget E id).p, 2, none⟩ (.slice B d e)) d s q t m (G.rep EnV.k E { eget E id with B := B, e := e, U := U }) := by
  obtain ⟨hx, hkx⟩ := eget_in hk
  obtain ⟨x, hxx⟩ : ∃ x, x = eget E id := ⟨_, rfl⟩
  rw [← hxx] at hx hkx ok ⊢
  have hX := h.is x hx
  have ht := tri_last (u := .slice B d e) hX.blk
  have f : FrS (fun k => k = x.p) w (w.setCell ⟨x.p, 2, none⟩ (.slice B d e)) := FrS.ent hX.blk rfl
  have ob : ∀ k, k < w.heap.size → ¬ k = x.p → (w.setCell ⟨x.p, 2, none⟩ (.slice B d e)).heap[k]? = w.heap[k]? := fun k hk2 hne => f.fr.block k hk2 hne
  refine ⟨(ob _ (lt_blk h.hq) (h.xq hx)).trans h.hq, ?_, G.rep_sorted h.srt, fun y hy => ?_⟩
  · obtain ⟨l, a, b⟩ := h.ex
    refine ⟨l, ⟨(ob _ a.plt (h.xt hx)).trans a.hp, a.mp.of (ob _ a.mlt (fun e => h.xm hx e.symm)), a.lo, a.hi, a.len⟩, ?_⟩
    have e1 : (G.rep EnV.k E { x with B := B, e := e, U := U }).map EnV.kv = E.map EnV.kv := by
      unfold G.rep
      rw [List.map_map]
      refine List.map_congr_left fun y hy => ?_
      show EnV.kv (if y.k = x.k then _ else y) = EnV.kv y
      by_cases e1 : y.k = x.k
      · rw [if_pos e1]
        have : y = x := by
          have g1 := G.get_at (z := ze) h.srt hy
          have g2 := G.get_at (z := ze) h.srt hx
          rw [e1] at g1
          exact g1.symm.trans g2
        rw [this]
        rfl
      · rw [if_neg e1]
    rw [e1]
    exact b
  · rcases G.rep_mem hy with hy2 | rfl
    · by_cases e1 : y.k = x.k
      · have hy3 : y = { x with B := B, e := e, U := U } := by
          unfold G.rep at hy
          obtain ⟨z, hz, hzy⟩ := List.mem_map.1 hy
          by_cases e3 : z.k = x.k
          · rw [if_pos (by exact e3)] at hzy
            exact hzy.symm
          · rw [if_neg (by exact e3)] at hzy
            rw [hzy] at e3
            exact absurd e1 e3
        rw [hy3]
        exact ⟨ht, f.rd hX.rc, f.rd hr, hX.na, nb, fun hn b o e => (hX.ta hn b o e).set _ _, fun hn b o e => (tB hn b o e).set _ _, by rw [← hkx] at ok; exact ok⟩
      · have hY := h.is y hy2
        exact ⟨(ob _ (lt_blk hY.blk) (fun e2 => e1 (h.xy hy2 hx e2))).trans hY.blk, f.rd hY.rc, f.rd hY.ru, hY.na, hY.nb, fun hn b o e => (hY.ta hn b o e).set _ _, fun hn b o e => (hY.tb hn b o e).set _ _, hY.ok⟩
    · exact ⟨ht, f.rd hX.rc, f.rd hr, hX.na, nb, fun hn b o e => (hX.ta hn b o e).set _ _, fun hn b o e => (tB hn b o e).set _ _, by rw [← hkx] at ok; exact ok⟩
theorem nv_rep {id : Int} (hk : id ∈ ekeys E) (B : Option Addr) (e : Nat) (U : Nat → Int) : (G.rep EnV.k E { eget E id with B := B, e := e, U := U }).map EnV.nv = G.rep NodeV.k (E.map EnV.nv) ⟨id, (nget (E.map EnV.nv) id).C, U⟩ := by
  rw [G.map_rep (ka := EnV.k) (kb := NodeV.k) nv_k, ← nv_get]
  unfold EnV.nv
  rw [(eget_in hk).2]
theorem DE.rep {x : EnV} (hx : x ∈ E) {y : EnV} (hy : y.p = x.p) : ∀ k, DE m (G.rep EnV.k E y) k → DE m E k := by
  intro k hk
  rcases hk with rfl | ⟨z, hz, rfl⟩
  · exact Or.inl rfl
  · rcases G.rep_mem hz with hz | rfl
    · exact Or.inr ⟨z, hz, rfl⟩
    · exact Or.inr ⟨x, hx, hy⟩
theorem SC.si (h : SC w d s q t m E) : SI w d s q (DE m E) (E.map EnV.nv) := ⟨t, m, E, h, rfl, rfl⟩
/-- Its changed blocks are none of another type's cells, and hold no interface. -/
theorem SC.offT (h : SC w d s q t m E) {b : Nat} {T : TypeId} (hb : DE m E b) (ht : Typ w b T) : T = 56 := by
  obtain ⟨cs, loc, e⟩ := ht
  rcases hb with rfl | ⟨x, hx, rfl⟩
  · obtain ⟨es, c, e2⟩ := h.mp
    rw [e] at e2
    cases e2
  · rw [(h.is x hx).blk] at e
    simp at e
    exact e.2.1.symm
/-- Of a block of the store: what type its cells have. -/
theorem SC.feT (h : SC w d s q t m E) {b : Nat} {T : TypeId} (hb : FE d q t m E b) (ht : Typ w b T) : T = 45 ∨ T = 67 ∨ T = 56 ∨ T = 2 := by
  have one : ∀ {T2 : TypeId}, Typ w b T2 → T = T2 := fun g => by
    obtain ⟨cs, loc, e⟩ := ht
    obtain ⟨cs2, loc2, e2⟩ := g
    rw [e] at e2
    simp at e2
    exact e2.2.1
  rcases hb with rfl | rfl | rfl | ⟨x, hx, rfl | ⟨hd, ⟨o, e⟩ | ⟨o, e⟩⟩⟩
  · exact Or.inl (one ⟨_, _, h.hq⟩)
  · exact Or.inr (Or.inl (one ⟨_, _, h.hp⟩))
  · obtain ⟨es, c, e2⟩ := h.mp
    obtain ⟨cs, loc, e⟩ := ht
    rw [e] at e2
    cases e2
  · exact Or.inr (Or.inr (Or.inl (one ⟨_, _, (h.is x hx).blk⟩)))
  · exact Or.inr (Or.inr (Or.inr (one ((h.is x hx).ta hd b o e))))
  · exact Or.inr (Or.inr (Or.inr (one ((h.is x hx).tb hd b o e))))
theorem SC.offV (h : SC w d s q t m E) {a : Addr} {v : Value} (hc : w.cell? a = some v) (hb : DE m E a.block) : ∀ ty x, v ≠ .iface ty x := by
  intro ty z ez
  rcases hb with hb | ⟨x, hx, hb⟩
  · exact h.off hc hb
  · have e := (h.is x hx).blk
    rw [← hb] at e
    subst ez
    simp only [World.cell?, e] at hc
    split at hc
    · cases hc
    · generalize a.off = o at hc
      rcases o with _ | _ | _ | o <;> simp at hc
end
end Go.Proofs.YtokopegffeablaaDoor.T12
