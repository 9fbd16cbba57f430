/-
  The store: Add in one form; Drop. Conditions: errors.errorType holds its own; at most 1000 amounts, 64 dimensions.
-/
import Derived.Test.YtokopegffeablaaGreatDoorAddN12
namespace Go.Proofs.YtokopegffeablaaGreatDoor.T12
open Go.RowKit Go.Sort Go.Lib V12

section
variable {w w' : World} {d : Nat} {s : Int} {q t m : Nat} {E : List EnV}
theorem NodeV.ext' {a b : NodeV} (h1 : a.k = b.k) (h2 : a.C = b.C) (h3 : a.U = b.U) : a = b := by cases a; cases b; cases h1; cases h2; cases h3; rfl
theorem nadd_fn (h : SC w d s q t m E) (hg : ErrT w) (k : Int) (A : Option Addr) (n c : Nat) (Z : Nat → Int) (hA : Rd w A n Z) (nilA : A = none → n = 0 ∧ c = 0) (hk : I64 k) (hd : d ≤ 64) :
    Calls Tryz.prog 15 #[.pointer (some ⟨q, 0, none⟩), .agg #[.int .i64 k, .slice A n c]] w fun e w' => e = .returned (fltC (addC (E.map EnV.nv) d s k n Z) (addI d n Z)) ∧ After w w' d s q t m E (addL (E.map EnV.nv) d s k n Z) := by
  unfold addL addC addI
  rw [nv_keys, List.length_map]
  by_cases hw : 0 ≤ wrongOf n Z d
  · simp only [if_pos hw]
    rw [if_neg (by decide)]
    refine (nadd_wrong h k A n c Z hA hw).mono fun e w' ⟨he, hk⟩ => ⟨?_, After.same h hk⟩
    rw [he]
    unfold fltC
    rw [if_neg (by decide)]
  · simp only [if_neg hw]
    obtain ⟨rfl, hz⟩ := wrong_no hw
    refine (nadd_ok h hg k A c Z hA nilA hw hk hz hd).mono fun e w' ⟨he, x, e1, e2, e3, hs, hf, hp, ha, hb⟩ => ⟨he, ?_⟩
    have ev : x.nv = ⟨k, Z, fun _ => 0⟩ := NodeV.ext' e1 e2 e3
    have hf' : FrS (DE m E) w w' := ⟨hf.fr.less fun _ e => Or.inl e, hf.int⟩
    by_cases h1 : k ∈ ekeys E
    · simp only [if_pos h1] at hs ⊢
      rw [if_neg (by decide)]
      exact ⟨E, hs, rfl, hf', fun _ h => Or.inl h, fun _ h => Or.inl h⟩
    · simp only [if_neg h1] at hs ⊢
      by_cases h2 : s ≤ (E.length : Int)
      · simp only [if_pos h2] at hs ⊢
        rw [if_neg (by decide)]
        exact ⟨E, hs, rfl, hf', fun _ h => Or.inl h, fun _ h => Or.inl h⟩
      · simp only [if_neg h2] at hs ⊢
        rw [if_pos trivial]
        refine ⟨_, hs, ?_, hf', fun i hi => ?_, fun i hi => ?_⟩
        · rw [G.map_ins (ka := EnV.k) (kb := NodeV.k) nv_k, ev]
        · rcases hi with rfl | ⟨y, hy, rfl⟩
          · exact Or.inl (Or.inl rfl)
          · rcases G.ins_mem.1 hy with rfl | hy
            · exact Or.inr hp
            · exact Or.inl (Or.inr ⟨y, hy, rfl⟩)
        · rcases hi with rfl | rfl | rfl | ⟨y, hy, h3⟩
          · exact Or.inl (Or.inl rfl)
          · exact Or.inl (Or.inr (Or.inl rfl))
          · exact Or.inl (Or.inr (Or.inr (Or.inl rfl)))
          · rcases G.ins_mem.1 hy with rfl | hy
            · rcases h3 with rfl | ⟨hd, ⟨o, h3⟩ | ⟨o, h3⟩⟩
              · exact Or.inr hp
              · obtain ⟨b, o2, e, hb⟩ := ha hd
                rw [e] at h3
                simp only [Option.some.injEq, Addr.mk.injEq, and_true] at h3
                exact Or.inr (by omega)
              · obtain ⟨b, o2, e, hb⟩ := hb hd
                rw [e] at h3
                simp only [Option.some.injEq, Addr.mk.injEq, and_true] at h3
                exact Or.inr (by omega)
            · exact Or.inl (Or.inr (Or.inr (Or.inr ⟨y, hy, h3⟩)))
/-- The table's Remove. -/
theorem trem_in (h : SC w d s q t m E) {id : Int} (hk : id ∈ ekeys E) : Calls Tryz.prog 44 #[.pointer (some ⟨t, 0, none⟩), .int .i64 id] w fun e w' => e = .returned (.tuple #[.pointer (some ⟨(eget E id).p, 0, none⟩), .bool true]) ∧ SC w' d s q t m (G.wo EnV.k E id) ∧ Fr (· = m) w w' := by
  obtain ⟨l, a, b⟩ := h.ex
  refine (tnrem_some a id _ (h.look_in b hk)).mono fun e w' ⟨he, ht, hw⟩ => ⟨he, h.put ht ?_ hw (G.wo_sorted h.srt) fun x hx => h.is x (G.wo_mem.1 hx).1, hw⟩
  have e2 : (G.wo EnV.k E id).map EnV.kv = (E.map EnV.kv).filter fun x => decide (x.1 ≠ id) := by
    unfold G.wo
    rw [List.filter_map]
    rfl
  rw [e2]
  exact b.filter _
set_option maxRecDepth 100000 in
set_option maxHeartbeats 4000000 in
theorem ndrop_out (h : SC w d s q t m E) {id : Int} (hk : id ∉ ekeys E) : Calls Tryz.prog 24 #[.pointer (some ⟨q, 0, none⟩), .int .i64 id] w fun e w' => e = .returned (.tuple #[.agg #[.int .i64 0, .slice none 0 0], flt 5 0]) ∧ Keep w w' := by
  obtain ⟨W, hW⟩ : ∃ W, W = w.alloc (.cells #[.int .i64 0, .slice none 0 0] 36) := ⟨_, rfl⟩
  have KW : Hid (Keep w W) := by rw [hW]; exact Keep.one _ _
  obtain ⟨b, hb⟩ : ∃ b, b = w.heap.size := ⟨_, rfl⟩
  have Y : W.heap[b]? = some (.cells #[.int .i64 0, .slice none 0 0] 36 (0, 0)) := by rw [hW, hb]; exact heap_alloc_new _ _
  have hF := Lib.hid (find_out (h.keep KW.out) hk)
  have hn := Lib.hid (fun W => new_fn 5 0 W)
  obtain ⟨y0, y1, yf⟩ := cel2 Y
  have B5 : Hid (((W.setCell ⟨b, 0, none⟩ (.int .i64 0)).setCell ⟨b, 1, none⟩ (.slice none 0 0)).heap[b]? = some (.cells #[.int .i64 0, .slice none 0 0] 36 (0, 0))) := two_set Y
  have K5 : Hid (Keep w ((W.setCell ⟨b, 0, none⟩ (.int .i64 0)).setCell ⟨b, 1, none⟩ (.slice none 0 0))) := two_keep KW.out (by omega)
  replace Y := Lib.hid Y
  unfold flt
  obtain ⟨fv, hfv⟩ : ∃ fv, fv = (Base.fault 5 0).val := ⟨_, rfl⟩
  rw [← hfv] at hn ⊢
  replace hfv := Lib.hid hfv
  clear h hk
  go_enter Tryz.func24, Tryz.ntmps24
  go_wp2_with fail
  rw [← hW, ← hb]
  replace hW := Lib.hid hW
  replace hb := Lib.hid hb
  refine hF.out.mono ?_
  rintro e w1 ⟨rfl, rfl⟩
  go_wp2_with fail
  refine (hn.out _).mono ?_
  rintro e w1 ⟨rfl, rfl⟩
  go_wp2
  obtain ⟨z0, z1, _⟩ := cel2 B5.out
  refine bodyPost_ret (v := .tuple #[.agg #[.int .i64 0, .slice none 0 0], fv]) (by simp [results, Tryz.results24, go_sem, z0, z1]) rfl ⟨rfl, K5.out⟩
set_option maxRecDepth 100000 in
set_option maxHeartbeats 4000000 in
theorem ndrop_in (h : SC w d s q t m E) {id : Int} (hk : id ∈ ekeys E) : Calls Tryz.prog 24 #[.pointer (some ⟨q, 0, none⟩), .int .i64 id] w fun e w' => e = .returned (.tuple #[.agg #[.int .i64 id, .slice (eget E id).A d (eget E id).c], .nilIface]) ∧ Rd w' (eget E id).A d (eget E id).C ∧ After w w' d s q t m E (dropL (E.map EnV.nv) id) := by
  obtain ⟨W, hW⟩ : ∃ W, W = w.alloc (.cells #[.int .i64 0, .slice none 0 0] 36) := ⟨_, rfl⟩
  have KW : Hid (Keep w W) := by rw [hW]; exact Keep.one _ _
  obtain ⟨b, hb⟩ : ∃ b, b = w.heap.size := ⟨_, rfl⟩
  have Y : Hid (W.heap[b]? = some (.cells #[.int .i64 0, .slice none 0 0] 36 (0, 0))) := by rw [hW, hb]; exact heap_alloc_new _ _
  have h1 := h.keep KW.out
  have hF := Lib.hid (find_in h1 hk)
  have hR := Lib.hid (trem_in h1 hk)
  have c1 := h1.c1
  have hx := eget_in hk
  have hX := h1.is _ hx.1
  have hxm : ¬ (eget E id).p = m := h1.xm hx.1
  have hbm : ¬ b = m := by
    obtain ⟨y0, _, _⟩ := cel2 Y.out
    exact h1.off (a := ⟨b, 0, none⟩) y0
  have blk : Hid (∀ w1, Fr (· = m) W w1 → w1.heap[(eget E id).p]? = some (.cells #[.int .i64 id, .slice (eget E id).A d (eget E id).c, .slice (eget E id).B d (eget E id).e] 67 (0, 0))) := fun w1 f => by
    have := hX.blk
    rw [hx.2] at this
    exact (f.block _ (lt_blk this) hxm).trans this
  have blkY : Hid (∀ w1, Fr (· = m) W w1 → w1.heap[b]? = some (.cells #[.int .i64 0, .slice none 0 0] 36 (0, 0))) := fun w1 f => (f.block _ (lt_blk Y.out) hbm).trans Y.out
  have hbw : w.heap.size ≤ b := by omega
  have fin : Hid (∀ w1, SC w1 d s q t m (G.wo EnV.k E id) → Fr (· = m) W w1 → Rd ((w1.setCell ⟨b, 0, none⟩ (.int .i64 id)).setCell ⟨b, 1, none⟩ (.slice (eget E id).A d (eget E id).c)) (eget E id).A d (eget E id).C ∧ After w ((w1.setCell ⟨b, 0, none⟩ (.int .i64 id)).setCell ⟨b, 1, none⟩ (.slice (eget E id).A d (eget E id).c)) d s q t m E (dropL (E.map EnV.nv) id)) := fun w1 hs hf => by
    have kb : Keep w w1 → True := fun _ => trivial
    have f2 : Fr (fun k => k = b) w1 ((w1.setCell ⟨b, 0, none⟩ (.int .i64 id)).setCell ⟨b, 1, none⟩ (.slice (eget E id).A d (eget E id).c)) := two_fr
    -- the blocks of the store are below w's size, but what the map's block is
    have low : ∀ k, FE d q t m E k → k < w.heap.size := h.lt
    have nb : ∀ k, FE d q t m E k → ¬ k = b := fun k hk2 e => by have := low k hk2; omega
    have sub : ∀ k, FE d q t m (G.wo EnV.k E id) k → FE d q t m E k := fun k hk2 => by
      rcases hk2 with rfl | rfl | rfl | ⟨y, hy, h3⟩
      · exact Or.inl rfl
      · exact Or.inr (Or.inl rfl)
      · exact Or.inr (Or.inr (Or.inl rfl))
      · exact Or.inr (Or.inr (Or.inr ⟨y, (G.wo_mem.1 hy).1, h3⟩))
    have int : ∀ b2 o k i, w.cell? ⟨b2, o, none⟩ = some (.int k i) → ((w1.setCell ⟨b, 0, none⟩ (.int .i64 id)).setCell ⟨b, 1, none⟩ (.slice (eget E id).A d (eget E id).c)).cell? ⟨b2, o, none⟩ = some (.int k i) := fun b2 o k i hc => by
      have hlt : b2 < w.heap.size := cell_lt hc
      rw [two_other (show b2 ≠ b by omega)]
      exact (fr_int h1 hf (D := fun k => k = m) fun _ e => e).int b2 o k i (KW.out.cell hc)
    have fs : FrS (DE m E) w ((w1.setCell ⟨b, 0, none⟩ (.int .i64 id)).setCell ⟨b, 1, none⟩ (.slice (eget E id).A d (eget E id).c)) := by
      refine ⟨⟨(f2.os.trans hf.os).trans KW.out.os, (f2.tape.trans hf.tape).trans KW.out.tape, (f2.output.trans hf.output).trans KW.out.output, Nat.le_trans KW.out.size (Nat.le_trans hf.size f2.size), fun k hk2 hn => ?_⟩, int⟩
      rw [two_block (show k ≠ b by omega)]
      exact (hf.block k (Nat.lt_of_lt_of_le hk2 KW.out.size) (fun e => hn (Or.inl e))).trans (Below.block KW.out k hk2)
    refine ⟨fs.rd (h.is _ hx.1).rc, G.wo EnV.k E id, hs.frame fun k hk2 => two_block (nb k (sub k hk2)), ?_, fs, fun k hk2 => ?_, fun k hk2 => Or.inl (sub k hk2)⟩
    · exact G.map_wo (ka := EnV.k) (kb := NodeV.k) nv_k E id
    · rcases hk2 with rfl | ⟨y, hy, rfl⟩
      · exact Or.inl (Or.inl rfl)
      · exact Or.inl (Or.inr ⟨y, (G.wo_mem.1 hy).1, rfl⟩)
  obtain ⟨x, hxx⟩ : ∃ x, x = eget E id := ⟨_, rfl⟩
  rw [← hxx] at hF hR blk fin ⊢
  obtain ⟨p, hp⟩ : ∃ p, p = x.p := ⟨_, rfl⟩
  rw [← hp] at hF hR blk
  obtain ⟨M, hM⟩ : ∃ M, M = dropL (E.map EnV.nv) id := ⟨_, rfl⟩
  rw [← hM] at fin ⊢
  replace hM := Lib.hid hM
  replace hp := Lib.hid hp
  replace hxx := Lib.hid hxx
  replace hx := Lib.hid hx
  replace hX := Lib.hid hX
  replace hxm := Lib.hid hxm
  replace hbm := Lib.hid hbm
  replace hbw := Lib.hid hbw
  clear h h1 hk
  go_enter Tryz.func24, Tryz.ntmps24
  go_wp2_with fail
  rw [← hW, ← hb]
  replace hW := Lib.hid hW
  replace hb := Lib.hid hb
  refine hF.out.mono ?_
  rintro e w1 ⟨rfl, rfl⟩
  go_wp2_with fail
  refine hR.out.mono ?_
  rintro e w1 ⟨rfl, hs, hf⟩
  obtain ⟨d0, d1, d2, _⟩ := tri_cel (blk.out w1 hf)
  obtain ⟨y0, y1, yf⟩ := cel2 (blkY.out w1 hf)
  have B5 : Hid (((w1.setCell ⟨b, 0, none⟩ (.int .i64 id)).setCell ⟨b, 1, none⟩ (.slice x.A d x.c)).heap[b]? = some (.cells #[.int .i64 id, .slice x.A d x.c] 36 (0, 0))) := two_set (blkY.out w1 hf)
  have FIN := Lib.hid (fin.out w1 hs hf)
  replace hs := Lib.hid hs
  replace hf := Lib.hid hf
  clear c1
  go_wp2
  obtain ⟨z0, z1, _⟩ := cel2 B5.out
  refine bodyPost_ret (v := .tuple #[.agg #[.int .i64 id, .slice x.A d x.c], .nilIface]) (by simp [results, Tryz.results24, go_sem, z0, z1]) rfl ⟨rfl, FIN.out⟩
end
end Go.Proofs.YtokopegffeablaaGreatDoor.T12
