/-
  The store: Get, Used, Free. Conditions: at most 64 dimensions.
-/
import Derived.Test.YtokopegffeablaaDoorChg12
namespace Go.Proofs.YtokopegffeablaaDoor.T12
open Go.RowKit Go.Sort Go.Lib V12

section
variable {w w' : World} {d : Nat} {s : Int} {q t m : Nat} {E : List EnV}
set_option maxRecDepth 100000 in
set_option maxHeartbeats 4000000 in
theorem nused_in (h : SC w d s q t m E) {id : Int} (hk : id ∈ ekeys E) (hd : d ≤ 64) : Calls Tryd.prog 11 #[.pointer (some ⟨q, 0, none⟩), .int .i64 id] w fun e w' => ∃ A c, e = .returned (.slice A d c) ∧ Row w w' A d c (eget E id).U ∧ Keep w w' := by
  have hF := Lib.hid (find_in h hk)
  have hx := h.is _ (eget_in hk).1
  obtain ⟨_, _, c2, _⟩ := tri_cel hx.blk
  have cC := Lib.hid (sclone_fn _ d _ _ w hx.ru hx.nb (by omega))
  obtain ⟨x, hxx⟩ : ∃ x, x = eget E id := ⟨_, rfl⟩
  rw [← hxx] at hF c2 cC ⊢
  obtain ⟨p, hp⟩ : ∃ p, p = x.p := ⟨_, rfl⟩
  rw [← hp] at hF c2
  replace hp := Lib.hid hp
  replace hxx := Lib.hid hxx
  clear h hk hx
  go_enter Tryd.func11, Tryd.ntmps11
  go_wp2_with fail
  refine hF.out.mono ?_
  rintro e w1 ⟨rfl, rfl⟩
  go_wp2_with fail
  refine cC.out.mono ?_
  rintro e w1 ⟨A, c, rfl, R, k⟩
  have R := Lib.hid R
  have k := Lib.hid k
  clear c2
  go_wp2
  go_ret
  exact ⟨A, c, rfl, R.out, k.out⟩
theorem nused_out (h : SC w d s q t m E) {id : Int} (hk : id ∉ ekeys E) : Calls Tryd.prog 11 #[.pointer (some ⟨q, 0, none⟩), .int .i64 id] w fun e w' => e = .returned (.slice none 0 0) ∧ Keep w w' := by
  have hF := Lib.hid (find_out h hk)
  clear h hk
  go_enter Tryd.func11, Tryd.ntmps11
  go_wp2_with fail
  refine hF.out.mono ?_
  rintro e w1 ⟨rfl, rfl⟩
  go_wp2
  go_ret
  exact ⟨rfl, Keep.refl _⟩
theorem nused_nil (w : World) (id : Int) : Calls Tryd.prog 11 #[.pointer none, .int .i64 id] w fun e w' => e = .returned (.slice none 0 0) ∧ Keep w w' := by
  have hF := Lib.hid (find_nil w id)
  go_enter Tryd.func11, Tryd.ntmps11
  go_wp2_with fail
  refine hF.out.mono ?_
  rintro e w1 ⟨rfl, rfl⟩
  go_wp2
  go_ret
  exact ⟨rfl, Keep.refl _⟩
set_option maxRecDepth 100000 in
set_option maxHeartbeats 4000000 in
theorem nfree_in (h : SC w d s q t m E) {id : Int} (hk : id ∈ ekeys E) (hd : d ≤ 64) : Calls Tryd.prog 12 #[.pointer (some ⟨q, 0, none⟩), .int .i64 id] w fun e w' => ∃ A c, e = .returned (.slice A d c) ∧ Row w w' A d c (fun j => (eget E id).C j - (eget E id).U j) ∧ Keep w w' := by
  have hF := Lib.hid (find_in h hk)
  have hx := h.is _ (eget_in hk).1
  obtain ⟨_, c1, c2, _⟩ := tri_cel hx.blk
  have cS : Hid (∀ W, Keep w W → Calls Tryd.prog 31 #[.slice (eget E id).A d (eget E id).c, .slice (eget E id).B d (eget E id).e] W fun e w' => ∃ g, e = .returned (.tuple #[.slice (some ⟨g, 0, none⟩) d d, .bool true]) ∧ Row w w' (some ⟨g, 0, none⟩) d d (fun j => (eget E id).C j - (eget E id).U j) ∧ Keep w w') := fun W k => by
    have rg : ∀ j, j < d → 0 ≤ (eget E id).U j ∧ (eget E id).U j ≤ (eget E id).C j ∧ (eget E id).C j ≤ 1099511627776 := fun j hj => ⟨hx.ok.lo j hj, hx.ok.hi j hj, hx.ok.max j hj⟩
    refine (sub_any _ _ d d (eget E id).c (eget E id).e _ _ W (hx.rc.keep k) (hx.ru.keep k) (by omega)).mono ?_
    rintro e w' ⟨k1, ⟨_, he, hr⟩ | ⟨no, _⟩⟩
    · exact ⟨_, he, row_is hr k.size (by omega) (fun j hj => by have := rg j hj; omega), k.trans k1⟩
    · refine absurd ⟨rfl, fun j hj => ?_⟩ no
      have := rg j hj
      unfold subOk
      exact decide_eq_true (by omega)
  obtain ⟨x, hxx⟩ : ∃ x, x = eget E id := ⟨_, rfl⟩
  rw [← hxx] at hF c1 c2 cS ⊢
  obtain ⟨p, hp⟩ : ∃ p, p = x.p := ⟨_, rfl⟩
  rw [← hp] at hF c1 c2
  replace hp := Lib.hid hp
  replace hxx := Lib.hid hxx
  have hpl := cell_lt c1
  clear h hk hx
  go_enter Tryd.func12, Tryd.ntmps12
  go_wp2_with fail
  refine hF.out.mono ?_
  rintro e w1 ⟨rfl, rfl⟩
  go_wp2_with fail
  go_region_held3 (fun w' => w'.cell? ⟨p, 1, none⟩ = some (.slice x.A d x.c) ∧ w'.cell? ⟨p, 2, none⟩ = some (.slice x.B d x.e))
    (first
      | ((refine (fun (KK : Keep w _) => ⟨KK.cell c1, KK.cell c2⟩) ?_; repeat (with_reducible first | exact Keep.refl w | apply Keep.drew | apply Keep.drewN | exact k6.out)); done))
    (first | (go_at_call 31; refine (cS.out _ (by repeat (with_reducible first | exact Keep.refl w | apply Keep.drew | apply Keep.drewN))).mono ?_; rintro e w6 ⟨g, rfl, R6, k6⟩; replace k6 := Lib.hid k6; replace R6 := Lib.hid R6))
  all_goals
    clear c1 c2 cS
    go_wp2
    go_ret
    exact ⟨_, _, rfl, R6.out, k6.out⟩
theorem nfree_out (h : SC w d s q t m E) {id : Int} (hk : id ∉ ekeys E) : Calls Tryd.prog 12 #[.pointer (some ⟨q, 0, none⟩), .int .i64 id] w fun e w' => e = .returned (.slice none 0 0) ∧ Keep w w' := by
  have hF := Lib.hid (find_out h hk)
  clear h hk
  go_enter Tryd.func12, Tryd.ntmps12
  go_wp2_with fail
  refine hF.out.mono ?_
  rintro e w1 ⟨rfl, rfl⟩
  go_wp2
  go_ret
  exact ⟨rfl, Keep.refl _⟩
set_option maxRecDepth 100000 in
set_option maxHeartbeats 4000000 in
theorem nget_in (h : SC w d s q t m E) {id : Int} (hk : id ∈ ekeys E) (hd : d ≤ 64) : Calls Tryd.prog 13 #[.pointer (some ⟨q, 0, none⟩), .int .i64 id] w fun e w' => ∃ A c, e = .returned (.tuple #[.agg #[.int .i64 id, .slice A d c], .bool true]) ∧ Row w w' A d c (eget E id).C ∧ Keep w w' := by
  obtain ⟨W, hW⟩ : ∃ W, W = w.alloc (.cells #[.int .i64 0, .slice none 0 0] 31) := ⟨_, rfl⟩
  have KW : Hid (Keep w W) := by rw [hW]; exact Keep.one _ _
  obtain ⟨b, hb⟩ : ∃ b, b = w.heap.size := ⟨_, rfl⟩
  have Y : Hid (W.heap[b]? = some (.cells #[.int .i64 0, .slice none 0 0] 31 (0, 0))) := by rw [hW, hb]; exact heap_alloc_new _ _
  have hsz : Hid (W.heap.size = b + 1) := by show _ = _; rw [hW, World.size_alloc, hb]
  have h1 := h.keep KW.out
  have hF := Lib.hid (find_in h1 hk)
  have hx := h1.is _ (eget_in hk).1
  have e0 := (eget_in hk).2
  obtain ⟨c0, c1, _, _⟩ := tri_cel hx.blk
  have cC := clone_fn (eget E id).k _ d _ _ W hx.rc hx.na (by omega)
  rw [e0] at c0 cC
  replace cC := Lib.hid cC
  obtain ⟨x, hxx⟩ : ∃ x, x = eget E id := ⟨_, rfl⟩
  rw [← hxx] at hF c0 c1 cC ⊢
  obtain ⟨p, hp⟩ : ∃ p, p = x.p := ⟨_, rfl⟩
  rw [← hp] at hF c0 c1
  replace hp := Lib.hid hp
  replace hxx := Lib.hid hxx
  have hbw : Hid (w.heap.size ≤ b) := by show _ ≤ _; omega
  clear h h1 hk hx e0
  go_enter Tryd.func13, Tryd.ntmps13
  go_wp2_with fail
  rw [← hW, ← hb]
  replace hW := Lib.hid hW
  replace hb := Lib.hid hb
  refine hF.out.mono ?_
  rintro e w1 ⟨rfl, rfl⟩
  go_wp2_with fail
  refine cC.out.mono ?_
  rintro e w1 ⟨A, c, rfl, R, k⟩
  obtain ⟨y0, y1, yf⟩ := cel2 (k.block Y.out)
  have R := Lib.hid R
  have k := Lib.hid k
  clear c0 c1 cC
  have B5 : Hid (((w1.setCell ⟨b, 0, none⟩ (.int .i64 id)).setCell ⟨b, 1, none⟩ (.slice A d c)).heap[b]? = some (.cells #[.int .i64 id, .slice A d c] 31 (0, 0))) := two_set (k.out.block Y.out)
  have K5 : Hid (Keep w ((w1.setCell ⟨b, 0, none⟩ (.int .i64 id)).setCell ⟨b, 1, none⟩ (.slice A d c))) := two_keep (KW.out.trans k.out) hbw.out
  have R5 : Hid (Row w ((w1.setCell ⟨b, 0, none⟩ (.int .i64 id)).setCell ⟨b, 1, none⟩ (.slice A d c)) A d c x.C) := (R.out.fr two_fr fun b2 o e hp hd => by
    obtain ⟨b', o', e', hb', _⟩ := R.out.new hp
    rw [e] at e'
    have e2 := Option.some.inj e'
    simp only [Addr.mk.injEq, and_true] at e2
    have := hsz.out
    omega).low KW.out.size
  go_wp2
  obtain ⟨z0, z1, _⟩ := cel2 B5.out
  refine bodyPost_ret (v := .tuple #[.agg #[.int .i64 id, .slice A d c], .bool true]) (by simp [results, Tryd.results13, go_sem, z0, z1]) rfl ⟨A, c, rfl, R5.out, K5.out⟩
set_option maxRecDepth 100000 in
set_option maxHeartbeats 4000000 in
theorem nget_out (h : SC w d s q t m E) {id : Int} (hk : id ∉ ekeys E) : Calls Tryd.prog 13 #[.pointer (some ⟨q, 0, none⟩), .int .i64 id] w fun e w' => e = .returned (.tuple #[.agg #[.int .i64 0, .slice none 0 0], .bool false]) ∧ Keep w w' := by
  obtain ⟨W, hW⟩ : ∃ W, W = w.alloc (.cells #[.int .i64 0, .slice none 0 0] 31) := ⟨_, rfl⟩
  have KW : Hid (Keep w W) := by rw [hW]; exact Keep.one _ _
  obtain ⟨b, hb⟩ : ∃ b, b = w.heap.size := ⟨_, rfl⟩
  have Y : W.heap[b]? = some (.cells #[.int .i64 0, .slice none 0 0] 31 (0, 0)) := by rw [hW, hb]; exact heap_alloc_new _ _
  have hF := Lib.hid (find_out (h.keep KW.out) hk)
  obtain ⟨y0, y1, yf⟩ := cel2 Y
  have B5 : Hid (((W.setCell ⟨b, 0, none⟩ (.int .i64 0)).setCell ⟨b, 1, none⟩ (.slice none 0 0)).heap[b]? = some (.cells #[.int .i64 0, .slice none 0 0] 31 (0, 0))) := two_set Y
  have K5 : Hid (Keep w ((W.setCell ⟨b, 0, none⟩ (.int .i64 0)).setCell ⟨b, 1, none⟩ (.slice none 0 0))) := two_keep KW.out (by omega)
  replace Y := Lib.hid Y
  clear h hk
  go_enter Tryd.func13, Tryd.ntmps13
  go_wp2_with fail
  rw [← hW, ← hb]
  replace hW := Lib.hid hW
  replace hb := Lib.hid hb
  refine hF.out.mono ?_
  rintro e w1 ⟨rfl, rfl⟩
  go_wp2
  obtain ⟨z0, z1, _⟩ := cel2 B5.out
  refine bodyPost_ret (v := .tuple #[.agg #[.int .i64 0, .slice none 0 0], .bool false]) (by simp [results, Tryd.results13, go_sem, z0, z1]) rfl ⟨rfl, K5.out⟩
end
end Go.Proofs.YtokopegffeablaaDoor.T12
