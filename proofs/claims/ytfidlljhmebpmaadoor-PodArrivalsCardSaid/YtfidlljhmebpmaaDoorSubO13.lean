/-
  The store: Submit where the pod is not added. Condition: errors.errorType holds its own.
-/
import Derived.Test.YtfidlljhmebpmaaDoorAppO13
namespace Go.Proofs.YtfidlljhmebpmaaDoor.T13
open Go.RowKit Go.Sort Go.Lib V12

section
variable {w w' : World} {b0 : Nat} {s : Int} {q t m : Nat} {A : Option Addr} {c n : Nat} {P : Nat → PodV}
/-- The table's Add where it adds nothing. -/
def AddNo (w : World) (t : Nat) (id k cc : Int) : Prop := ∀ W, Keep w W → Calls Tryd.prog 43 #[.pointer (some ⟨t, 0, none⟩), .int .i64 id, .int .i64 k] W fun e w' => e = .returned (err cc) ∧ Keep W w'
set_option maxRecDepth 100000 in
set_option maxHeartbeats 8000000 in
theorem pdsubmit_no (h : ST w b0 s q t m A c n P) (hg : ErrT w) (x : PodV) (cc : Int) (hA : AddNo w t x.k n cc) : Calls Tryd.prog 23 #[.pointer (some ⟨q, 0, none⟩), x.val] w fun e w' => e = .returned (.tuple #[zpod.val, flt cc 0]) ∧ Keep w w' := by
  have mixed : Tryd.prog.follows .mixedOrders = true := by kernel_rfl
  obtain ⟨W0, hW0⟩ : ∃ W0, W0 = w.alloc (.cells (podB x) 32) := ⟨_, rfl⟩
  obtain ⟨W, hW⟩ : ∃ W, W = W0.alloc (.cells (podB zpod) 32) := ⟨_, rfl⟩
  have KW : Hid (Keep w W) := by rw [hW, hW0]; exact (Keep.one _ _).alloc _
  obtain ⟨bx, hbx⟩ : ∃ bx, bx = w.heap.size := ⟨_, rfl⟩
  obtain ⟨b, hb⟩ : ∃ b, b = w.heap.size + 1 := ⟨_, rfl⟩
  have hb0 : W0.heap.size = b := by rw [hW0, World.size_alloc, hb]
  have Y : Hid (W.heap[b]? = some (.cells (podB zpod) 32 (0, 0))) := by show _ = _; rw [hW, ← hb0]; exact heap_alloc_new _ _
  have YX : W.heap[bx]? = some (.cells (podB x) 32 (0, 0)) := by rw [hW, hW0, hbx]; exact (Keep.one _ _).block (heap_alloc_new _ _)
  have hE := Lib.hid (fun W => new_fn cc 0 W)
  have x0 := (blk9 YX).e0
  have h1 := h.keep KW.out
  have c0 := h1.c0
  have c1 := h1.c1
  have GW : Hid (∀ W', Keep W W' → ErrT W') := fun W' k => hg.keep (KW.out.trans k)
  have cA : Hid (∀ W', Keep W W' → Calls Tryd.prog 43 #[.pointer (some ⟨t, 0, none⟩), .int .i64 x.k, .int .i64 n] W' fun e w' => e = .returned (err cc) ∧ Keep W' w') := fun W' k => hA W' (KW.out.trans k)
  have cC : Hid (∀ W', Keep W W' → Calls Tryd.prog 42 #[err cc] W' fun e w' => e = .returned (.tuple #[.int .i64 cc, .bool true]) ∧ Keep W' w') := fun W' k => code_yes cc [] (.code cc) _ W' (.base _) (Or.inl rfl) (GW.out W' k)
  have hbw : Hid (w.heap.size ≤ b) := by show _ ≤ _; omega
  unfold podB at hW hW0
  unfold zpod at hW
  have c0e := c0
  rw [hW, hW0] at c0e
  unfold PodV.val zpod flt
  unfold Base.val at *
  unfold err at cA cC
  clear h h1 hg YX hA
  go_enter Tryd.func23, Tryd.ntmps23
  go_wp2_with fail
  clear c0e
  rw [← hW0, ← hW, ← hb]
  try rw [← hbx]
  replace hW := Lib.hid hW
  replace hW0 := Lib.hid hW0
  replace hb := Lib.hid hb
  replace hbx := Lib.hid hbx
  replace hb0 := Lib.hid hb0
  go_region_held3 (fun w' => w'.cell? ⟨q, 1, none⟩ = some (.pointer (some ⟨t, 0, none⟩)) ∧ w'.cell? ⟨bx, 0, none⟩ = some (.int .i64 x.k))
    (first
      | ((refine (fun (KK : Keep W _) => ⟨KK.cell c1, KK.cell x0⟩) ?_; repeat (with_reducible first | exact Keep.refl W | apply Keep.drew | apply Keep.drewN | exact k6.out | exact k7.out)); done))
    (first
      | (go_at_call 43; refine (cA.out _ (by repeat (with_reducible first | exact Keep.refl W | apply Keep.drew | apply Keep.drewN))).mono ?_; rintro e w6 ⟨rfl, k6⟩; replace k6 := Lib.hid ((by repeat (with_reducible first | exact Keep.refl W | apply Keep.drew | apply Keep.drewN) : Keep W _).trans k6))
      | (go_at_call 42; refine (cC.out _ (by repeat (with_reducible first | exact Keep.refl W | apply Keep.drew | apply Keep.drewN | exact k6.out))).mono ?_; rintro e w7 ⟨rfl, k7⟩; replace k7 := Lib.hid ((by repeat (with_reducible first | exact Keep.refl W | apply Keep.drew | apply Keep.drewN | exact k6.out) : Keep W _).trans k7)))
  all_goals
    have Y7 := k7.out.block Y.out
    have B5 : Hid ((put9 w7 b zpod).heap[b]? = some (.cells (podB zpod) 32 (0, 0))) := put9_heap _ zpod Y7
    have K5 : Hid (Keep w (put9 w7 b zpod)) := put9_keep _ (KW.out.trans k7.out) hbw.out
    obtain ⟨d0, d1, d2, d3, d4, d5, d6, d7, d8, g0⟩ := blk9 Y7
    unfold zpod at d0 d1 d2 d3 d4 d5 d6 d7 d8
    clear c0 c1 x0 Y7 Y k6 k7 cA cC
    go_wp2_with fail
    refine (hE.out _).mono ?_
    rintro e w8 ⟨rfl, rfl⟩
    go_wp2
    obtain ⟨e0, e1, e2, e3, e4, e5, e6, e7, e8, _⟩ := blk9 B5.out
    unfold put9 zpod at *
    refine bodyPost_ret (v := .tuple #[.agg #[.int .i64 0, .int .i64 0, .bool false, .int .i64 0, .slice none 0 0, .int .i64 0, .int .i64 0, .int .i64 0, .int .i64 0], .iface 88 (.agg #[.int .i64 cc, .int .i64 0])]) (by simp [results, Tryd.results23, go_sem, e0, e1, e2, e3, e4, e5, e6, e7, e8]) rfl ⟨rfl, K5.out⟩
theorem addno_dup (h : ST w b0 s q t m A c n P) {id : Int} (hk : id ∈ keys (lst P n)) (k : Int) : AddNo w t id k 6 := fun W kW => by
  obtain ⟨j, hj, e⟩ := key_at hk
  have h1 := h.keep kW
  refine (tbadd_dup h1.tb id k j (by rw [← e]; exact h1.look_in hj)).mono ?_
  rintro e w' ⟨rfl, rfl⟩
  exact ⟨rfl, Keep.refl _⟩
theorem addno_full (h : ST w b0 s q t m A c n P) {id : Int} (hk : id ∉ keys (lst P n)) (hs : s ≤ n) (k : Int) : AddNo w t id k 7 := fun W kW => by
  have h1 := h.keep kW
  have hl := h1.tb.len
  rw [prs_len] at hl
  refine (tbadd_full h1.tb id k (look_out hk) ?_).mono ?_
  · rw [prs_len]
    split at hl <;> split <;> omega
  · rintro e w' ⟨rfl, d⟩
    exact ⟨rfl, d.below⟩
end
end Go.Proofs.YtfidlljhmebpmaaDoor.T13
