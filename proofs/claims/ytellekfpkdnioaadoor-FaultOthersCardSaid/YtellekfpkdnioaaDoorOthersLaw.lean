/-
  FaultOthers: the walk. Condition: the three listed variables hold their own.
-/
import Derived.Test.YtellekfpkdnioaaDoorAwake
namespace Go.Proofs.YtellekfpkdnioaaDoor
open Go.RowKit Go.Extern.Stop Go.Stop Go.Extern

set_option maxRecDepth 100000 in
set_option maxHeartbeats 8000000 in
theorem others_walk (s : ByteArray) (k : Int) (hs0 : s.size ≤ 9223372036854775807) (w : World) (hv : Vars w) : Calls Tryd.prog 6 #[.string s, .int .i64 k] w fun e w' => e = .returned (.bool true) ∧ Keep w w' := by
  have hv := Lib.hid hv
  by_cases hs : s.size ≤ 100
  · go_enter Tryd.func6, Tryd.ntmps6
    go_wp2_with fail
    refine (awake_true _ hv.out).mono ?_
    rintro e w1 ⟨rfl, h⟩
    have k1 := Lib.hid h
    replace h := Lib.hid h
    go_wp2_with fail
    refine (enew_fn s _).mono ?_
    rintro e w' ⟨rfl, rfl⟩
    unfold Base.val
    go_wp2_with fail
    refine (in_fn k _ _ _).mono ?_
    rintro e w' ⟨rfl, rfl⟩
    have hC : Hid (Chain ((w1.alloc (.cells #[.string s] 82)).alloc (.cells #[.int .i64 k, .iface 80 (.pointer (some ⟨w1.heap.size, 0, none⟩))] 59)) [k] (.text ⟨w1.heap.size, 0, none⟩) (.iface 55 (.pointer (some ⟨w1.heap.size + 1, 0, none⟩)))) := by
      have h := (Chain.base (w := w1.alloc (.cells #[.string s] 82)) (.text ⟨w1.heap.size, 0, none⟩)).in_ k
      rw [show (w1.alloc (.cells #[.string s] 82)).heap.size = w1.heap.size + 1 by simp] at h
      exact h
    have k2 := Lib.hid ((k1.out.alloc (.cells #[.string s] 82)).alloc (.cells #[.int .i64 k, .iface 80 (.pointer (some ⟨w1.heap.size, 0, none⟩))] 59))
    have hp : Hid (((w1.alloc (.cells #[.string s] 82)).alloc (.cells #[.int .i64 k, .iface 80 (.pointer (some ⟨w1.heap.size, 0, none⟩))] 59)).cell? ⟨w1.heap.size + 1, 0, none⟩ = some (.int .i64 k)) := by
      show _ = _
      rw [World.cell?_alloc_at _ _ _ _ (by simp)]; rfl
    have hV := Lib.hid (hv.out.keep k2.out)
    go_wp2_with fail
    refine (code_no [k] (.text ⟨w1.heap.size, 0, none⟩) _ _ hC.out trivial hV.out.err).mono ?_
    rintro e w2 ⟨rfl, h⟩
    have j2 := Lib.hid h
    replace h := Lib.hid h
    go_wp2_with fail
    refine (at_no [k] (.text ⟨w1.heap.size, 0, none⟩) _ _ (hC.out.keep j2.out) trivial (hV.out.keep j2.out).err).mono ?_
    rintro e w3 ⟨rfl, h⟩
    have j3 := Lib.hid (j2.out.trans h)
    replace h := Lib.hid h
    go_wp2_with fail
    refine (place_yes k _ _ (j3.out.cell hp.out) (hV.out.keep j3.out).err).mono ?_
    rintro e w4 ⟨rfl, h⟩
    have j4 := Lib.hid (j3.out.trans h)
    replace h := Lib.hid h
    go_wp2_with fail
    refine (harm_no [k] (.text ⟨w1.heap.size, 0, none⟩) _ _ (hC.out.keep j4.out) trivial (hV.out.keep j4.out).err).mono ?_
    rintro e w5 ⟨rfl, h⟩
    have j5 := Lib.hid (j4.out.trans h)
    replace h := Lib.hid h
    go_wp2
    go_ret
    exact ⟨rfl, k2.out.trans j5.out⟩
  · go_enter Tryd.func6, Tryd.ntmps6
    go_wp2_with fail
    refine (awake_true _ hv.out).mono ?_
    rintro e w1 ⟨rfl, h⟩
    have k1 := Lib.hid h
    replace h := Lib.hid h
    go_wp2_with fail
    refine (awake_true _ (hv.out.keep k1.out)).mono ?_
    rintro e w2 ⟨rfl, h⟩
    have k2 := Lib.hid (k1.out.trans h)
    replace h := Lib.hid h
    go_wp2
    go_ret
    exact ⟨rfl, k2.out⟩
end Go.Proofs.YtellekfpkdnioaaDoor
