/-
  errors.as at the target *api.Code, for every chain. No condition but that the target is a cell that may be written.
-/
import Derived.Test.YtfidlljhmebpmaaDoorErrs
namespace Go.Proofs.YtfidlljhmebpmaaDoor
open Go.RowKit Go.Extern.Stop Go.Stop Go.Extern

/-- An error was found: only the target's block has turned, and it is no more frozen than it was. -/
def Hit (t : Addr) (w w' : World) : Prop := w.grownBy w' (some t.block) ∧ ∀ i, w'.frozen? ⟨t.block, i, none⟩ = w.frozen? ⟨t.block, i, none⟩
theorem Hit.of_keep {t : Addr} {w wr : World} (h : Keep w wr) (ht : t.block < w.heap.size) (o : Obj) (x : Value) : Hit t w ((wr.alloc o).setCell t x) := by
  have hk := h.alloc o
  refine ⟨⟨hk.os, hk.tape, hk.output, ?_, fun k hk2 hne => ?_⟩, fun i => ?_⟩
  · have := hk.size; simpa [World.setCell] using this
  · rw [Below.heap_setCell _ _ _ _ (by intro e; apply hne; rw [e]), Below.block hk k hk2]
  · rw [World.frozen?_setCell, Below.frozen hk (p := ⟨t.block, i, none⟩) ht]
theorem frozen_keep {w w' : World} {t : Addr} (h : Keep w w') (ht : t.block < w.heap.size) : w'.frozen? t = w.frozen? t := Below.frozen h ht

/-- How often the chain can be unwrapped. -/
def depth (ks : List Int) : Base → Nat
  | .fault _ _ => ks.length + 1
  | _ => ks.length
def hasCode (c : Int) (b : Base) : Prop := b = .code c ∨ ∃ n, b = .fault c n

set_option maxRecDepth 100000 in
set_option maxHeartbeats 4000000 in
theorem as_code_yes (c : Int) (ks0 : List Int) (b0 : Base) (v0 : Value) (w : World) (a t : Addr) (old : Value) (hch : Chain w ks0 b0 v0) (hb0 : hasCode c b0)
    (ht : w.cell? t = some old) (hf : w.frozen? t = false) (ha : w.cell? a = some (.pointer (some t))) :
    Calls Tryd.prog 62 #[v0, .iface 101 (.pointer (some t)), .agg #[.pointer (some ⟨1, 101, none⟩), .pointer (some a), .int .u64 150], .iface 115 (.agg #[.pointer (some ⟨1, 77, none⟩)])] w
      fun e w' => e = .returned (.bool true) ∧ Hit t w w' ∧ w'.cell? t = some (.int .i64 c) := by
  have hv := @run_callFunc_extern Tryd.prog 59 _ (fun args => ReflectliteValue.unpack (args.getD 0 (.tuple #[]))) Tryd.func59 (by kernel_rfl) (by kernel_rfl) (by kernel_rfl) (by kernel_rfl)
  have hT := @run_callFunc_extern Tryd.prog 63 _ ReflectliteType.typeOf Tryd.func63 (by kernel_rfl) (by kernel_rfl) (by kernel_rfl) (by kernel_rfl)
  have hA := @run_callFunc_extern Tryd.prog 91 _ (ReflectliteType.relation "AssignableTo" ReflectliteType.assignableTo) Tryd.func91 (by kernel_rfl) (by kernel_rfl) (by kernel_rfl) (by kernel_rfl)
  have hE := @run_callFunc_extern Tryd.prog 64 _ (ReflectliteValue.method (ReflectliteValue.valueError "reflectlite.Value.Elem" 0) ReflectliteValue.elem) Tryd.func64 (by kernel_rfl) (by kernel_rfl) (by kernel_rfl) (by kernel_rfl)
  have hS := @run_callFunc_extern Tryd.prog 65 _ ReflectliteValue.set Tryd.func65 (by kernel_rfl) (by kernel_rfl) (by kernel_rfl) (by kernel_rfl)
  have t1 := Tryd.rTypeOfCode
  have t2 := Tryd.rTypeOfFault
  have mA := Tryd.rMethodAssignableTo
  have a1 := Tryd.rAssignCodeToCode
  have a2 := Tryd.rAssignFaultToCode
  have n2 := Tryd.noAsFault
  have u2 := Tryd.unFault
  have m2 := Tryd.mUnFault
  have hvc := Tryd.rUnpackCode
  go_enter Tryd.func62, Tryd.ntmps62
  go_wp2
  go_loopg [0] (depth ks0 b0) (fun g v wr => ∃ ks b, Chain w ks b v ∧ hasCode c b ∧ g = depth ks b ∧ Keep (w.alloc (.cells #[.pointer (some ⟨1, 101, none⟩), .pointer (some a), .int .u64 150] 105)) wr)
  case atStart => exact ⟨ks0, b0, hch, hb0, rfl, Keep.refl _⟩
  case round =>
    obtain ⟨ks, b, hc1, hb, rfl, hk⟩ := hrel
    have hk0 : Keep w wr := (Keep.one w _).trans hk
    have k0 := hk.cell (a := ⟨w.heap.size, 0, none⟩) (v := .pointer (some ⟨1, 101, none⟩)) (by simp)
    have k1 := hk.cell (a := ⟨w.heap.size, 0 + 1, none⟩) (v := .pointer (some a)) (by simp)
    have k2 := hk.cell (a := ⟨w.heap.size, 0 + 2, none⟩) (v := .int .u64 150) (by simp)
    have hE2 := Tryd.rElemVCode a t wr (hk0.cell ha)
    have hlt := cell_lt ht
    have hkt := hk0.cell ht
    have hkf : wr.frozen? t = false := by rw [frozen_keep hk0 hlt]; exact hf
    have hs2 := Tryd.rSetCode t ⟨wr.heap.size, 0, none⟩ c old (wr.alloc (.cells #[.int .i64 c] 77)) (by simp) (by rw [World.cell?_alloc_lt _ _ t (cell_lt hkt)]; exact hkt) (by rw [World.frozen?_alloc_old _ _ t (Nat.ne_of_lt (cell_lt hkt))]; exact hkf)
    have hlt0 := Lib.hid hlt
    have hfin : ((wr.alloc (.cells #[.int .i64 c] 77)).setCell t (.int .i64 c)).cell? t = some (.int .i64 c) :=
      World.cell?_setCell_same _ _ _ (u := old) (by rw [World.cell?_alloc_lt _ _ t (cell_lt hkt)]; exact hkt)
    replace hfin := Lib.hid hfin
    have hk1 := Lib.hid hk
    have hk2 := Lib.hid hk0
    clear hk0 hch hb0 ht hf ha hkt hkf hlt
    rcases hc1.open with ⟨rfl, rfl⟩ | ⟨k, ks, o, v, rfl, rfl, h1, h2, hc2⟩
    · clear hk hc1
      cases b with
      | code x =>
        obtain rfl : x = c := by rcases hb with h | ⟨n, h⟩ <;> cases h; rfl
        clear hb
        unfold Base.val
        go_wp2
        go_ret
        exact ⟨rfl, Hit.of_keep hk2.out hlt0.out _ _, hfin.out⟩
      | fault x n =>
        obtain rfl : x = c := by rcases hb with h | ⟨n, h⟩ <;> cases h; rfl
        clear hb hs2
        unfold Base.val
        go_wp2_with (go_at_call 86; refine (unwrap_fault _ _ _).mono ?_; rintro e w9 ⟨rfl, hk3⟩; replace hk3 := Lib.hid hk3; unfold Base.val)
        go_roundg 0
        case measure => simp [depth]
        case rel => exact ⟨[], .code x, .base _, Or.inl rfl, rfl, hk1.out.trans hk3.out⟩
      | text x => rcases hb with h | ⟨n, h⟩ <;> cases h
    · exact h1.elim
end Go.Proofs.YtfidlljhmebpmaaDoor
