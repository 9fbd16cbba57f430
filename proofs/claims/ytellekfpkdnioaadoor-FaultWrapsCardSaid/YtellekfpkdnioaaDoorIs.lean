/-
  errors.Is at a code, for every chain that has one; at a fault, for that fault. No condition.
-/
import Derived.Test.YtellekfpkdnioaaDoorEq
namespace Go.Proofs.YtellekfpkdnioaaDoor
open Go.RowKit Go.Extern.Stop Go.Stop Go.Extern

set_option maxRecDepth 100000 in
set_option maxHeartbeats 4000000 in
theorem is_yes (c : Int) (ks0 : List Int) (b0 : Base) (v0 : Value) (w : World) (hch : Chain w ks0 b0 v0) (hb0 : hasCode c b0) :
    Calls Tryd.prog 34 #[v0, .iface 29 (.int .i64 c), .bool true] w fun e w' => e = .returned (.bool true) ∧ Keep w w' := by
  have q1 : ∀ W, (binOp .eql 27 (.iface 29 (.int .i64 c)) (.iface 29 (.int .i64 c))).run Tryd.prog W = .ok (.bool true) W := fun W => by rw [Tryd.eqCode]; simp
  have q2 := fun x n : Int => Tryd.neFaultCode (.agg #[.int .i64 x, .int .i64 n]) (.int .i64 c)
  have q3 := fun p : Option Addr => Tryd.neLocCode (.pointer p) (.int .i64 c)
  have n1 := Tryd.noIsLoc
  have n2 := Tryd.noIsFault
  have n3 := Tryd.noIsCode
  have u1 := Tryd.unLoc
  have u2 := Tryd.unFault
  have u3 := Tryd.noUnCode
  have v3 := Tryd.noUnsCode
  have m1 := Tryd.mUnLoc
  have m2 := Tryd.mUnFault
  skip
  replace hch := Lib.hid hch
  replace hb0 := Lib.hid hb0
  go_enter Tryd.func34, Tryd.ntmps34
  go_wp2
  go_loopg [0] (depth ks0 b0) (fun g v wr => ∃ ks b, Chain w ks b v ∧ hasCode c b ∧ g = depth ks b ∧ Keep w wr)
  case atStart => exact ⟨ks0, b0, hch.out, hb0.out, rfl, Keep.refl _⟩
  case round =>
    obtain ⟨ks, b, hc1, hb, rfl, hk⟩ := hrel
    rcases hc1.open with ⟨rfl, rfl⟩ | ⟨k, ks, o, v, rfl, rfl, h1, h2, hc2⟩
    · have hk1 := Lib.hid hk
      clear hk hc1
      cases b with
      | code x =>
        obtain rfl : x = c := by rcases hb with h | ⟨n, h⟩ <;> cases h; rfl
        clear hb
        unfold Base.val
        go_wp2
        go_ret
        exact ⟨rfl, hk1.out⟩
      | fault x n =>
        obtain rfl : x = c := by rcases hb with h | ⟨n, h⟩ <;> cases h; rfl
        clear hb
        unfold Base.val
        go_wp2_with (go_at_call 73; refine (unwrap_fault _ _ _).mono ?_; rintro e w9 ⟨rfl, hk3⟩; replace hk3 := Lib.hid hk3; unfold Base.val)
        go_roundg 0
        case measure => simp [depth]
        case rel => exact ⟨[], .code x, .base _, Or.inl rfl, rfl, hk1.out.trans hk3.out⟩
      | text x => rcases hb with h | ⟨n, h⟩ <;> cases h
    · obtain ⟨tv, xv, rfl⟩ := hc2.iface
      have hg2 := hk.cell h2
      have hc3 := Lib.hid hc2
      have hb1 := Lib.hid hb
      have hk1 := Lib.hid hk
      clear hb h1 h2 hc2 hk hc1
      go_wp2_with (go_at_call 75; refine (unwrap_loc _ _ _ hg2).mono ?_; rintro e w9 ⟨rfl, rfl⟩)
      go_roundg (depth ks b)
      case measure => unfold depth; split <;> simp
      case rel => exact ⟨ks, b, hc3.out, hb1.out, rfl, hk1.out⟩

set_option maxRecDepth 100000 in
set_option maxHeartbeats 4000000 in
theorem is_no (c y : Int) (ks0 : List Int) (b0 : Base) (v0 : Value) (w : World) (hch : Chain w ks0 b0 v0) (hb0 : hasCode c b0) (hne : c ≠ y) :
    Calls Tryd.prog 34 #[v0, .iface 29 (.int .i64 y), .bool true] w fun e w' => e = .returned (.bool false) ∧ Keep w w' := by
  have q1 : ∀ W, (binOp .eql 27 (.iface 29 (.int .i64 c)) (.iface 29 (.int .i64 y))).run Tryd.prog W = .ok (.bool false) W := fun W => by rw [Tryd.eqCode]; simp [hne]
  have q2 := fun x n : Int => Tryd.neFaultCode (.agg #[.int .i64 x, .int .i64 n]) (.int .i64 y)
  have q3 := fun p : Option Addr => Tryd.neLocCode (.pointer p) (.int .i64 y)
  have n1 := Tryd.noIsLoc
  have n2 := Tryd.noIsFault
  have n3 := Tryd.noIsCode
  have u1 := Tryd.unLoc
  have u2 := Tryd.unFault
  have u3 := Tryd.noUnCode
  have v3 := Tryd.noUnsCode
  have m1 := Tryd.mUnLoc
  have m2 := Tryd.mUnFault
  clear hne
  replace hch := Lib.hid hch
  replace hb0 := Lib.hid hb0
  go_enter Tryd.func34, Tryd.ntmps34
  go_wp2
  go_loopg [0] (depth ks0 b0) (fun g v wr => ∃ ks b, Chain w ks b v ∧ hasCode c b ∧ g = depth ks b ∧ Keep w wr)
  case atStart => exact ⟨ks0, b0, hch.out, hb0.out, rfl, Keep.refl _⟩
  case round =>
    obtain ⟨ks, b, hc1, hb, rfl, hk⟩ := hrel
    rcases hc1.open with ⟨rfl, rfl⟩ | ⟨k, ks, o, v, rfl, rfl, h1, h2, hc2⟩
    · have hk1 := Lib.hid hk
      clear hk hc1
      cases b with
      | code x =>
        obtain rfl : x = c := by rcases hb with h | ⟨n, h⟩ <;> cases h; rfl
        clear hb
        unfold Base.val
        go_wp2
        go_ret
        exact ⟨rfl, hk1.out⟩
      | fault x n =>
        obtain rfl : x = c := by rcases hb with h | ⟨n, h⟩ <;> cases h; rfl
        clear hb
        unfold Base.val
        go_wp2_with (go_at_call 73; refine (unwrap_fault _ _ _).mono ?_; rintro e w9 ⟨rfl, hk3⟩; replace hk3 := Lib.hid hk3; unfold Base.val)
        go_roundg 0
        case measure => simp [depth]
        case rel => exact ⟨[], .code x, .base _, Or.inl rfl, rfl, hk1.out.trans hk3.out⟩
      | text x => rcases hb with h | ⟨n, h⟩ <;> cases h
    · obtain ⟨tv, xv, rfl⟩ := hc2.iface
      have hg2 := hk.cell h2
      have hc3 := Lib.hid hc2
      have hb1 := Lib.hid hb
      have hk1 := Lib.hid hk
      clear hb h1 h2 hc2 hk hc1
      go_wp2_with (go_at_call 75; refine (unwrap_loc _ _ _ hg2).mono ?_; rintro e w9 ⟨rfl, rfl⟩)
      go_roundg (depth ks b)
      case measure => unfold depth; split <;> simp
      case rel => exact ⟨ks, b, hc3.out, hb1.out, rfl, hk1.out⟩

set_option maxRecDepth 100000 in
set_option maxHeartbeats 4000000 in
theorem is_fault (x n : Int) (w : World) :
    Calls Tryd.prog 34 #[.iface 40 (.agg #[.int .i64 x, .int .i64 n]), .iface 40 (.agg #[.int .i64 x, .int .i64 n]), .bool true] w fun e w' => e = .returned (.bool true) ∧ w = w' := by
  have q1 := eq_faults x n
  go_enter Tryd.func34, Tryd.ntmps34
  go_wp2
  refine wp_loop_rounds 1 ?_
  rw [rounds_succ]
  go_wp2
  go_ret
  exact ⟨rfl, rfl⟩
set_option maxRecDepth 100000 in
set_option maxHeartbeats 4000000 in
theorem Is_of (tv : TypeId) (xv : Value) (t : TypeId) (u : Value) (w : World) (R : World → Prop)
    (hT : ∀ W, (ReflectliteType.typeOf #[.iface t u]).run Tryd.prog W = .ok (.iface 86 (.agg #[.pointer (some ⟨6, t, none⟩)])) W)
    (hC : ∀ W, ((ReflectliteType.method fun t => do Rtype.noPackHeld "Comparable" t; (fun a : TypeInfo => Value.bool a.comparable) <$> typeInfo t) #[.agg #[.pointer (some ⟨6, t, none⟩)]]).run Tryd.prog W = .ok (.bool true) W)
    (b : Bool) (h : Calls Tryd.prog 34 #[.iface tv xv, .iface t u, .bool true] w fun e w' => e = .returned (.bool b) ∧ R w') :
    Calls Tryd.prog 18 #[.iface tv xv, .iface t u] w fun e w' => e = .returned (.bool b) ∧ R w' := by
  have h33 := @run_callFunc_extern Tryd.prog 33 _ ReflectliteType.typeOf Tryd.func33 (by kernel_rfl) (by kernel_rfl) (by kernel_rfl) (by kernel_rfl)
  have h87 := @run_callFunc_extern Tryd.prog 87 _ (ReflectliteType.method fun t => do Rtype.noPackHeld "Comparable" t; pure (.bool (← typeInfo t).comparable)) Tryd.func87 (by kernel_rfl) (by kernel_rfl) (by kernel_rfl) (by kernel_rfl)
  have mC := Tryd.rMethodComparable
  replace h := Lib.hid h
  go_enter Tryd.func18, Tryd.ntmps18
  go_wp2_with (go_at_call 34; refine h.out.mono ?_; rintro e w' ⟨rfl, hr⟩)
  go_ret
  exact ⟨rfl, hr⟩
theorem Is_yes (c : Int) (ks : List Int) (b : Base) (v : Value) (w : World) (hch : Chain w ks b v) (hb : hasCode c b) :
    Calls Tryd.prog 18 #[v, .iface 29 (.int .i64 c)] w fun e w' => e = .returned (.bool true) ∧ Keep w w' := by
  have h := is_yes c ks b v w hch hb
  obtain ⟨tv, xv, rfl⟩ := hch.iface
  exact Is_of tv xv _ _ w (fun w' => Keep w w') (Tryd.rTypeOfCode _) Tryd.cmpCode true h
theorem Is_no (c y : Int) (ks : List Int) (b : Base) (v : Value) (w : World) (hch : Chain w ks b v) (hb : hasCode c b) (hne : c ≠ y) :
    Calls Tryd.prog 18 #[v, .iface 29 (.int .i64 y)] w fun e w' => e = .returned (.bool false) ∧ Keep w w' := by
  have h := is_no c y ks b v w hch hb hne
  obtain ⟨tv, xv, rfl⟩ := hch.iface
  exact Is_of tv xv _ _ w (fun w' => Keep w w') (Tryd.rTypeOfCode _) Tryd.cmpCode false h
theorem Is_fault (x n : Int) (w : World) :
    Calls Tryd.prog 18 #[.iface 40 (.agg #[.int .i64 x, .int .i64 n]), .iface 40 (.agg #[.int .i64 x, .int .i64 n])] w fun e w' => e = .returned (.bool true) ∧ w = w' :=
  Is_of _ _ _ _ w (fun w' => w = w') (Tryd.rTypeOfFault _) Tryd.cmpFault true (is_fault x n w)
end Go.Proofs.YtellekfpkdnioaaDoor
