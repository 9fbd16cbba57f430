/-
  The fixed examples of stage 3 hold. Condition: the listed variables hold their own.
-/
import Derived.Test.YtflkeabjcbjkhaaDoorCheck3
namespace Go.Proofs.YtflkeabjcbjkhaaDoor
open Go.RowKit Go.Extern.Stop Go.Stop Go.Extern

def pick {α : Type} (a b : α) : Nat → α
  | 0 => a
  | _ + 1 => b
theorem Rd.two {w : World} (a b : Int) {B : Nat} (hB : B = w.heap.size) (ha : -9223372036854775808 ≤ a ∧ a ≤ 9223372036854775807) (hb : -9223372036854775808 ≤ b ∧ b ≤ 9223372036854775807) :
    Rd (w.alloc (.cells #[.int .i64 a, .int .i64 b] 2)) (some ⟨B, 0, none⟩) 2 (pick a b) := by
  subst hB
  refine Rd.ofRow (World.rowIs_alloc w #[.int .i64 a, .int .i64 b] 2 (fun k => .int .i64 (pick a b k)) (fun i hi => ?_)) (by omega) (fun k hk => ?_)
  · match i, hi with
    | 0, _ => rfl
    | 1, _ => rfl
  · match k, hk with
    | 0, _ => exact ha
    | 1, _ => exact hb
theorem code3_yes (c : Int) (ks : List Int) (b : Base) (v : Value) (w : World) (hch : Chain w ks b v) (hb : hasCode c b) (hg : ErrT w) :
    Calls Tryd.prog 13 #[v] w fun e w' => e = .returned (.int .i64 c) ∧ Keep w w' := by
  have h := Lib.hid (code_yes c ks b v w hch hb hg)
  clear hch hb hg
  go_enter Tryd.func13, Tryd.ntmps13
  go_wp2_with (go_at_call 39; refine h.out.mono ?_; rintro e w' ⟨rfl, hr⟩)
  go_ret
  exact ⟨rfl, hr⟩
theorem code3_nil (w : World) : Calls Tryd.prog 13 #[.nilIface] w fun e w' => e = .returned (.int .i64 0) ∧ Keep w w' := by
  go_enter Tryd.func13, Tryd.ntmps13
  go_wp2_with (go_at_call 39; refine (code_nil _).mono ?_; rintro e w' ⟨rfl, hr⟩)
  go_ret
  exact ⟨rfl, hr⟩
theorem Wrapped.chain {k x y : Int} {w' : World} {b : Nat} (h1 : w'.cell? ⟨b, 0, none⟩ = some (.int .i64 k)) (h2 : w'.cell? ⟨b, 0 + 1, none⟩ = some (Base.fault x y).val) :
    Chain w' [k] (.fault x y) (.iface 58 (.pointer (some ⟨b, 0, none⟩))) := .wrap k [] _ b _ h1 h2 (.base _)
theorem osame_is (k i c n : Int) (f : Bool) (A : Option Addr) (m cp : Nat) (Z : Nat → Int) (k' i' c' n' : Int) (f' : Bool) (B : Option Addr) (m' cp' : Nat) (Y : Nat → Int) (w : World) (hA : Rd w A m Z) (hB : Rd w B m' Y) (b : Bool) (hs : sameO k i c n f k' i' c' n' f' (sameB (kM k m) Z (kM k' m') Y) = b) :
    Calls Tryd.prog 19 #[.agg #[.int .i64 k, .int .i64 i, .int .i64 c, .int .i64 n, .bool f, .slice A m cp], .agg #[.int .i64 k', .int .i64 i', .int .i64 c', .int .i64 n', .bool f', .slice B m' cp']] w fun e w' => e = .returned (.bool b) ∧ Keep w w' := by
  rw [← hs]; exact osame_fn k i c n f A m cp Z k' i' c' n' f' B m' cp' Y w hA hB _ rfl
theorem rd_of_own {w : World} {base n cap : Nat} {A : Option Addr} {Z : Nat → Int} {w0 : World} {B : Option Addr} (h : w.ownsRow base 2 1 (.slice A n cap) n (rowL n Z)) (h0 : Rd w0 B n Z) : Rd w A n Z := Rd.own h h0.small h0.range
theorem own_none {w : World} {base n cap : Nat} {A : Option Addr} {xs : List Value} (h : w.ownsRow base 2 1 (.slice A n cap) n xs) : A = none → n = 0 ∧ cap = 0 := by
  obtain ⟨A', cap', e, h0⟩ := own_form h
  simp only [Value.slice.injEq] at e
  obtain ⟨rfl, _, rfl⟩ := e
  exact h0

theorem Tryd.fld5 (k i c n : Int) (f : Bool) (A : Option Addr) (m cp : Nat) (w : World) : (Instr.field 24 (.agg #[.int .i64 k, .int .i64 i, .int .i64 c, .int .i64 n, .bool f, .slice A m cp]) 5).run Tryd.prog w = .ok (.slice A m cp) w := by kernel_rfl

set_option maxRecDepth 100000 in
set_option maxHeartbeats 16000000 in
theorem awake_true (w : World) (hv : Vars w) : Calls Tryd.prog 8 #[] w fun e w' => e = .returned (.bool true) ∧ Keep w w' := by
  have hv := Lib.hid hv
  have hR := Lib.hid (Rd.two (w := w) 3 4 rfl (by decide) (by decide))
  have fld := Tryd.fld5
  go_enter Tryd.func8, Tryd.ntmps8
  go_wp2_with fail
  refine (pod_fn 1 2 5 _ 2 2 (pick 3 4) _ hR.out (fun h => by cases h) (by omega)).mono ?_
  rintro e w1 ⟨A, cp, rfl, k1, hown⟩
  have hA := Lib.hid (rd_of_own hown hR.out)
  have h0 := Lib.hid (own_none hown)
  have k2 : Keep w w1 := (Keep.one _ _).trans k1
  clear hown k1 hR
  replace k2 := Lib.hid k2
  go_wp2_with fail
  have X1 := Box.new w1 (.int .i64 4) (.int .i64 1) (.int .i64 2) (.int .i64 5) (.bool false) (.slice A 2 cp)
  have k0 := k2.out.alloc (.cells #[.int .i64 4, .int .i64 1, .int .i64 2, .int .i64 5, .bool false, .slice A 2 cp] 24)
  replace hA := hA.out.keep (Keep.one w1 (.cells #[.int .i64 4, .int .i64 1, .int .i64 2, .int .i64 5, .bool false, .slice A 2 cp] 24))
  obtain ⟨b0, hb0⟩ : ∃ b0, b0 = w1.heap.size := ⟨_, rfl⟩
  obtain ⟨w0, hw0⟩ : ∃ w0, w0 = w1.alloc (.cells #[.int .i64 4, .int .i64 1, .int .i64 2, .int .i64 5, .bool false, .slice A 2 cp] 24) := ⟨_, rfl⟩
  rw [← hb0] at X1 ⊢
  rw [← hw0] at X1 k0 hA ⊢
  have p0 := X1.ce0
  have p1 := X1.ce1
  have p2 := X1.ce2
  have p3 := X1.ce3
  have p4 := X1.ce4
  have p5 := X1.ce5
  have hV := Lib.hid (hv.out.keep k0)
  replace hA := Lib.hid hA
  replace k0 := Lib.hid k0
  clear X1 hw0 hb0 k2 hv
  refine (ocheck_some 4 1 2 5 false A 2 cp (pick 3 4) 3 _ hV.out hA.out (by decide) 3 2 (by decide +kernel)).mono ?_
  rintro e w2 ⟨b, rfl, c0, c1, K2⟩
  have hC := Lib.hid (Wrapped.chain c0 c1)
  replace K2 := Lib.hid K2
  clear c0 c1
  go_wp2_with fail
  refine (at_yes 3 2 [4] _ _ hC.out (hV.out.keep K2.out).err).mono ?_
  rintro e w3 ⟨rfl, L3⟩
  have K3 := Lib.hid (K2.out.trans L3)
  have q0 := K3.out.cell p0
  have q1 := K3.out.cell p1
  have q2 := K3.out.cell p2
  have q3 := K3.out.cell p3
  have q4 := K3.out.cell p4
  have q5 := K3.out.cell p5
  replace L3 := Lib.hid L3
  go_wp2_with fail
  go_region_held3 (fun w' => w'.cell? ⟨b0, 0, none⟩ = some (.int .i64 4) ∧ w'.cell? ⟨b0, 1, none⟩ = some (.int .i64 1) ∧ w'.cell? ⟨b0, 2, none⟩ = some (.int .i64 2) ∧ w'.cell? ⟨b0, 3, none⟩ = some (.int .i64 5) ∧ w'.cell? ⟨b0, 4, none⟩ = some (.bool false) ∧ w'.cell? ⟨b0, 5, none⟩ = some (.slice A 2 cp))
    (first | assumption | exact ⟨q0, q1, q2, q3, q4, q5⟩ | exact ⟨K13.out.cell p0, K13.out.cell p1, K13.out.cell p2, K13.out.cell p3, K13.out.cell p4, K13.out.cell p5⟩ | exact ⟨K12.out.cell p0, K12.out.cell p1, K12.out.cell p2, K12.out.cell p3, K12.out.cell p4, K12.out.cell p5⟩ | exact ⟨K11.out.cell p0, K11.out.cell p1, K11.out.cell p2, K11.out.cell p3, K11.out.cell p4, K11.out.cell p5⟩ | exact ⟨K10.out.cell p0, K10.out.cell p1, K10.out.cell p2, K10.out.cell p3, K10.out.cell p4, K10.out.cell p5⟩ | exact ⟨K9.out.cell p0, K9.out.cell p1, K9.out.cell p2, K9.out.cell p3, K9.out.cell p4, K9.out.cell p5⟩ | exact ⟨K8.out.cell p0, K8.out.cell p1, K8.out.cell p2, K8.out.cell p3, K8.out.cell p4, K8.out.cell p5⟩ | exact ⟨K7.out.cell p0, K7.out.cell p1, K7.out.cell p2, K7.out.cell p3, K7.out.cell p4, K7.out.cell p5⟩ | exact ⟨K6.out.cell p0, K6.out.cell p1, K6.out.cell p2, K6.out.cell p3, K6.out.cell p4, K6.out.cell p5⟩ | exact ⟨K5.out.cell p0, K5.out.cell p1, K5.out.cell p2, K5.out.cell p3, K5.out.cell p4, K5.out.cell p5⟩ | exact ⟨K4.out.cell p0, K4.out.cell p1, K4.out.cell p2, K4.out.cell p3, K4.out.cell p4, K4.out.cell p5⟩)
    (first
      | (go_at_call_of 9 (Value.slice A 2 cp); refine (ocheck_none 4 1 2 5 false A 2 cp (pick 3 4) 2 _ (hV.out.keep K3.out.drew) (hA.out.keep K3.out.drew) (by decide) (by decide +kernel)).mono ?_; rintro e w4 ⟨rfl, h4⟩; have K4 := Lib.hid (K3.out.drew.trans h4); have L4 := Lib.hid (L3.out.drew.trans h4))
      | (go_at_call 13; refine (code3_yes 3 [4] (.fault 3 2) _ _ (hC.out.keep L4.out) (Or.inr ⟨_, rfl⟩) (hV.out.keep K4.out).err).mono ?_; rintro e w5 ⟨rfl, h5⟩; have K5 := Lib.hid (K4.out.trans h5))
      | (go_at_call 16; refine (plain_fn 4 1 2 5 false A 2 cp (pick 3 4) _ (hA.out.keep K5.out) h0.out (by omega)).mono ?_; rintro e w6 ⟨A2, cp2, rfl, h6, hown6⟩; have K6 := Lib.hid (K5.out.trans h6); have hA6 := Lib.hid (rd_of_own hown6 (hA.out.kept 4)))
      | (go_at_call_of 19 (Value.slice A2 (kM 4 2) cp2); refine (osame_is 4 1 2 5 false A 2 cp (pick 3 4) _ _ _ _ _ A2 (kM 4 2) cp2 (pick 3 4) _ (hA.out.keep K6.out) hA6.out true (by decide +kernel)).mono ?_; rintro e w7 ⟨rfl, h7⟩; have K7 := Lib.hid (K6.out.trans h7))
      | (go_at_call 29; refine (cycle_fn _).mono ?_; rintro e w8 ⟨rfl, h8⟩; have K8 := Lib.hid (K7.out.trans h8))
      | (go_at_call_of 9 (Value.slice none 0 0); refine (ocheck_none 7 0 0 0 false none 0 0 (fun _ => 0) 2 _ (hV.out.keep K8.out) (Rd.nil _ _ _) (by decide) (by decide +kernel)).mono ?_; rintro e w9 ⟨rfl, h9⟩; have K9 := Lib.hid (K8.out.trans h9))
      | (go_at_call_of 28 (Value.int IntKind.i64 1); refine (tick_fn 1 _).mono ?_; rintro e w10 ⟨rfl, h10⟩; have K10 := Lib.hid (K9.out.trans h10))
      | (go_at_call_of 28 (Value.int IntKind.i64 2); refine (tick_fn 2 _).mono ?_; rintro e w11 ⟨rfl, h11⟩; have K11 := Lib.hid (K10.out.trans h11))
      | (go_at_call_of 19 (Value.slice none 0 0); refine (osame_is 6 0 0 1 false none 0 0 (fun _ => 0) 6 0 0 2 false none 0 0 (fun _ => 0) _ (Rd.nil _ _ _) (Rd.nil _ _ _) false (by decide +kernel)).mono ?_; rintro e w12 ⟨rfl, h12⟩; have K12 := Lib.hid (K11.out.trans h12))
      | (go_at_call 21; refine (clone_fn 4 1 2 5 false A 2 cp (pick 3 4) _ (hA.out.keep K12.out) h0.out (by omega)).mono ?_; rintro e w13 ⟨A3, cp3, rfl, h13, hown13⟩; have K13 := Lib.hid (K12.out.trans h13)))
  go_wp2
  go_ret
  exact ⟨rfl, k0.out.trans K13.out⟩

end Go.Proofs.YtflkeabjcbjkhaaDoor
