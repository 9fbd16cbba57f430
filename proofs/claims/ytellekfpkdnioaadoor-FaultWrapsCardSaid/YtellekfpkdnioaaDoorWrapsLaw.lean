/-
  FaultWraps: the walk. Conditions: the three listed variables hold their own; the table of powers holds numbers, whichever.
-/
import Derived.Test.YtellekfpkdnioaaDoorItoa
import Derived.Test.YtellekfpkdnioaaDoorNestsLaw
namespace Go.Proofs.YtellekfpkdnioaaDoor
open Go.RowKit Go.Extern.Stop Go.Stop Go.Extern

theorem says_any (T : Nat → Int) (c : Int) (w : World) (h1 : -9223372036854775808 ≤ c) (h2 : c ≤ 9223372036854775807) (hT : PowT w T) : Says c (⟨#[101, 114, 114, 111, 114, 32]⟩ ++ itoaT T c) w := fun W hW =>
  codeError_of c (itoaT T c) W (by have := itoaT_size T c h1 h2; omega) (itoa_any T c W h1 h2 (hT.keep hW))

def bs2 (F : Bool) (c n : Int) : Base := if F then .fault c n else .code c
theorem bs2_code (F : Bool) (c n : Int) : hasCode c (bs2 F c n) := by cases F <;> simp [bs2, hasCode]
def Built (m : Nat) (b : Base) (w : World) (e : Ending) (w' : World) : Prop := ∃ ks v, e = .returned v ∧ ks.length = m ∧ Chain w' ks b v ∧ Keep w w'
set_option maxRecDepth 100000 in
set_option maxHeartbeats 8000000 in
theorem build_false (c n : Int) (A : Option Addr) (m cap : Nat) (Z : Nat → Int) (w : World) (hR : Rd w A m Z) :
    Calls Tryd.prog 9 #[.agg #[.bool false, .slice A m cap, .int .i64 c, .int .i64 n, .bool false]] w (Built m (.code c) w) := by
  have hsm := hR.small
  have hR := Lib.hid hR
  have hbox := Lib.hid (Keep.one w (.cells #[.bool false, .slice A m cap, .int .i64 c, .int .i64 n, .bool false] 24))
  go_enter Tryd.func9, Tryd.ntmps9
  go_wp2
  go_loopg [3, 4] m (fun g v i wr => ∃ (j : Nat) (ks : List Int), j ≤ m ∧ g = m - j ∧ i = .int .i64 j ∧ Hid (ks.length = j) ∧ Chain wr ks (.code c) v ∧ Hid (Keep (w.alloc (.cells #[.bool false, .slice A m cap, .int .i64 c, .int .i64 n, .bool false] 24)) wr))
  case atStart => exact ⟨0, [], Nat.zero_le _, rfl, rfl, rfl, Chain.base (.code c), Keep.refl _⟩
  case round =>
    obtain ⟨j, ks, hj, rfl, rfl, hl, hch, hk⟩ := hrel
    have c1 := hk.out.cell (a := ⟨w.heap.size, 0 + 1, none⟩) (v := .slice A m cap) (by simp)
    by_cases hlt : j < m
    · obtain ⟨b, off, rfl, hz⟩ := hR.out.adr (by omega)
      have hz1 := (hbox.out.trans hk.out).cell (hz j hlt)
      obtain ⟨tv, xv, rfl⟩ := hch.iface
      have hC := Lib.hid (hch.in_ (Z j))
      have hz := Lib.hid hz
      clear hch
      go_wp2_with fail
      refine (in_fn (Z j) _ _ _).mono ?_
      rintro e w' ⟨rfl, rfl⟩
      have hk2 := Lib.hid (hk.out.alloc (.cells #[.int .i64 (Z j), .iface tv xv] 59))
      clear c1 hz1
      go_wp2
      go_roundg (m - (j + 1))
      case measure => omega
      case rel => exact ⟨j + 1, Z j :: ks, hlt, rfl, by go_num, show _ = _ by simp [hl.out], hC.out, hk2⟩
    · obtain rfl : j = m := by omega
      have hch := Lib.hid hch
      go_wp2
      go_ret
      exact ⟨ks, _, rfl, hl.out, hch.out, hbox.out.trans hk.out⟩
set_option maxRecDepth 100000 in
set_option maxHeartbeats 8000000 in
theorem build_true (c n : Int) (A : Option Addr) (m cap : Nat) (Z : Nat → Int) (w : World) (hR : Rd w A m Z) :
    Calls Tryd.prog 9 #[.agg #[.bool false, .slice A m cap, .int .i64 c, .int .i64 n, .bool true]] w (Built m (.fault c n) w) := by
  have hsm := hR.small
  have hR := Lib.hid hR
  have hbox := Lib.hid (Keep.one w (.cells #[.bool false, .slice A m cap, .int .i64 c, .int .i64 n, .bool true] 24))
  go_enter Tryd.func9, Tryd.ntmps9
  go_wp2
  go_loopg [3, 4] m (fun g v i wr => ∃ (j : Nat) (ks : List Int), j ≤ m ∧ g = m - j ∧ i = .int .i64 j ∧ Hid (ks.length = j) ∧ Chain wr ks (.fault c n) v ∧ Hid (Keep (w.alloc (.cells #[.bool false, .slice A m cap, .int .i64 c, .int .i64 n, .bool true] 24)) wr))
  case atStart => exact ⟨0, [], Nat.zero_le _, rfl, rfl, rfl, Chain.base (.fault c n), Keep.refl _⟩
  case round =>
    obtain ⟨j, ks, hj, rfl, rfl, hl, hch, hk⟩ := hrel
    have c1 := hk.out.cell (a := ⟨w.heap.size, 0 + 1, none⟩) (v := .slice A m cap) (by simp)
    by_cases hlt : j < m
    · obtain ⟨b, off, rfl, hz⟩ := hR.out.adr (by omega)
      have hz1 := (hbox.out.trans hk.out).cell (hz j hlt)
      obtain ⟨tv, xv, rfl⟩ := hch.iface
      have hC := Lib.hid (hch.in_ (Z j))
      have hz := Lib.hid hz
      clear hch
      go_wp2_with fail
      refine (in_fn (Z j) _ _ _).mono ?_
      rintro e w' ⟨rfl, rfl⟩
      have hk2 := Lib.hid (hk.out.alloc (.cells #[.int .i64 (Z j), .iface tv xv] 59))
      clear c1 hz1
      go_wp2
      go_roundg (m - (j + 1))
      case measure => omega
      case rel => exact ⟨j + 1, Z j :: ks, hlt, rfl, by go_num, show _ = _ by simp [hl.out], hC.out, hk2⟩
    · obtain rfl : j = m := by omega
      have hch := Lib.hid hch
      go_wp2
      go_ret
      exact ⟨ks, _, rfl, hl.out, hch.out, hbox.out.trans hk.out⟩
theorem build_fn (F : Bool) (c n : Int) (A : Option Addr) (m cap : Nat) (Z : Nat → Int) (w : World) (hR : Rd w A m Z) :
    Calls Tryd.prog 9 #[.agg #[.bool false, .slice A m cap, .int .i64 c, .int .i64 n, .bool F]] w (Built m (bs2 F c n) w) := by
  cases F
  · exact build_false c n A m cap Z w hR
  · exact build_true c n A m cap Z w hR

theorem chainText_len (bt : List UInt8) (ks : List Int) : (chainText bt ks).length ≤ 11 * ks.length + bt.length := by
  induction ks with
  | nil => simp [chainText]
  | cons k ks ih =>
    have h : (ttl k).data.toList.length ≤ 9 := by
      rw [len2]
      by_cases hk : 0 ≤ k ∧ k ≤ 7
      · have hc := cases8 hk.1 hk.2
        rcases hc with rfl | rfl | rfl | rfl | rfl | rfl | rfl | rfl <;> decide
      · unfold ttl
        rw [kindNm_out (by omega)]
        decide
    rw [chainText_cons]
    simp only [List.length_append, List.length_cons, List.length_nil]
    omega
/-- A text that every later call answers. -/
def Tells (F : FuncId) (x : Value) (S : ByteArray) (w : World) : Prop := ∀ W, Keep w W → Calls Tryd.prog F #[x] W fun e w' => e = .returned (.string S) ∧ Keep W w'
theorem tells_chain (T : Nat → Int) (F : Bool) (c n : Int) (ks : List Int) (v : Value) (w : World) (hch : Chain w ks (bs2 F c n) v) (hv : Vars w) (hT : PowT w T) (hk : ks.length ≤ 20) (h1 : -9223372036854775808 ≤ c) (h2 : c ≤ 9223372036854775807) :
    (∃ a S, v = .iface 55 (.pointer (some ⟨a, 0, none⟩)) ∧ Tells 74 (.pointer (some ⟨a, 0, none⟩)) S w) ∨ (∃ S, v = .iface 40 (.agg #[.int .i64 c, .int .i64 n]) ∧ Tells 72 (.agg #[.int .i64 c, .int .i64 n]) S w) ∨ (∃ S, v = .iface 29 (.int .i64 c) ∧ Tells 57 (.int .i64 c) S w) := by
  have hs := says_any T c w h1 h2 hT
  have hsz : ((⟨#[101, 114, 114, 111, 114, 32]⟩ : ByteArray) ++ itoaT T c).data.toList.length ≤ 27 := by
    have := itoaT_size T c h1 h2
    rw [len2, ByteArray.size_append]
    have e : (⟨#[101, 114, 114, 111, 114, 32]⟩ : ByteArray).size = 6 := rfl
    omega
  rcases hch.open with ⟨rfl, rfl⟩ | ⟨k, ks', a, v', rfl, rfl, c1, c2, hc2⟩
  · cases F
    · exact .inr (.inr ⟨_, rfl, hs⟩)
    · exact .inr (.inl ⟨_, rfl, fun W hW => faultError c n _ W (hs.keep hW)⟩)
  · have hlen := chainText_len ((⟨#[101, 114, 114, 111, 114, 32]⟩ : ByteArray) ++ itoaT T c).data.toList (k :: ks')
    refine .inl ⟨a, ⟨(chainText ((⟨#[101, 114, 114, 111, 114, 32]⟩ : ByteArray) ++ itoaT T c).data.toList (k :: ks')).toArray⟩, rfl, fun W hW => ?_⟩
    cases F
    · exact locError_Code k ks' c a v' W _ (hv.keep hW) (hW.cell c1) (hW.cell c2) (hc2.keep hW) (hs.keep hW) (by omega)
    · exact locError_Fault k ks' c n a v' W _ (hv.keep hW) (hW.cell c1) (hW.cell c2) (hc2.keep hW) (hs.keep hW) (by omega)
theorem unwrap_fn (a : Nat) (t : TypeId) (x : Value) (w : World) (h : w.cell? ⟨a, 0 + 1, none⟩ = some (.iface t x)) :
    Calls Tryd.prog 17 #[.iface 55 (.pointer (some ⟨a, 0, none⟩))] w fun e w' => e = .returned (.iface t x) ∧ w = w' := by
  have u1 := Tryd.unLoc
  have m1 := Tryd.mUnLoc
  go_enter Tryd.func17, Tryd.ntmps17
  go_wp2_with (go_at_call 75; refine (unwrap_loc _ _ _ h).mono ?_; rintro e w9 ⟨rfl, rfl⟩)
  go_ret
  exact ⟨rfl, rfl⟩
end Go.Proofs.YtellekfpkdnioaaDoor
