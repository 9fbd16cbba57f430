/-
  The functions of package fault, and the reference's names. Condition: the three listed variables hold their own.
-/
import Derived.Test.YtfidlljhmebpmaaDoorFind
namespace Go.Proofs.YtfidlljhmebpmaaDoor
open Go.RowKit Go.Extern.Stop Go.Stop Go.Extern


def codeTbl : List ByteArray := [⟨#[]⟩, ⟨#[107, 105, 110, 100]⟩, ⟨#[105, 100]⟩, ⟨#[97, 109, 111, 117, 110, 116]⟩, ⟨#[110, 117, 109, 98, 101, 114]⟩, ⟨#[117, 110, 107, 110, 111, 119, 110]⟩, ⟨#[100, 117, 112, 108, 105, 99, 97, 116, 101]⟩, ⟨#[102, 117, 108, 108]⟩, ⟨#[112, 104, 97, 115, 101]⟩, ⟨#[115, 121, 110, 116, 97, 120]⟩, ⟨#[111, 118, 101, 114, 102, 108, 111, 119]⟩]
/-- The name of a number, or none. -/
def codeNm (c : Int) : ByteArray := if 0 ≤ c ∧ c ≤ 10 then codeTbl.getD c.toNat ⟨#[]⟩ else ⟨#[]⟩
theorem codeNm_out {c : Int} (h : c < 0 ∨ 10 < c) : codeNm c = ⟨#[]⟩ := by unfold codeNm; rw [if_neg (by omega)]
def kindTbl : List ByteArray := [⟨#[]⟩, ⟨#[99, 108, 97, 115, 115]⟩, ⟨#[110, 111, 100, 101]⟩, ⟨#[100, 114, 111, 112]⟩, ⟨#[112, 111, 100]⟩, ⟨#[100, 101, 108, 101, 116, 101]⟩, ⟨#[116, 105, 99, 107]⟩, ⟨#[99, 121, 99, 108, 101]⟩]
/-- The name of a number, or none. -/
def kindNm (c : Int) : ByteArray := if 0 ≤ c ∧ c ≤ 7 then kindTbl.getD c.toNat ⟨#[]⟩ else ⟨#[]⟩
theorem kindNm_out {c : Int} (h : c < 0 ∨ 7 < c) : kindNm c = ⟨#[]⟩ := by unfold kindNm; rw [if_neg (by omega)]
/-- The three variables hold what the program's text lays. -/
structure Vars (w : World) : Prop where
  err : ErrT w
theorem Vars.keep {w w' : World} (h : Vars w) (k : Keep w w') : Vars w' where
  err := h.err.keep k

theorem code_yes (c : Int) (ks : List Int) (b : Base) (v : Value) (w : World) (hch : Chain w ks b v) (hb : hasCode c b) (hg : ErrT w) :
    Calls Tryd.prog 42 #[v] w fun e w' => e = .returned (.tuple #[.int .i64 c, .bool true]) ∧ Keep w w' := by
  have h := Lib.hid (findCode_yes c ks b v w hch hb hg)
  clear hch hb hg
  go_enter Tryd.func42, Tryd.ntmps42
  go_wp2_with (go_at_call 53; refine h.out.mono ?_; rintro e w' ⟨rfl, hr⟩)
  go_ret2
  exact ⟨rfl, hr⟩
theorem code_no (ks : List Int) (b : Base) (v : Value) (w : World) (hch : Chain w ks b v) (hb : isText b) (hg : ErrT w) :
    Calls Tryd.prog 42 #[v] w fun e w' => e = .returned (.tuple #[.int .i64 0, .bool false]) ∧ Keep w w' := by
  have h := Lib.hid (findCode_no ks b v w hch hb hg)
  clear hch hb hg
  go_enter Tryd.func42, Tryd.ntmps42
  go_wp2_with (go_at_call 53; refine h.out.mono ?_; rintro e w' ⟨rfl, hr⟩)
  go_ret2
  exact ⟨rfl, hr⟩
theorem code_nil (w : World) : Calls Tryd.prog 42 #[.nilIface] w fun e w' => e = .returned (.tuple #[.int .i64 0, .bool false]) ∧ Keep w w' := by
  go_enter Tryd.func42, Tryd.ntmps42
  go_wp2_with (go_at_call 53; refine (findCode_nil _).mono ?_; rintro e w' ⟨rfl, hr⟩)
  go_ret2
  exact ⟨rfl, hr⟩
theorem at_yes (x y : Int) (ks : List Int) (v : Value) (w : World) (hch : Chain w ks (.fault x y) v) (hg : ErrT w) :
    Calls Tryd.prog 31 #[v] w fun e w' => e = .returned (.tuple #[.int .i64 y, .bool true]) ∧ Keep w w' := by
  have h := Lib.hid (findFault_yes x y ks v w hch hg)
  clear hch hg
  go_enter Tryd.func31, Tryd.ntmps31
  go_wp2_with (go_at_call 46; refine h.out.mono ?_; rintro e w' ⟨rfl, hr⟩)
  go_ret2
  exact ⟨rfl, hr.alloc _⟩
theorem at_no (ks : List Int) (b : Base) (v : Value) (w : World) (hch : Chain w ks b v) (hb : noFault b) (hg : ErrT w) :
    Calls Tryd.prog 31 #[v] w fun e w' => e = .returned (.tuple #[.int .i64 0, .bool false]) ∧ Keep w w' := by
  have h := Lib.hid (findFault_no ks b v w hch hb hg)
  clear hch hb hg
  go_enter Tryd.func31, Tryd.ntmps31
  go_wp2_with (go_at_call 46; refine h.out.mono ?_; rintro e w' ⟨rfl, hr⟩)
  go_ret2
  exact ⟨rfl, hr.alloc _⟩
theorem new_fn (x n : Int) (w : World) : Calls Tryd.prog 41 #[.int .i64 x, .int .i64 n] w fun e w' => e = .returned (Base.fault x n).val ∧ w = w' := by
  go_enter Tryd.func41, Tryd.ntmps41
  go_wp2
  go_ret
  exact ⟨rfl, rfl⟩
/-- Is a code one of those that do not fit the state? -/
def harmB (c : Int) : Bool := decide (5 ≤ c ∧ c ≤ 7)
end Go.Proofs.YtfidlljhmebpmaaDoor
