/-
  The names of codes and kinds, the program's and the reference's. Condition: the tables hold their own.
-/
import Derived.Test.YtflkeabjcbjkhaaDoorFuncs
namespace Go.Proofs.YtflkeabjcbjkhaaDoor
open Go.RowKit Go.Extern.Stop Go.Stop Go.Extern

theorem cases11 {c : Int} (h0 : 0 ≤ c) (h1 : c ≤ 10) : c = 0 ∨ c = 1 ∨ c = 2 ∨ c = 3 ∨ c = 4 ∨ c = 5 ∨ c = 6 ∨ c = 7 ∨ c = 8 ∨ c = 9 ∨ c = 10 := by omega
theorem cases8 {c : Int} (h0 : 0 ≤ c) (h1 : c ≤ 7) : c = 0 ∨ c = 1 ∨ c = 2 ∨ c = 3 ∨ c = 4 ∨ c = 5 ∨ c = 6 ∨ c = 7 := by omega

set_option maxHeartbeats 4000000 in
theorem kind_name (c : Int) (w : World) (hv : Vars w) : Calls Tryd.prog 30 #[.int .i64 c] w fun e w' => e = .returned (.string (kindNm c)) ∧ w = w' := by
  by_cases h : c < 0
  · rw [kindNm_out (by omega)]
    clear hv
    go_enter Tryd.func30, Tryd.ntmps30
    go_wp2
    go_ret
    exact ⟨rfl, rfl⟩
  · by_cases h' : 7 < c
    · rw [kindNm_out (by omega)]
      clear hv
      go_enter Tryd.func30, Tryd.ntmps30
      go_wp2
      go_ret
      exact ⟨rfl, rfl⟩
    · have e := cases8 (c := c) (by omega) (by omega)
      rcases e with rfl | rfl | rfl | rfl | rfl | rfl | rfl | rfl
      · have hc := hv.kinds 0 (by decide)
        have e : kindTbl.getD 0 ⟨#[]⟩ = kindNm 0 := rfl
        rw [e] at hc
        clear hv e
        go_enter Tryd.func30, Tryd.ntmps30
        go_wp2
        go_ret
        exact ⟨rfl, rfl⟩
      · have hc := hv.kinds 1 (by decide)
        have e : kindTbl.getD 1 ⟨#[]⟩ = kindNm 1 := rfl
        rw [e] at hc
        clear hv e
        go_enter Tryd.func30, Tryd.ntmps30
        go_wp2
        go_ret
        exact ⟨rfl, rfl⟩
      · have hc := hv.kinds 2 (by decide)
        have e : kindTbl.getD 2 ⟨#[]⟩ = kindNm 2 := rfl
        rw [e] at hc
        clear hv e
        go_enter Tryd.func30, Tryd.ntmps30
        go_wp2
        go_ret
        exact ⟨rfl, rfl⟩
      · have hc := hv.kinds 3 (by decide)
        have e : kindTbl.getD 3 ⟨#[]⟩ = kindNm 3 := rfl
        rw [e] at hc
        clear hv e
        go_enter Tryd.func30, Tryd.ntmps30
        go_wp2
        go_ret
        exact ⟨rfl, rfl⟩
      · have hc := hv.kinds 4 (by decide)
        have e : kindTbl.getD 4 ⟨#[]⟩ = kindNm 4 := rfl
        rw [e] at hc
        clear hv e
        go_enter Tryd.func30, Tryd.ntmps30
        go_wp2
        go_ret
        exact ⟨rfl, rfl⟩
      · have hc := hv.kinds 5 (by decide)
        have e : kindTbl.getD 5 ⟨#[]⟩ = kindNm 5 := rfl
        rw [e] at hc
        clear hv e
        go_enter Tryd.func30, Tryd.ntmps30
        go_wp2
        go_ret
        exact ⟨rfl, rfl⟩
      · have hc := hv.kinds 6 (by decide)
        have e : kindTbl.getD 6 ⟨#[]⟩ = kindNm 6 := rfl
        rw [e] at hc
        clear hv e
        go_enter Tryd.func30, Tryd.ntmps30
        go_wp2
        go_ret
        exact ⟨rfl, rfl⟩
      · have hc := hv.kinds 7 (by decide)
        have e : kindTbl.getD 7 ⟨#[]⟩ = kindNm 7 := rfl
        rw [e] at hc
        clear hv e
        go_enter Tryd.func30, Tryd.ntmps30
        go_wp2
        go_ret
        exact ⟨rfl, rfl⟩

set_option maxHeartbeats 4000000 in
theorem kind_rname (c : Int) (w : World) : Calls Tryd.prog 14 #[.int .i64 c] w fun e w' => e = .returned (.string (kindNm c)) ∧ Keep w w' := by
  by_cases h : c < 1
  · have e : kindNm c = ⟨#[]⟩ := by
      by_cases h0 : c < 0
      · exact kindNm_out (by omega)
      · obtain rfl : c = 0 := by omega
        rfl
    rw [e]
    clear e
    go_enter Tryd.func14, Tryd.ntmps14
    go_wp2
    go_ret
    exact ⟨rfl, Keep.one _ _⟩
  · by_cases h' : 7 < c
    · rw [kindNm_out (by omega)]
      go_enter Tryd.func14, Tryd.ntmps14
      go_wp2
      go_ret
      exact ⟨rfl, Keep.one _ _⟩
    · have e := cases8 (c := c) (by omega) (by omega)
      rcases e with rfl | rfl | rfl | rfl | rfl | rfl | rfl | rfl
      · exact absurd (by decide) h
      · go_enter Tryd.func14, Tryd.ntmps14
        go_wp2
        go_ret
        exact ⟨rfl, Keep.one _ _⟩
      · go_enter Tryd.func14, Tryd.ntmps14
        go_wp2
        go_ret
        exact ⟨rfl, Keep.one _ _⟩
      · go_enter Tryd.func14, Tryd.ntmps14
        go_wp2
        go_ret
        exact ⟨rfl, Keep.one _ _⟩
      · go_enter Tryd.func14, Tryd.ntmps14
        go_wp2
        go_ret
        exact ⟨rfl, Keep.one _ _⟩
      · go_enter Tryd.func14, Tryd.ntmps14
        go_wp2
        go_ret
        exact ⟨rfl, Keep.one _ _⟩
      · go_enter Tryd.func14, Tryd.ntmps14
        go_wp2
        go_ret
        exact ⟨rfl, Keep.one _ _⟩
      · go_enter Tryd.func14, Tryd.ntmps14
        go_wp2
        go_ret
        exact ⟨rfl, Keep.one _ _⟩

/-- How a kind opens the text of an error. -/
def ttl (k : Int) : ByteArray := if (kindNm k).size = 0 then ⟨#[111, 112, 101, 114, 97, 116, 105, 111, 110]⟩ else kindNm k
set_option maxHeartbeats 4000000 in
theorem title_fn (k : Int) (w : World) (hv : Vars w) : Calls Tryd.prog 98 #[.int .i64 k] w fun e w' => e = .returned (.string (ttl k)) ∧ w = w' := by
  by_cases h : k < 1 ∨ 7 < k
  · have e : kindNm k = ⟨#[]⟩ := by
      by_cases h0 : k < 0 ∨ 7 < k
      · exact kindNm_out h0
      · obtain rfl : k = 0 := by omega
        rfl
    have e2 : ttl k = ⟨#[111, 112, 101, 114, 97, 116, 105, 111, 110]⟩ := by unfold ttl; rw [e]; rfl
    have hn := Lib.hid (e ▸ kind_name k w hv)
    rw [e2]
    clear e e2 hv h
    go_enter Tryd.func98, Tryd.ntmps98
    go_wp2_with (go_at_call 30; refine hn.out.mono ?_; rintro e w' ⟨rfl, rfl⟩)
    go_ret
    exact ⟨rfl, rfl⟩
  · have e := cases8 (c := k) (by omega) (by omega)
    rcases e with rfl | rfl | rfl | rfl | rfl | rfl | rfl | rfl
    · exact absurd (by decide) h
    · have hn : Calls Tryd.prog 30 #[.int .i64 1] w fun e w' => e = .returned (.string ⟨#[99, 108, 97, 115, 115]⟩) ∧ w = w' := kind_name 1 w hv
      have e2 : ttl 1 = ⟨#[99, 108, 97, 115, 115]⟩ := rfl
      rw [e2]
      replace hn := Lib.hid hn
      clear hv h e2
      go_enter Tryd.func98, Tryd.ntmps98
      go_wp2_with (go_at_call 30; refine hn.out.mono ?_; rintro e w' ⟨rfl, rfl⟩)
      go_ret
      exact ⟨rfl, rfl⟩
    · have hn : Calls Tryd.prog 30 #[.int .i64 2] w fun e w' => e = .returned (.string ⟨#[110, 111, 100, 101]⟩) ∧ w = w' := kind_name 2 w hv
      have e2 : ttl 2 = ⟨#[110, 111, 100, 101]⟩ := rfl
      rw [e2]
      replace hn := Lib.hid hn
      clear hv h e2
      go_enter Tryd.func98, Tryd.ntmps98
      go_wp2_with (go_at_call 30; refine hn.out.mono ?_; rintro e w' ⟨rfl, rfl⟩)
      go_ret
      exact ⟨rfl, rfl⟩
    · have hn : Calls Tryd.prog 30 #[.int .i64 3] w fun e w' => e = .returned (.string ⟨#[100, 114, 111, 112]⟩) ∧ w = w' := kind_name 3 w hv
      have e2 : ttl 3 = ⟨#[100, 114, 111, 112]⟩ := rfl
      rw [e2]
      replace hn := Lib.hid hn
      clear hv h e2
      go_enter Tryd.func98, Tryd.ntmps98
      go_wp2_with (go_at_call 30; refine hn.out.mono ?_; rintro e w' ⟨rfl, rfl⟩)
      go_ret
      exact ⟨rfl, rfl⟩
    · have hn : Calls Tryd.prog 30 #[.int .i64 4] w fun e w' => e = .returned (.string ⟨#[112, 111, 100]⟩) ∧ w = w' := kind_name 4 w hv
      have e2 : ttl 4 = ⟨#[112, 111, 100]⟩ := rfl
      rw [e2]
      replace hn := Lib.hid hn
      clear hv h e2
      go_enter Tryd.func98, Tryd.ntmps98
      go_wp2_with (go_at_call 30; refine hn.out.mono ?_; rintro e w' ⟨rfl, rfl⟩)
      go_ret
      exact ⟨rfl, rfl⟩
    · have hn : Calls Tryd.prog 30 #[.int .i64 5] w fun e w' => e = .returned (.string ⟨#[100, 101, 108, 101, 116, 101]⟩) ∧ w = w' := kind_name 5 w hv
      have e2 : ttl 5 = ⟨#[100, 101, 108, 101, 116, 101]⟩ := rfl
      rw [e2]
      replace hn := Lib.hid hn
      clear hv h e2
      go_enter Tryd.func98, Tryd.ntmps98
      go_wp2_with (go_at_call 30; refine hn.out.mono ?_; rintro e w' ⟨rfl, rfl⟩)
      go_ret
      exact ⟨rfl, rfl⟩
    · have hn : Calls Tryd.prog 30 #[.int .i64 6] w fun e w' => e = .returned (.string ⟨#[116, 105, 99, 107]⟩) ∧ w = w' := kind_name 6 w hv
      have e2 : ttl 6 = ⟨#[116, 105, 99, 107]⟩ := rfl
      rw [e2]
      replace hn := Lib.hid hn
      clear hv h e2
      go_enter Tryd.func98, Tryd.ntmps98
      go_wp2_with (go_at_call 30; refine hn.out.mono ?_; rintro e w' ⟨rfl, rfl⟩)
      go_ret
      exact ⟨rfl, rfl⟩
    · have hn : Calls Tryd.prog 30 #[.int .i64 7] w fun e w' => e = .returned (.string ⟨#[99, 121, 99, 108, 101]⟩) ∧ w = w' := kind_name 7 w hv
      have e2 : ttl 7 = ⟨#[99, 121, 99, 108, 101]⟩ := rfl
      rw [e2]
      replace hn := Lib.hid hn
      clear hv h e2
      go_enter Tryd.func98, Tryd.ntmps98
      go_wp2_with (go_at_call 30; refine hn.out.mono ?_; rintro e w' ⟨rfl, rfl⟩)
      go_ret
      exact ⟨rfl, rfl⟩

end Go.Proofs.YtflkeabjcbjkhaaDoor
