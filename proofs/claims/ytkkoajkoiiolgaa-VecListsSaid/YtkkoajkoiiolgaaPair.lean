/-
  Slices that a text writes out, two slices added, and 'awake': the fixed examples hold. No condition.
-/
import Derived.Test.YtkkoajkoiiolgaaRefAdd
namespace Go.Proofs.Ytkkoajkoiiolgaa
open Go.RowKit

def pick {α : Type} (a b : α) : Nat → α
  | 0 => a
  | _ + 1 => b

theorem Rd.two {w : World} (a b : Int) {B : Nat} (hB : B = w.heap.size) (ha : -9223372036854775808 ≤ a ∧ a ≤ 9223372036854775807) (hb : -9223372036854775808 ≤ b ∧ b ≤ 9223372036854775807) :
    Rd (w.alloc (.cells #[.int .i64 a, .int .i64 b] 2)) (some ⟨B, 0, none⟩) 2 (pick a b) := by
  subst hB
  refine Rd.ofRow (World.rowIs_alloc w #[.int .i64 a, .int .i64 b] 2 (fun k => .int .i64 (pick a b k)) (fun i hi => ?_)) (by omega) (fun k hk => ?_)
  · match i, hi with
    | 0, _ => rfl
    | 1, _ => rfl
  · match k, hk with
    | 0, _ => exact ha
    | 1, _ => exact hb

theorem Rds.two {w : World} {A0 A1 : Option Addr} {n0 n1 c0 c1 : Nat} {Z0 Z1 : Nat → Int} {B : Nat} (hB : B = w.heap.size) (h0 : Rd w A0 n0 Z0) (h1 : Rd w A1 n1 Z1) :
    Rds (w.alloc (.cells #[.slice A0 n0 c0, .slice A1 n1 c1] 24)) (some ⟨B, 0, none⟩) 2 (pick A0 A1) (pick n0 n1) (pick c0 c1) (pick Z0 Z1) := by
  subst hB
  have hrow := World.rowIs_alloc w #[.slice A0 n0 c0, .slice A1 n1 c1] 24 (fun k => .slice (pick A0 A1 k) (pick n0 n1 k) (pick c0 c1 k)) (fun i hi => by
    match i, hi with
    | 0, _ => rfl
    | 1, _ => rfl)
  have hk : Keep w (w.alloc (.cells #[.slice A0 n0 c0, .slice A1 n1 c1] 24)) := (Below.refl _ _).alloc (Nat.le_refl _) _
  refine ⟨by omega, fun _ => ⟨w.heap.size, 0, rfl, fun j hj => by rw [Nat.zero_add]; exact hrow.cell hj⟩, fun r hr => ?_⟩
  match r, hr with
  | 0, _ => exact h0.below hk
  | 1, _ => exact h1.below hk

def Add2Ok (n m : Nat) (Z Y : Nat → Int) : Prop := n = m ∧ ∀ k, k < n → inR (Z k + Y k) = true
theorem add2Ok_iff {n m : Nat} {Z Y : Nat → Int} : AddOk 2 (pick n m) (pick Z Y) ↔ Add2Ok n m Z Y := by
  have e : ∀ k, (sumTo 2 fun r => pick Z Y r k) = Z k + Y k := fun k => by simp [sumTo, pick]
  constructor
  · intro ⟨_, h1, h2⟩
    have := h1 1 (by omega)
    exact ⟨this.symm, fun k hk => by rw [← e k]; exact h2 k hk⟩
  · intro ⟨h1, h2⟩
    refine ⟨by omega, fun r hr => ?_, fun k hk => by rw [e k]; exact h2 k hk⟩
    match r, hr with
    | 0, _ => rfl
    | 1, _ => exact h1.symm

def Add2Post (n m : Nat) (Z Y : Nat → Int) (w : World) (e : Ending) (w' : World) : Prop :=
  Keep w w' ∧
    ((Add2Ok n m Z Y ∧ e = .returned (.tuple #[.slice (some ⟨w.heap.size, 0, none⟩) n n, .bool true]) ∧ Rd w' (some ⟨w.heap.size, 0, none⟩) n (fun k => Z k + Y k)) ∨
      (¬ Add2Ok n m Z Y ∧ e = .returned (.tuple #[.slice none 0 0, .bool false])))

theorem add2 (L : Option Addr) (C n m : Nat) (A : Nat → Option Addr) (K : Nat → Nat) (Z Y : Nat → Int) (w : World) (hL : Rds w L 2 A (pick n m) K (pick Z Y)) (hn : n ≤ 1048576) (hm : m ≤ 1048576) :
    Calls Try.prog 10 #[.slice L 2 C] w (Add2Post n m Z Y w) := by
  refine (add_some L 2 C A (pick n m) K (pick Z Y) w hL (by omega) (fun r hr => ?_) (by omega)).mono ?_
  · match r, hr with
    | 0, _ => exact hn
    | 1, _ => exact hm
  · rintro e w' ⟨hb, ⟨hok, he, hrow⟩ | ⟨hno, he⟩⟩
    · have hok' := add2Ok_iff.1 hok
      have ee : ∀ k, (sumTo 2 fun r => pick Z Y r k) = Z k + Y k := fun k => by simp [sumTo, pick]
      refine ⟨hb, Or.inl ⟨hok', he, Rd.ofRow (hrow.congr fun k _ => by rw [ee k]) (by show n ≤ _; omega) (fun k hk => inR_range (hok'.2 k hk))⟩⟩
    · exact ⟨hb, Or.inr ⟨fun h => hno (add2Ok_iff.2 h), he⟩⟩

theorem add2_yes (L : Option Addr) (C n m : Nat) (A : Nat → Option Addr) (K : Nat → Nat) (Z Y : Nat → Int) (w : World) (hL : Rds w L 2 A (pick n m) K (pick Z Y)) (hn : n ≤ 1048576) (hm : m ≤ 1048576) (h : Add2Ok n m Z Y) :
    Calls Try.prog 10 #[.slice L 2 C] w fun e w' => ∃ B, e = .returned (.tuple #[.slice (some ⟨B, 0, none⟩) n n, .bool true]) ∧ Keep w w' ∧ Rd w' (some ⟨B, 0, none⟩) n (fun k => Z k + Y k) := by
  refine (add2 L C n m A K Z Y w hL hn hm).mono ?_
  rintro e w' ⟨hb, ⟨hok, he, hrow⟩ | ⟨hno, he⟩⟩
  · exact ⟨_, he, hb, hrow⟩
  · exact absurd h hno
theorem add2_no (L : Option Addr) (C n m : Nat) (A : Nat → Option Addr) (K : Nat → Nat) (Z Y : Nat → Int) (w : World) (hL : Rds w L 2 A (pick n m) K (pick Z Y)) (hn : n ≤ 1048576) (hm : m ≤ 1048576) (h : ¬ Add2Ok n m Z Y) :
    Calls Try.prog 10 #[.slice L 2 C] w fun e w' => e = .returned (.tuple #[.slice none 0 0, .bool false]) ∧ Keep w w' := by
  refine (add2 L C n m A K Z Y w hL hn hm).mono ?_
  rintro e w' ⟨hb, ⟨hok, he, hrow⟩ | ⟨hno, he⟩⟩
  · exact absurd hok h
  · exact ⟨he, hb⟩

theorem sub_ok (A B : Option Addr) (n m c d : Nat) (Z Y : Nat → Int) (w : World) (hA : Rd w A n Z) (hB : Rd w B m Y) (hn : n ≤ 1048576) (h : SubOk n Z m Y) :
    Calls Try.prog 13 #[.slice A n c, .slice B m d] w fun e w' => ∃ B, e = .returned (.tuple #[.slice (some ⟨B, 0, none⟩) n n, .bool true]) ∧ Keep w w' ∧ Rd w' (some ⟨B, 0, none⟩) n (fun k => Z k - Y k) := by
  refine (sub_any A B n m c d Z Y w hA hB hn).mono ?_
  rintro e w' ⟨hb, ⟨hok, he, hrow⟩ | ⟨hno, he⟩⟩
  · exact ⟨_, he, hb, Rd.ofRow hrow (by omega) (fun k hk => by have := subOk_range (hok.2 k hk); omega)⟩
  · exact absurd h hno
theorem sub_not (A B : Option Addr) (n m c d : Nat) (Z Y : Nat → Int) (w : World) (hA : Rd w A n Z) (hB : Rd w B m Y) (hn : n ≤ 1048576) (h : ¬ SubOk n Z m Y) :
    Calls Try.prog 13 #[.slice A n c, .slice B m d] w fun e w' => e = .returned (.tuple #[.slice none 0 0, .bool false]) ∧ Keep w w' := by
  refine (sub_any A B n m c d Z Y w hA hB hn).mono ?_
  rintro e w' ⟨hb, ⟨hok, he, hrow⟩ | ⟨hno, he⟩⟩
  · exact absurd hok h
  · exact ⟨he, hb⟩

theorem keepAlloc (w : World) (o : Obj) : Keep w (w.alloc o) := (Below.refl _ _).alloc (Nat.le_refl _) o
theorem Keep.refl (w : World) : Keep w w := Below.refl _ _
theorem Drawn.keep {w w' : World} (h : Drawn w w') : Keep w w' := h.below
theorem Rd.keep {w w' : World} {A n Z} (h : Rd w A n Z) (hb : Keep w w') : Rd w' A n Z := h.below hb

theorem add_nil (w : World) : Calls Try.prog 10 #[.slice none 0 0] w fun e w' => e = .returned (.tuple #[.slice none 0 0, .bool false]) ∧ w' = w := add_none none 0 w

theorem rsame_k {A B : Option Addr} {n m c d : Nat} {Z Y : Nat → Int} {w : World} (hA : Rd w A n Z) (hB : Rd w B m Y) (b : Bool) (h : sameB n Z m Y = b) :
    Calls Try.prog 12 #[.slice A n c, .slice B m d] w fun e w' => e = .returned (.bool b) ∧ Keep w w' := (rsame_is A B n m c d Z Y w hA hB b h).mono fun _ _ h => ⟨h.1, h.2.keep⟩
theorem fits_k {A B : Option Addr} {n m c d : Nat} {Z Y : Nat → Int} {w : World} (hA : Rd w A n Z) (hB : Rd w B m Y) (b : Bool) (h : fitsB n Z m Y = b) :
    Calls Try.prog 15 #[.slice A n c, .slice B m d] w fun e w' => e = .returned (.bool b) ∧ Keep w w' := (fits_is A B n m c d Z Y w hA hB b h).mono fun _ _ h => ⟨h.1, h.2.keep⟩
theorem same_k {A B : Option Addr} {n m c d : Nat} {Z Y : Nat → Int} {w : World} (hA : Rd w A n Z) (hB : Rd w B m Y) (b : Bool) (h : sameB n Z m Y = b) :
    Calls Try.prog 17 #[.slice A n c, .slice B m d] w fun e w' => e = .returned (.bool b) ∧ Keep w w' := (same_is A B n m c d Z Y w hA hB b h).mono fun _ _ h => ⟨h.1, h.2.keep⟩
theorem vwrong_is {A : Option Addr} {n c : Nat} {Z : Nat → Int} {d : Int} {w : World} (hA : Rd w A n Z) (v : Int) (h : wrongOf n Z d = v) :
    Calls Try.prog 20 #[.slice A n c, .int .i64 d] w fun e w' => e = .returned (.int .i64 v) ∧ w' = w := by
  rw [← h]; exact vwrong_any A n c Z d w hA

set_option maxHeartbeats 4000000 in
theorem awake_fn (w : World) : Calls Try.prog 9 #[] w fun e w' => e = .returned (.bool true) ∧ Keep w w' := by
  go_enter Try.func9, Try.ntmps9
  go_wp2_with fail
  have ha : Rd (w.alloc (.cells #[.int .i64 1, .int .i64 2] 2)) (some ⟨w.heap.size, 0, none⟩) 2 (pick 1 2) := Rd.two 1 2 rfl (by omega) (by omega)
  have hb : Rd ((w.alloc (.cells #[.int .i64 1, .int .i64 2] 2)).alloc (.cells #[.int .i64 3, .int .i64 4] 2)) (some ⟨w.heap.size + 1, 0, none⟩) 2 (pick 3 4) := Rd.two 3 4 (by simp) (by omega) (by omega)
  replace ha := ha.keep (keepAlloc _ (.cells #[.int .i64 3, .int .i64 4] 2))
  have hk : Keep w ((w.alloc (.cells #[.int .i64 1, .int .i64 2] 2)).alloc (.cells #[.int .i64 3, .int .i64 4] 2)) := (keepAlloc _ _).trans (keepAlloc _ _)
  refine (add2_yes _ _ 2 2 _ _ (pick 1 2) (pick 3 4) _ (Rds.two (by simp) ha hb) (by omega) (by omega) ⟨rfl, by decide⟩).mono ?_
  rintro e w1 ⟨B1, rfl, hk1, hs⟩
  replace hk1 := Keep.ofAlloc _ hk1
  replace ha := ha.keep hk1
  replace hb := hb.keep hk1
  replace hk := hk.trans hk1
  go_wp2_with fail
  refine (sub_ok _ _ _ _ _ _ _ _ _ hb ha (by omega) ⟨rfl, by decide⟩).mono ?_
  rintro e w2 ⟨B2, rfl, hk2, hd⟩
  replace ha := ha.keep hk2
  replace hb := hb.keep hk2
  replace hs := hs.keep hk2
  replace hk := hk.trans hk2
  go_wp2_with fail
  refine (sub_not _ _ _ _ _ _ _ _ _ ha hb (by omega) (fun h => by have := h.2 0 (by omega); revert this; decide)).mono ?_
  rintro e w3 ⟨rfl, hk3⟩
  replace ha := ha.keep hk3
  replace hb := hb.keep hk3
  replace hs := hs.keep hk3
  replace hd := hd.keep hk3
  replace hk := hk.trans hk3
  clear hk1 hk2 hk3
  go_wp2_with fail
  refine (add_nil _).mono ?_
  rintro e w' ⟨rfl, rfl⟩
  go_wp2_with fail
  refine (rsame_k (hs.keep (keepAlloc _ _)) (Rd.two 4 6 rfl (by omega) (by omega)) true (by decide)).mono ?_
  rintro e w4 ⟨rfl, hk4⟩
  replace hk4 := Keep.ofAlloc _ hk4
  replace ha := ha.keep hk4
  replace hb := hb.keep hk4
  replace hd := hd.keep hk4
  replace hk := hk.trans hk4
  clear hk4 hs
  go_wp2_with fail
  refine (rsame_k (hd.keep (keepAlloc _ _)) (Rd.two 2 2 rfl (by omega) (by omega)) true (by decide)).mono ?_
  rintro e w5 ⟨rfl, hk5⟩
  replace hk5 := Keep.ofAlloc _ hk5
  replace ha := ha.keep hk5
  replace hb := hb.keep hk5
  replace hk := hk.trans hk5
  clear hk5 hd
  go_wp2_with fail
  refine (fits_k (ha.keep (keepAlloc _ _)) (Rd.two 1 5 rfl (by omega) (by omega)) true (by decide)).mono ?_
  rintro e w6 ⟨rfl, hk6⟩
  replace hk6 := Keep.ofAlloc _ hk6
  replace ha := ha.keep hk6
  replace hb := hb.keep hk6
  replace hk := hk.trans hk6
  clear hk6
  go_wp2_with fail
  refine (fits_k hb ha false (by decide)).mono ?_
  rintro e w7 ⟨rfl, hk7⟩
  replace ha := ha.keep hk7
  replace hb := hb.keep hk7
  replace hk := hk.trans hk7
  clear hk7
  go_wp2_with fail
  refine (vwrong_is ha (-1) (by decide)).mono ?_
  rintro e w' ⟨rfl, rfl⟩
  go_wp2_with fail
  refine (vwrong_is ha 2 (by decide)).mono ?_
  rintro e w' ⟨rfl, rfl⟩
  go_wp2_with fail
  refine (zero_fn 2 _ (by omega)).mono ?_
  rintro e w' ⟨rfl, rfl⟩
  go_wp2_with fail
  refine (same_k (ha.keep (keepAlloc _ _)) (ha.keep (keepAlloc _ _)) true (by decide)).mono ?_
  rintro e w8 ⟨rfl, hk8⟩
  replace hk8 := Keep.ofAlloc _ hk8
  replace ha := ha.keep hk8
  replace hb := hb.keep hk8
  replace hk := hk.trans hk8
  clear hk8
  go_wp2_with fail
  refine (same_k ha hb false (by decide)).mono ?_
  rintro e w9 ⟨rfl, hk9⟩
  go_wp2_with fail
  go_ret
  exact ⟨rfl, hk.trans hk9⟩
end Go.Proofs.Ytkkoajkoiiolgaa
