/-
  vec.combine with the closures of Sub and Most, vec.Sub, vec.Most. Condition: at most 1048576 elements.
-/
import Derived.Test.YtkkoajkoiiolgaaAdd
namespace Go.Proofs.Ytkkoajkoiiolgaa
open Go.RowKit

theorem subOk_range {x y : Int} (h : subOk x y = true) : y ≤ x ∧ x - y ≤ 9223372036854775807 := by unfold subOk at h; exact of_decide_eq_true h
theorem sub_yes (x y : Int) (w : World) (hx : -9223372036854775808 ≤ x ∧ x ≤ 9223372036854775807) (hy : -9223372036854775808 ≤ y ∧ y ≤ 9223372036854775807) (h : subOk x y = true) :
    Calls Try.prog 27 #[.int .i64 x, .int .i64 y] w fun e w' => e = .returned (.tuple #[.int .i64 (x - y), .bool true]) ∧ w' = w :=
  (sub_fn x y w hx hy).mono fun e w' ⟨he, hw⟩ => ⟨by rw [he, h, IntWalk.wrap64_in (x - y) (by have := subOk_range h; omega)], hw⟩
theorem sub_no (x y : Int) (w : World) (hx : -9223372036854775808 ≤ x ∧ x ≤ 9223372036854775807) (hy : -9223372036854775808 ≤ y ∧ y ≤ 9223372036854775807) (h : subOk x y = false) :
    Calls Try.prog 27 #[.int .i64 x, .int .i64 y] w fun e w' => e = .returned (.tuple #[.int .i64 (wrap64 (x - y)), .bool false]) ∧ w' = w :=
  (sub_fn x y w hx hy).mono fun e w' ⟨he, hw⟩ => ⟨by rw [he, h], hw⟩

def SubOk (n : Nat) (Z : Nat → Int) (m : Nat) (Y : Nat → Int) : Prop := n = m ∧ ∀ k, k < n → subOk (Z k) (Y k) = true
def SubPost (n : Nat) (Z : Nat → Int) (m : Nat) (Y : Nat → Int) (w : World) (e : Ending) (w' : World) : Prop :=
  Below w.heap.size w w' ∧
    ((SubOk n Z m Y ∧ e = .returned (.tuple #[.slice (some ⟨w.heap.size, 0, none⟩) n n, .bool true]) ∧ w'.rowIs w.heap.size 2 n (fun k => .int .i64 (Z k - Y k))) ∨
      (¬ SubOk n Z m Y ∧ e = .returned (.tuple #[.slice none 0 0, .bool false])))

set_option maxHeartbeats 1000000 in
theorem csub_ne (A B : Option Addr) (n m c d : Nat) (Z Y : Nat → Int) (w : World) (h : n ≠ m) (F : Value) :
    Calls Try.prog 26 #[.slice A n c, .slice B m d, F] w (SubPost n Z m Y w) := by
  have hb : ((n : Int) != (m : Int)) = true := by simp; omega
  have h : Hid (n ≠ m) := h
  go_enter Try.func26, Try.ntmps26
  go_wp2
  go_ret2
  exact ⟨Below.refl _ _, Or.inr ⟨fun k => h.out k.1, rfl⟩⟩

theorem rowIs_drewN {w : World} {b : Nat} {t : TypeId} {n : Nat} {f : Nat → Value} (h : w.rowIs b t n f) (q : Nat) : (w.drewN q).rowIs b t n f := h

set_option maxHeartbeats 1000000 in
theorem csub_eq (A B : Option Addr) (n c d : Nat) (Z Y : Nat → Int) (w : World) (hA : Rd w A n Z) (hB : Rd w B n Y) (hn : n ≤ 1048576) :
    Calls Try.prog 26 #[.slice A n c, .slice B n d, .func (.func 27) #[] #[]] w (SubPost n Z n Y w) := by
  go_enter Try.func26, Try.ntmps26
  go_wp2_with (go_at_call 19; refine (zero_fn _ _ (by omega)).mono ?_; rintro e w' ⟨rfl, rfl⟩)
  have hW : Below w.heap.size w (w.alloc (.cells (madeCells #[.int .i64 0] n) 2)) := (Below.refl _ _).alloc (Nat.le_refl _) _
  have hrow : (w.alloc (.cells (madeCells #[.int .i64 0] n) 2)).rowIs w.heap.size 2 n (fun _ => .int .i64 0) := World.rowIs_made w _ _ 2
  generalize w.alloc (.cells (madeCells #[.int .i64 0] n) 2) = w1 at hW hrow ⊢
  go_loopg [22] n (fun g i wr => ∃ k : Nat, k ≤ n ∧ g = n - k ∧ i = .int .i64 k ∧ Below w.heap.size w wr ∧ wr.rowIs w.heap.size 2 n (fun j => if j < k then .int .i64 (Z j - Y j) else .int .i64 0) ∧ Aside (∀ j, j < k → subOk (Z j) (Y j) = true))
  case atStart => exact ⟨0, Nat.zero_le _, rfl, rfl, hW, hrow.congr (fun j _ => by simp), fun _ h => absurd h (Nat.not_lt_zero _)⟩
  case round =>
    obtain ⟨k, hk, rfl, rfl, hBk, hrk, hin⟩ := hrel
    by_cases hlt : k < n
    · obtain ⟨b, off, rfl, ca⟩ := (hA.below hBk).adr (by omega)
      obtain ⟨b', off', rfl, cb⟩ := (hB.below hBk).adr (by omega)
      have g0 := ca k hlt
      have g1 := cb k hlt
      have g2 := hrk.cell hlt
      have g3 := hrk.frozen k
      have r0 := hA.range k hlt
      have r1 := hB.range k hlt
      have r0 : Hid (-9223372036854775808 ≤ Z k ∧ Z k ≤ 9223372036854775807) := r0
      have r1 : Hid (-9223372036854775808 ≤ Y k ∧ Y k ≤ 9223372036854775807) := r1
      have hrk : Aside (wr.rowIs w.heap.size 2 n (fun j => if j < k then .int .i64 (Z j - Y j) else .int .i64 0)) := hrk
      clear ca cb hA hB hrow
      cases hz : subOk (Z k) (Y k)
      · have hz : Hid (subOk (Z k) (Y k) = false) := hz
        go_wp2
        go_quiet ((go_at_call 27; exact Calls.quiet_of_same (sub_no _ _ _ r0 r1 hz)))
        go_wp2
        go_ret2
        exact ⟨below_drewN hBk _, Or.inr ⟨(fun h => by have := h.2 k hlt; rw [hz.out] at this; cases this), rfl⟩⟩
      · have hz : Hid (subOk (Z k) (Y k) = true) := hz
        go_wp2
        go_quiet ((go_at_call 27; exact Calls.quiet_of_same (sub_yes _ _ _ r0 r1 hz)))
        go_wp2
        go_roundg (n - (k + 1))
        case measure => omega
        case rel => exact ⟨k + 1, hlt, rfl, by go_num, (below_drewN hBk _).setCell (Nat.le_refl _) _, ((rowIs_drewN hrk.out _).set k _).congr (fun j _ => by
          by_cases e : j = k
          · subst e; simp
          · rw [if_neg e]
            by_cases h2 : j < k
            · rw [if_pos h2, if_pos (by omega)]
            · rw [if_neg h2, if_neg (by omega)]), fun j hj => by
          rcases Nat.lt_succ_iff_lt_or_eq.1 hj with h | rfl
          · exact hin.out j h
          · exact hz.out⟩
    · obtain rfl : k = n := by omega
      go_wp2
      go_ret2
      exact ⟨hBk, Or.inl ⟨⟨rfl, hin.out⟩, rfl, hrk.congr (fun j hj => by rw [if_pos hj])⟩⟩

theorem sub_post (A B : Option Addr) (n m c d : Nat) (Z Y : Nat → Int) (w : World) (hA : Rd w A n Z) (hB : Rd w B m Y) (hn : n ≤ 1048576) :
    Calls Try.prog 26 #[.slice A n c, .slice B m d, .func (.func 27) #[] #[]] w (SubPost n Z m Y w) := by
  by_cases h : n = m
  · subst h; exact csub_eq A B n c d Z Y w hA hB hn
  · exact csub_ne A B n m c d Z Y w h _

set_option maxHeartbeats 1000000 in
theorem sub_any (A B : Option Addr) (n m c d : Nat) (Z Y : Nat → Int) (w : World) (hA : Rd w A n Z) (hB : Rd w B m Y) (hn : n ≤ 1048576) :
    Calls Try.prog 13 #[.slice A n c, .slice B m d] w (SubPost n Z m Y w) := by
  go_enter Try.func13, Try.ntmps13
  go_wp2_with fail
  refine (sub_post _ _ _ _ _ _ _ _ _ hA hB hn).mono ?_
  rintro e w' ⟨hb, ⟨hok, rfl, hrow⟩ | ⟨hno, rfl⟩⟩
  · go_wp2_with fail
    go_ret2
    exact ⟨hb, Or.inl ⟨hok, rfl, hrow⟩⟩
  · go_wp2_with fail
    go_ret2
    exact ⟨hb, Or.inr ⟨hno, rfl⟩⟩

def MostPost (n : Nat) (Z : Nat → Int) (m : Nat) (Y : Nat → Int) (w : World) (e : Ending) (w' : World) : Prop :=
  Below w.heap.size w w' ∧
    ((n = m ∧ e = .returned (.tuple #[.slice (some ⟨w.heap.size, 0, none⟩) n n, .bool true]) ∧ w'.rowIs w.heap.size 2 n (fun k => .int .i64 (max (Z k) (Y k)))) ∨
      (n ≠ m ∧ e = .returned (.tuple #[.slice none 0 0, .bool false])))

set_option maxHeartbeats 1000000 in
theorem cmost_ne (A B : Option Addr) (n m c d : Nat) (Z Y : Nat → Int) (w : World) (h : n ≠ m) (F : Value) :
    Calls Try.prog 26 #[.slice A n c, .slice B m d, F] w (MostPost n Z m Y w) := by
  have hb : ((n : Int) != (m : Int)) = true := by simp; omega
  have h : Hid (n ≠ m) := h
  go_enter Try.func26, Try.ntmps26
  go_wp2
  go_ret2
  exact ⟨Below.refl _ _, Or.inr ⟨h.out, rfl⟩⟩

set_option maxHeartbeats 1000000 in
theorem cmost_eq (A B : Option Addr) (n c d : Nat) (Z Y : Nat → Int) (w : World) (hA : Rd w A n Z) (hB : Rd w B n Y) (hn : n ≤ 1048576) :
    Calls Try.prog 26 #[.slice A n c, .slice B n d, .func (.func 30) #[] #[]] w (MostPost n Z n Y w) := by
  go_enter Try.func26, Try.ntmps26
  go_wp2_with (go_at_call 19; refine (zero_fn _ _ (by omega)).mono ?_; rintro e w' ⟨rfl, rfl⟩)
  have hW : Below w.heap.size w (w.alloc (.cells (madeCells #[.int .i64 0] n) 2)) := (Below.refl _ _).alloc (Nat.le_refl _) _
  have hrow : (w.alloc (.cells (madeCells #[.int .i64 0] n) 2)).rowIs w.heap.size 2 n (fun _ => .int .i64 0) := World.rowIs_made w _ _ 2
  generalize w.alloc (.cells (madeCells #[.int .i64 0] n) 2) = w1 at hW hrow ⊢
  go_loopg [22] n (fun g i wr => ∃ k : Nat, k ≤ n ∧ g = n - k ∧ i = .int .i64 k ∧ Below w.heap.size w wr ∧ wr.rowIs w.heap.size 2 n (fun j => if j < k then .int .i64 (max (Z j) (Y j)) else .int .i64 0))
  case atStart => exact ⟨0, Nat.zero_le _, rfl, rfl, hW, hrow.congr (fun j _ => by simp)⟩
  case round =>
    obtain ⟨k, hk, rfl, rfl, hBk, hrk⟩ := hrel
    by_cases hlt : k < n
    · obtain ⟨b, off, rfl, ca⟩ := (hA.below hBk).adr (by omega)
      obtain ⟨b', off', rfl, cb⟩ := (hB.below hBk).adr (by omega)
      have g0 := ca k hlt
      have g1 := cb k hlt
      have g2 := hrk.cell hlt
      have g3 := hrk.frozen k
      have hrk : Aside (wr.rowIs w.heap.size 2 n (fun j => if j < k then .int .i64 (max (Z j) (Y j)) else .int .i64 0)) := hrk
      clear ca cb hA hB hrow
      · go_wp2
        go_quiet ((go_at_call 30; exact Calls.quiet_of_same (most_fn _ _ _)))
        go_wp2
        go_roundg (n - (k + 1))
        case measure => omega
        case rel => exact ⟨k + 1, hlt, rfl, by go_num, (below_drewN hBk _).setCell (Nat.le_refl _) _, ((rowIs_drewN hrk.out _).set k _).congr (fun j _ => by
          by_cases e : j = k
          · subst e; simp
          · rw [if_neg e]
            by_cases h2 : j < k
            · rw [if_pos h2, if_pos (by omega)]
            · rw [if_neg h2, if_neg (by omega)])⟩
    · obtain rfl : k = n := by omega
      go_wp2
      go_ret2
      exact ⟨hBk, Or.inl ⟨rfl, rfl, hrk.congr (fun j hj => by rw [if_pos hj])⟩⟩

theorem most_post (A B : Option Addr) (n m c d : Nat) (Z Y : Nat → Int) (w : World) (hA : Rd w A n Z) (hB : Rd w B m Y) (hn : n ≤ 1048576) :
    Calls Try.prog 26 #[.slice A n c, .slice B m d, .func (.func 30) #[] #[]] w (MostPost n Z m Y w) := by
  by_cases h : n = m
  · subst h; exact cmost_eq A B n c d Z Y w hA hB hn
  · exact cmost_ne A B n m c d Z Y w h _

set_option maxHeartbeats 1000000 in
theorem most_any (A B : Option Addr) (n m c d : Nat) (Z Y : Nat → Int) (w : World) (hA : Rd w A n Z) (hB : Rd w B m Y) (hn : n ≤ 1048576) :
    Calls Try.prog 18 #[.slice A n c, .slice B m d] w (MostPost n Z m Y w) := by
  go_enter Try.func18, Try.ntmps18
  go_wp2_with fail
  refine (most_post _ _ _ _ _ _ _ _ _ hA hB hn).mono ?_
  rintro e w' ⟨hb, ⟨hok, rfl, hrow⟩ | ⟨hno, rfl⟩⟩
  · replace hok : Hid (n = m) := hok
    go_wp2_with fail
    go_ret2
    exact ⟨hb, Or.inl ⟨hok.out, rfl, hrow⟩⟩
  · replace hno : Hid (n ≠ m) := hno
    go_wp2_with fail
    go_ret2
    exact ⟨hb, Or.inr ⟨hno.out, rfl⟩⟩
end Go.Proofs.Ytkkoajkoiiolgaa
