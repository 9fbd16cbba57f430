/-
  What the laws' walks share: the store beside the reference's list. Condition: errors.errorType holds its own.
-/
import Derived.Test.YtfidlljhmebpmaaDoorAwake13
import Derived.Test.YtfidlljhmebpmaaDoorPlay13
namespace Go.Proofs.YtfidlljhmebpmaaDoor.T13
open Go.RowKit Go.Sort Go.Lib V12

/-- The store and the reference's list hold the same pods. -/
structure St (OS : Pred) (w : World) (s : Int) (q : Nat) (L : List PodV) (X : Nat → Prop) (w1 : World) (B : Option Addr) (c n : Nat) (P : Nat → PodV) : Prop where
  o : OS w s q L X w1
  r : RL w X w1 B c n P
  e : (lst P n).map nm = L
  m : ∀ y ∈ L, y.m ≤ 20
theorem St.keep {OS : Pred} (C : Con OS) {w : World} {s : Int} {q : Nat} {L : List PodV} {X : Nat → Prop} {w1 w2 : World} {B : Option Addr} {c n : Nat} {P : Nat → PodV} (h : St OS w s q L X w1 B c n P) (k : Keep w1 w2) : St OS w s q L X w2 B c n P := ⟨C.keep h.o k, h.r.keep k, h.e, h.m⟩
theorem St.len {OS : Pred} {w : World} {s : Int} {q : Nat} {L : List PodV} {X : Nat → Prop} {w1 : World} {B : Option Addr} {c n : Nat} {P : Nat → PodV} (h : St OS w s q L X w1 B c n P) : L.length = n := by rw [← h.e, List.length_map, lst_len]
theorem St.m3 {OS : Pred} {w : World} {s : Int} {q : Nat} {L : List PodV} {X : Nat → Prop} {w1 : World} {B : Option Addr} {c n : Nat} {P : Nat → PodV} (h : St OS w s q L X w1 B c n P) : ∀ y ∈ L, y.m ≤ 1000 := fun y hy => by
  have := h.m y hy
  omega
theorem St.new {OS : Pred} {w : World} {s : Int} {q : Nat} {X : Nat → Prop} {w1 : World} (h : OS w s q [] X w1) : St OS w s q [] X w1 none 0 0 (fun _ => zpod) := ⟨h, RL.nil _ _ _, rfl, fun y hy => by cases hy⟩
/-- What a played operation leaves. -/
def StPost (OS : Pred) (w : World) (s : Int) (q i : Nat) (M : List PodV) (e : Ending) (w' : World) : Prop :=
  ∃ B' c' n' P' X', e = .returned (.tuple #[.slice B' n' c', .bool true]) ∧ n' ≤ i + 1 ∧ St OS w s q M X' w' B' c' n' P'
theorem st_play {OS : Pred} (C : Con OS) {w : World} {s : Int} {q : Nat} {L : List PodV} {X : Nat → Prop} {w1 : World} {B : Option Addr} {c n : Nat} {P : Nat → PodV} (h : St OS w s q L X w1 B c n P) (hg : ErrT w) (o : OpV) (ho : OpIs w o) (hm : o.x.m ≤ 20) (hn : n ≤ 60) :
    Calls Tryd.prog 11 #[.pointer (some ⟨q, 0, none⟩), .slice B n c, .int .i64 s, o.val] w1 (StPost OS w s q n (opL L s o)) := by
  refine (play_fn C h.o h.r h.e hg o ho (by omega) (by omega) h.m3).mono ?_
  rintro e w' ⟨B', c', n', P', X', rfl, h1, h2, h3⟩
  have hl := opL_len L s o
  rw [← h3, List.length_map, lst_len, h.len] at hl
  exact ⟨B', c', n', P', X', rfl, hl, ⟨h1, h2, h3, opL_m h.m hm⟩⟩
/-- A filtered list without places. -/
theorem fil_nm {b : PodV → Bool} (hb : ∀ x, b (nm x) = b x) (L : List PodV) : (L.map nm).filter b = (L.filter b).map nm := by
  rw [List.filter_map]
  congr 1
  refine List.filter_congr fun x _ => ?_
  exact hb x
theorem withB_nm (p : Int) (x : PodV) : withB p (nm x) = withB p x := rfl
theorem onB_nm (p : Int) (x : PodV) : onB p (nm x) = onB p x := rfl
theorem same_of {P Q : Nat → PodV} {m : Nat} (h : (lst P m).map nm = (lst Q m).map nm) : ∀ j, j < m → SameV (P j) (Q j) := fun j hj => same_nm (by
  have e := congrArg (fun l => l[j]?) h
  simp only [List.getElem?_map, lst_get hj, Option.map_some] at e
  exact Option.some.inj e)
/-- The filter of both: the store's answer beside the reference's. -/
theorem st_fil {OS : Pred} {w : World} {s : Int} {q : Nat} {L : List PodV} {X : Nat → Prop} {w1 : World} {B : Option Addr} {c n : Nat} {P : Nat → PodV} (h : St OS w s q L X w1 B c n P) {b : PodV → Bool} (hb : ∀ x, b (nm x) = b x) : L.filter b = ((lst P n).filter b).map nm := by rw [← h.e, fil_nm hb]
theorem st_flen {OS : Pred} {w : World} {s : Int} {q : Nat} {L : List PodV} {X : Nat → Prop} {w1 : World} {B : Option Addr} {c n : Nat} {P : Nat → PodV} (h : St OS w s q L X w1 B c n P) {b : PodV → Bool} (hb : ∀ x, b (nm x) = b x) : ((lst P n).filter b).length = (L.filter b).length := by rw [st_fil h hb, List.length_map]
/-- Same over a row of the store's and the reference's filter. -/
theorem st_same {w1 : World} {F G : List PodV} (hF : F = G.map nm) {S : Nat → PodV} {A B : Option Addr} {c d m : Nat} (hm : m = G.length) (hS : (lst S m).map nm = F) (hA : RdPods w1 A m S) (hB : RdPods w1 B m (row G)) :
    Calls Tryd.prog 12 #[.slice A m c, .slice B m d] w1 fun e w' => e = .returned (.bool true) ∧ Keep w1 w' := by
  refine rsame6_fn A B m c d S (row G) w1 hA hB (same_of ?_)
  rw [hS, hF, hm, lst_row]
def sumW (L : List PodV) : Nat → Nat
  | 0 => 0
  | k + 1 => sumW L k + (L.filter (withB ((k : Int) - 1))).length
theorem sumW_le (L : List PodV) (k : Nat) : sumW L k ≤ k * L.length := by
  induction k with
  | zero => exact Nat.zero_le _
  | succ k ih =>
    unfold sumW
    have := List.length_filter_le (withB ((k : Int) - 1)) L
    rw [Nat.succ_mul]
    omega
theorem sumW_all {L : List PodV} (h : LOk L) : sumW L 8 = L.length := by
  have e := h.sum
  have z0 := h.none (p := -1) (by omega)
  have z1 := h.none (p := 0) (by omega)
  have z2 := h.none (p := 6) (by omega)
  show 0 + (L.filter (withB (-1))).length + (L.filter (withB 0)).length + (L.filter (withB 1)).length + (L.filter (withB 2)).length + (L.filter (withB 3)).length + (L.filter (withB 4)).length + (L.filter (withB 5)).length + (L.filter (withB 6)).length = _
  rw [z0, z1, z2]
  simp only [List.length_nil]
  omega
theorem RdO.at {w : World} {b off n : Nat} {P : Nat → OpV} (h : RdO w (some ⟨b, off, none⟩) n P) {j : Nat} (hj : j < n) : Cel12 w b (off + j * 12) (P j) := by
  obtain ⟨b', off', e, c⟩ := h.adr (by omega)
  have e2 := Option.some.inj e
  simp only [Addr.mk.injEq, and_true] at e2
  obtain ⟨rfl, rfl⟩ := e2
  exact c j hj
theorem first_or (P : Nat → PodV) (id : Int) : ∀ n, (∀ t, t < n → (P t).k ≠ id) ∨ ∃ j, j < n ∧ (P j).k = id ∧ ∀ t, t < j → (P t).k ≠ id
  | 0 => Or.inl fun t h => absurd h (Nat.not_lt_zero _)
  | n + 1 => by
    rcases first_or P id n with h | ⟨j, h1, h2, h3⟩
    · by_cases e : (P n).k = id
      · exact Or.inr ⟨n, by omega, e, h⟩
      · refine Or.inl fun t ht => ?_
        by_cases et : t = n
        · rw [et]; exact e
        · exact h t (by omega)
    · exact Or.inr ⟨j, by omega, h2, h3⟩
theorem find_lst {Q : Nat → PodV} {m : Nat} {M : List PodV} (h : (lst Q m).map nm = M) (id : Int) : (id ∉ keys M ∧ findN Q id m = -1) ∨ (id ∈ keys M ∧ ∃ t, t < m ∧ findN Q id m = (t : Int) ∧ nm (Q t) = getL M id) := by
  subst h
  rcases first_or Q id m with hn | ⟨j, h1, h2, h3⟩
  · refine Or.inl ⟨fun hk => ?_, find_no hn⟩
    rw [keys_nm] at hk
    unfold keys at hk
    obtain ⟨y, hy, e⟩ := List.mem_map.1 hk
    obtain ⟨t, ht, rfl⟩ := lst_mem.1 hy
    exact hn t ht e
  · refine Or.inr ⟨?_, j, h1, find_at h2 h3 h1, by rw [← get_nm, get_first h1 h2 h3]⟩
    rw [keys_nm]
    unfold keys
    rw [← h2]
    exact List.mem_map_of_mem (lst_mem.2 ⟨j, h1, rfl⟩)
theorem RdPods.at {w : World} {b off n : Nat} {P : Nat → PodV} (h : RdPods w (some ⟨b, off, none⟩) n P) {j : Nat} (hj : j < n) : Cel9 w b (off + j * 9) (P j) := by
  obtain ⟨b', off', e, c⟩ := h.adr (by omega)
  have e2 := Option.some.inj e
  simp only [Addr.mk.injEq, and_true] at e2
  obtain ⟨rfl, rfl⟩ := e2
  exact c j hj
end Go.Proofs.YtfidlljhmebpmaaDoor.T13
