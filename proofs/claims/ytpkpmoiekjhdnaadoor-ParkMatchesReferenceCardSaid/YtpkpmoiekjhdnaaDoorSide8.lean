/-
  A lot and the reference's two lists side by side. No condition, no walk.
-/
import Derived.Test.YtpkpmoiekjhdnaaDoorFew8
import Derived.Test.YtpkpmoiekjhdnaaDoorRAdd8
import Derived.Test.YtpkpmoiekjhdnaaDoorMet8
import Derived.Test.YtpkpmoiekjhdnaaDoorCnt8
import Derived.Test.YtpkpmoiekjhdnaaDoorAdd8
namespace Go.Proofs.YtpkpmoiekjhdnaaDoor
open Go.RowKit Go.Sort Go.Lib Go.Shelf

/-- The reference's two lists, apart from D. -/
structure Two (w : World) (D : Nat → Prop) (B : Option Addr) (m d : Nat) (S : Nat → PodV) (B2 : Option Addr) (d2 : Nat) (Z : Nat → Int) : Prop where
  src : Src w D B m S
  rs : Rd w B2 m Z
  far : ∀ a, B2 = some a → 0 < m → ¬ D a.block
  nil : B = none → m = 0 ∧ d = 0
  nil2 : B2 = none → m = 0 ∧ d2 = 0
  cap : m ≤ d
  few : ∀ j, j < m → OneF (S j)
structure Side (w : World) (b bl : Nat) (V D : Nat → Prop) (B : Option Addr) (m d : Nat) (S : Nat → PodV) (B2 : Option Addr) (d2 : Nat) (Z : Nat → Int) (L : List (PodV × Int)) : Prop where
  q : LInv w b b bl D L
  two : Two w (fun k => D k ∨ V k) B m d S B2 d2 Z
  perm : ((prZ S Z m).map nmE).Perm L
section
variable {w w' : World} {b bl : Nat} {V D D' : Nat → Prop} {B : Option Addr} {m d : Nat} {S : Nat → PodV} {B2 : Option Addr} {d2 : Nat} {Z : Nat → Int} {L : List (PodV × Int)}
theorem Two.fr (h : Two w D B m d S B2 d2 Z) (f : Fr D w w') (hD : ∀ k, D' k → D k ∨ w.heap.size ≤ k) : Two w' D' B m d S B2 d2 Z :=
  ⟨h.src.fr f hD, h.rs.fr f h.far, fun a e h0 hd => by
    rcases hD _ hd with h1 | h1
    · exact h.far a e h0 h1
    · obtain ⟨g, off, e2, hc⟩ := h.rs.adr h0
      rw [e] at e2
      obtain rfl := Option.some.inj e2
      have : g < w.heap.size := cell_lt (hc 0 h0)
      simp only at h1
      omega, h.nil, h.nil2, h.cap, h.few⟩
theorem Two.keep (h : Two w D B m d S B2 d2 Z) (k : Keep w w') : Two w' D B m d S B2 d2 Z := ⟨h.src.keep k, h.rs.keep k, h.far, h.nil, h.nil2, h.cap, h.few⟩
theorem Two.more (h : Two w D B m d S B2 d2 Z) (hD : ∀ k, D' k → D k ∨ w.heap.size ≤ k) : Two w D' B m d S B2 d2 Z := h.fr (Fr.refl _ _) hD
theorem Side.keep (h : Side w b bl V D B m d S B2 d2 Z L) (k : Keep w w') : Side w' b bl V D B m d S B2 d2 Z L := ⟨h.q.keep k, h.two.keep k, h.perm⟩
theorem Side.len (h : Side w b bl V D B m d S B2 d2 Z L) : L.length = m := by rw [← h.perm.length_eq, List.length_map, prZ_len]
theorem Side.pods (h : Side w b bl V D B m d S B2 d2 Z L) : ((lst S m).map nm).Perm (podsE L) := by
  have := h.perm.map (fun y : PodV × Int => y.1)
  rw [← prZ_pods S Z m, ← pods_nm]
  exact this
theorem Side.find (h : Side w b bl V D B m d S B2 d2 Z L) (id : Int) : 0 ≤ findN S id m ↔ id ∈ keysE L := by
  rw [find_keys h.pods, pods_keys]
theorem Side.cnt (h : Side w b bl V D B m d S B2 d2 Z L) (r : Int) : cntZ r Z m = cntE r L := by rw [cntZ_eq r S Z m, ← cnt_nm, cnt_perm h.perm]
theorem Side.at_ (h : Side w b bl V D B m d S B2 d2 Z L) {j : Nat} (hj : j < m) : (nm (S j), Z j) ∈ L := h.perm.mem_iff.1 (List.mem_map.2 ⟨_, prZ_mem.2 ⟨j, hj, rfl⟩, rfl⟩)
/-- Two of one key are one. -/
theorem key_one {L : List (PodV × Int)} (hk : (keysE L).Nodup) {y z : PodV × Int} (hy : y ∈ L) (hz : z ∈ L) (e : y.1.k = z.1.k) : y = z := by
  induction L with
  | nil => cases hy
  | cons u L ih =>
    unfold keysE at hk ih
    rw [List.map_cons, List.nodup_cons] at hk
    have inn : ∀ {v : PodV × Int}, v ∈ L → v.1.k ∈ L.map fun y => y.1.k := fun h => List.mem_map_of_mem (f := fun y : PodV × Int => y.1.k) h
    rcases List.mem_cons.1 hy with e1 | hy
    · rcases List.mem_cons.1 hz with e2 | hz
      · rw [e1, e2]
      · exact absurd (by rw [← e1, e]; exact inn hz) hk.1
    · rcases List.mem_cons.1 hz with e2 | hz
      · exact absurd (by rw [← e2, ← e]; exact inn hy) hk.1
      · exact ih hk.2 hy hz
/-- A block beside the lot has turned. -/
theorem LInv.other (h : LInv w b b bl D L) {s : Nat} {T : TypeId} (hs : ¬ D s) (hT : Kind w s T) (hne : T ≠ 2) (f : Fr (fun k => k = s) w w') : LInv w' b b bl D L := by
  obtain ⟨X, E, M, hp, rfl⟩ := h
  refine ⟨X, E, M.frame f (fun k hk e => hs (by rw [← e]; exact hk)) (fun y hy g hg e => ?_), hp, rfl⟩
  obtain ⟨cur, hk⟩ := row_kind (M.own y hy).1 hg
  obtain ⟨cs, fr, h2⟩ := hT
  rw [e, h2] at hk
  injection hk with hk
  injection hk with _ hk
  exact hne hk
end
/-- What an operation leaves. -/
def After (w w' : World) (b bl : Nat) (V D : Nat → Prop) (B : Option Addr) (m d : Nat) (S : Nat → PodV) (B2 : Option Addr) (d2 : Nat) (Z : Nat → Int) : Prop :=
  Fr D w w' ∧ ∃ D' L', Side w' b bl V D' B m d S B2 d2 Z L' ∧ ∀ k, D' k → D k ∨ w.heap.size ≤ k
theorem nil_two (w : World) (D : Nat → Prop) : Two w D none 0 0 (fun _ => zpod) none 0 (fun _ => 0) :=
  ⟨⟨RdPods.nil _ _ _, fun _ _ _ h => absurd h (Nat.lt_irrefl _), fun _ h => absurd h (Nat.not_lt_zero _)⟩, Rd.nil _ _ _, (fun _ h => by cases h), fun _ => ⟨rfl, rfl⟩, fun _ => ⟨rfl, rfl⟩, Nat.le_refl _, fun _ h => absurd h (Nat.not_lt_zero _)⟩
end Go.Proofs.YtpkpmoiekjhdnaaDoor
