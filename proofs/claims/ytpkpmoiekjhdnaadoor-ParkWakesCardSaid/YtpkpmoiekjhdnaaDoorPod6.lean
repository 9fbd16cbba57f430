/-
  Pods as values; worlds that have only grown. No condition.
-/
import Derived.Test.YtpkpmoiekjhdnaaDoorBase5
import Derived.Shelf.SlSortCmp.KitK
import Derived.Deep.Cut
namespace Go.Proofs.YtpkpmoiekjhdnaaDoor
open Go.RowKit Go.Sort

/-- A pod's fields: its ID, priority, preemption, grace, request (address, length, capacity, amounts), arrival, phase, node, deadline. -/
structure PodV where
  k : Int
  p : Int
  f : Bool
  g : Int
  A : Option Addr
  m : Nat
  c : Nat
  Z : Nat → Int
  a : Int
  h : Int
  d : Int
  t : Int
namespace PodV
def cells (x : PodV) : List Value := [.int .i64 x.k, .int .i64 x.p, .bool x.f, .int .i64 x.g, .slice x.A x.m x.c, .int .i64 x.a, .int .i64 x.h, .int .i64 x.d, .int .i64 x.t]
def val (x : PodV) : Value := .agg #[.int .i64 x.k, .int .i64 x.p, .bool x.f, .int .i64 x.g, .slice x.A x.m x.c, .int .i64 x.a, .int .i64 x.h, .int .i64 x.d, .int .i64 x.t]
end PodV
def I64 (x : Int) : Prop := -9223372036854775808 ≤ x ∧ x ≤ 9223372036854775807
/-- It reads so. -/
structure PodIs (w : World) (x : PodV) : Prop where
  rd : Rd w x.A x.m x.Z
  nil : x.A = none → x.m = 0 ∧ x.c = 0
  rng : I64 x.k ∧ I64 x.p ∧ I64 x.g ∧ I64 x.a ∧ I64 x.h ∧ I64 x.d ∧ I64 x.t
theorem PodIs.keep {w w' : World} {x : PodV} (h : PodIs w x) (k : Keep w w') : PodIs w' x := ⟨h.rd.keep k, h.nil, h.rng⟩

/-- The nine cells of a variable that holds the pod. -/
structure Cel9 (w : World) (b o : Nat) (x : PodV) : Prop where
  e0 : w.cell? ⟨b, o, none⟩ = some (.int .i64 x.k)
  e1 : w.cell? ⟨b, o + 1, none⟩ = some (.int .i64 x.p)
  e2 : w.cell? ⟨b, o + 2, none⟩ = some (.bool x.f)
  e3 : w.cell? ⟨b, o + 3, none⟩ = some (.int .i64 x.g)
  e4 : w.cell? ⟨b, o + 4, none⟩ = some (.slice x.A x.m x.c)
  e5 : w.cell? ⟨b, o + 5, none⟩ = some (.int .i64 x.a)
  e6 : w.cell? ⟨b, o + 6, none⟩ = some (.int .i64 x.h)
  e7 : w.cell? ⟨b, o + 7, none⟩ = some (.int .i64 x.d)
  e8 : w.cell? ⟨b, o + 8, none⟩ = some (.int .i64 x.t)
theorem Cel9.keep {w w' : World} {b o : Nat} {x : PodV} (h : Cel9 w b o x) (k : Keep w w') : Cel9 w' b o x :=
  ⟨k.cell h.e0, k.cell h.e1, k.cell h.e2, k.cell h.e3, k.cell h.e4, k.cell h.e5, k.cell h.e6, k.cell h.e7, k.cell h.e8⟩
theorem Cel9.new (w : World) (x : PodV) (T : TypeId) (cs : Array Value) (h : cs = #[.int .i64 x.k, .int .i64 x.p, .bool x.f, .int .i64 x.g, .slice x.A x.m x.c, .int .i64 x.a, .int .i64 x.h, .int .i64 x.d, .int .i64 x.t]) : Cel9 (w.alloc (.cells cs T)) w.heap.size 0 x := by
  subst h
  constructor <;> simp [World.cell?_alloc_new]

/-- Draws, and blocks behind. -/
def Gr (w w' : World) : Prop := ∃ q os, w' = grow (w.drewN q) os
theorem Gr.refl (w : World) : Gr w w := ⟨0, #[], by rw [grow_empty]; rfl⟩
theorem Gr.trans {a b c : World} (h : Gr a b) (k : Gr b c) : Gr a c := by
  obtain ⟨q, os, rfl⟩ := h
  obtain ⟨r, ot, rfl⟩ := k
  exact ⟨q + r, os ++ ot, by show grow (grow ((a.drewN q).drewN r) os) ot = _; rw [grow_grow, World.drewN_drewN]⟩
theorem Gr.alloc {a b : World} (h : Gr a b) (o : Obj) : Gr a (b.alloc o) := h.trans ⟨0, #[o], by rw [alloc_eq_grow]; rfl⟩
theorem Gr.one (w : World) (o : Obj) : Gr w (w.alloc o) := (Gr.refl w).alloc o
theorem Gr.drew {a b : World} (h : Gr a b) : Gr a b.drew := h.trans ⟨1, #[], by rw [grow_empty]; rfl⟩
theorem Gr.drewN {a b : World} (h : Gr a b) (q : Nat) : Gr a (b.drewN q) := h.trans ⟨q, #[], by rw [grow_empty]⟩
theorem Gr.grow {a b : World} (h : Gr a b) (os : Array Obj) : Gr a (grow b os) := h.trans ⟨0, os, rfl⟩
theorem Gr.keep {w w' : World} (h : Gr w w') : Keep w w' := by
  obtain ⟨q, os, rfl⟩ := h
  refine ⟨rfl, rfl, rfl, by rw [size_grow]; exact Nat.le_add_right _ _, fun k hk => heap_grow_old _ _ hk⟩
theorem Gr.cell {w w' : World} {a : Addr} {v : Value} (h : Gr w w') (hc : w.cell? a = some v) : w'.cell? a = some v := h.keep.cell hc
end Go.Proofs.YtpkpmoiekjhdnaaDoor
