/-
  Pods as values. No condition.
-/
import Derived.Test.YtmbeghngnnpmlaaDoorGr11
namespace Go.Proofs.YtmbeghngnnpmlaaDoor.T11
open Go.RowKit Go.Sort

/-- A pod's fields: its ID, priority, preemption, grace, request (address, length, capacity, amounts), arrival, phase, node, deadline. -/
structure PodV where
  k : Int
  p : Int
  f : Bool
  g : Int
  A : Option Addr
  m : Nat
  c : Nat
  Z : Nat → Int
  a : Int
  h : Int
  d : Int
  t : Int
namespace PodV
def cells (x : PodV) : List Value := [.int .i64 x.k, .int .i64 x.p, .bool x.f, .int .i64 x.g, .slice x.A x.m x.c, .int .i64 x.a, .int .i64 x.h, .int .i64 x.d, .int .i64 x.t]
def val (x : PodV) : Value := .agg #[.int .i64 x.k, .int .i64 x.p, .bool x.f, .int .i64 x.g, .slice x.A x.m x.c, .int .i64 x.a, .int .i64 x.h, .int .i64 x.d, .int .i64 x.t]
end PodV
/-- It reads so. -/
structure PodIs (w : World) (x : PodV) : Prop where
  rd : Rd w x.A x.m x.Z
  nil : x.A = none → x.m = 0 ∧ x.c = 0
  rng : I64 x.k ∧ I64 x.p ∧ I64 x.g ∧ I64 x.a ∧ I64 x.h ∧ I64 x.d ∧ I64 x.t
theorem PodIs.keep {w w' : World} {x : PodV} (h : PodIs w x) (k : Keep w w') : PodIs w' x := ⟨h.rd.keep k, h.nil, h.rng⟩

/-- The nine cells of a variable that holds the pod. -/
structure Cel9 (w : World) (b o : Nat) (x : PodV) : Prop where
  e0 : w.cell? ⟨b, o, none⟩ = some (.int .i64 x.k)
  e1 : w.cell? ⟨b, o + 1, none⟩ = some (.int .i64 x.p)
  e2 : w.cell? ⟨b, o + 2, none⟩ = some (.bool x.f)
  e3 : w.cell? ⟨b, o + 3, none⟩ = some (.int .i64 x.g)
  e4 : w.cell? ⟨b, o + 4, none⟩ = some (.slice x.A x.m x.c)
  e5 : w.cell? ⟨b, o + 5, none⟩ = some (.int .i64 x.a)
  e6 : w.cell? ⟨b, o + 6, none⟩ = some (.int .i64 x.h)
  e7 : w.cell? ⟨b, o + 7, none⟩ = some (.int .i64 x.d)
  e8 : w.cell? ⟨b, o + 8, none⟩ = some (.int .i64 x.t)
theorem Cel9.keep {w w' : World} {b o : Nat} {x : PodV} (h : Cel9 w b o x) (k : Keep w w') : Cel9 w' b o x :=
  ⟨k.cell h.e0, k.cell h.e1, k.cell h.e2, k.cell h.e3, k.cell h.e4, k.cell h.e5, k.cell h.e6, k.cell h.e7, k.cell h.e8⟩
theorem Cel9.new (w : World) (x : PodV) (T : TypeId) (cs : Array Value) (h : cs = #[.int .i64 x.k, .int .i64 x.p, .bool x.f, .int .i64 x.g, .slice x.A x.m x.c, .int .i64 x.a, .int .i64 x.h, .int .i64 x.d, .int .i64 x.t]) : Cel9 (w.alloc (.cells cs T)) w.heap.size 0 x := by
  subst h
  constructor <;> simp [World.cell?_alloc_new]

end Go.Proofs.YtmbeghngnnpmlaaDoor.T11
