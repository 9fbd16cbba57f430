/-
  Helpers: hidden facts, names for values, lists and arrays, operations taken first. No program.
-/
import Derived.OrdersHeld
import Derived.Lib.Hide
import Derived.Test.YtcogiogjpbkeaaaGreatDoorProg
namespace Go.Proofs.YtcogiogjpbkeaaaGreatDoor
open Go Go.RowKit
theorem Zq {p:Prop}(h:p):Hid p:=h
theorem Zn {α:Sort _}(a:α):∃ x,x=a:=⟨a,rfl⟩
theorem Zp {α:Type}:(∀(l:List α)(i:Nat)(h:i<l.toArray.size),l.toArray[i]'h=l[i]'(by simpa using h))∧(∀(a:α)(l:List α)(i:Nat)(h:i+1<(a::l).length),(a::l)[i+1]'h=l[i]'(Nat.lt_of_succ_lt_succ h))∧(∀(a:α)(l:List α)(h:0<(a::l).length),(a::l)[0]'h=a)∧(∀(l:List α)(i:Nat)(a:α),l.toArray.setIfInBounds i a=(l.set i a).toArray)∧(∀(a b:α)(l:List α),(a::l).set 0 b=b::l)∧(∀(a b:α)(l:List α)(i:Nat),(a::l).set (i+1) b=a::l.set i b):=⟨fun _ _ _=>List.getElem_toArray _,fun _ _ _ _=>rfl,fun _ _ _=>rfl,fun _ _ _=>List.setIfInBounds_toArray _ _ _,fun _ _ _=>rfl,fun _ _ _ _=>rfl⟩
section
variable {P:Program}{md:Region.Mode}{ops:Array Oper}{Q:Exit → Act → World → Prop}{S:World → Prop}
theorem Zt (i:Nat)(v:Value){oi:Oper}{n:Nat}{l:Array Bool}{a:Act}{w:World}(hS:S w)(h:wpAnyH P md ops Q S n (l.setIfInBounds i true) (a.put oi.dst v) w)(hi:ops[i]?=some oi:=by rfl)(hs:Region.noSelect ops=true:=by kernel_rfl)(hf:Region.free md ops l i=true:=by kernel_rfl)(hr:(Region.ready md ops l).contains i=true:=by kernel_rfl)(hw:Region.wanted oi (yielded ops a.tmps)=true:=by rfl)(hy:∀ w,S w → (execOp a.eval oi).run P w=.ok (.value v) w:=by intros;go_simp)(hQ:∀ c a w,Q (.panic c) (a.put oi.dst v) w → Q (.panic c) a w:=by exact fun _ _ _ h=>h):wpAnyH P md ops Q S (n+1) l a w:=wpAnyH_take hi hs hf hr hQ (Or.inl ⟨hw,hy⟩) hS h
end
end Go.Proofs.YtcogiogjpbkeaaaGreatDoor
