/-
  The functions of package fault, and the reference's names. Condition: the three listed variables hold their own.
  What was there stays; slices of numbers; bounds. No condition.
-/
import Derived.Test.YtinndaolcaehiaaGreatDoorD1
import Derived.WalkKit
import Derived.WalkSpells
import Derived.WalkLawsBesides
import Derived.BigQuiet
import Derived.Deep.QuietTactic
import Derived.Deep.LoopGhost
import Derived.Deep.OwnRows
import Derived.Deep.RegionHeld3
import Derived.Below
import Derived.Lib.Hide
import Derived.WideShapes
import Derived.WalkMore
namespace Go.Proofs.YtinndaolcaehiaaGreatDoor
open Go.RowKit Go.Extern.Stop Go.Stop Go.Extern
structure Vars (w:World):Prop where
  err:ErrT w
theorem Vars.keep {w w':World} (h:Vars w) (k:Keep w w'):Vars w' where
  err:=h.err.keep k
theorem code_yes (c:Int) (ks:List Int) (b:Base) (v:Value) (w:World) (hch:Chain w ks b v) (hb:hasCode c b) (hg:ErrT w) :
    Calls Tryz.prog 69 #[v] w fun e w'=>e = .returned (.tuple #[.int .i64 c,.bool true])∧Keep w w':=by
  have h:=Lib.hid (findCode_yes c ks b v w hch hb hg)
  clear hch hb hg
  go_enter Tryz.func69,Tryz.ntmps69
  go_wp2_with (go_at_call 94;refine h.out.mono ?_;rintro e w' ⟨rfl,hr⟩)
  go_ret2
  exact ⟨rfl,hr⟩
theorem code_nil (w:World):Calls Tryz.prog 69 #[.nilIface] w fun e w'=>e = .returned (.tuple #[.int .i64 0,.bool false])∧Keep w w':=by
  go_enter Tryz.func69,Tryz.ntmps69
  go_wp2_with (go_at_call 94;refine (findCode_nil _).mono ?_;rintro e w' ⟨rfl,hr⟩)
  go_ret2
  exact ⟨rfl,hr⟩
theorem new_fn (x n:Int) (w:World):Calls Tryz.prog 30 #[.int .i64 x,.int .i64 n] w fun e w'=>e = .returned (Base.fault x n).val∧w = w':=by
  go_enter Tryz.func30,Tryz.ntmps30
  go_wp2
  go_ret
  exact ⟨rfl,rfl⟩
end Go.Proofs.YtinndaolcaehiaaGreatDoor

namespace Go.Proofs.YtinndaolcaehiaaGreatDoor
open Go.RowKit Go.Extern.Stop Go.Stop Go.Extern
structure Rd (w:World) (A:Option Addr) (n:Nat) (Z:Nat→Int):Prop where
  small:n≤9223372036854775807
  range:∀ k,k < n→-9223372036854775808≤Z k∧Z k≤9223372036854775807
  adr:0 < n→∃ b off,A = some ⟨b,off,none⟩∧∀ j,j < n→w.cell? ⟨b,off + j,none⟩ = some (.int .i64 (Z j))
theorem Rd.below {w w':World} {A n Z} (h:Rd w A n Z) (hb:Below w.heap.size w w'):Rd w' A n Z :=
  ⟨h.small,h.range,fun hn=>by
    obtain ⟨b,off,e,hc⟩:=h.adr hn
    exact ⟨b,off,e,fun j hj=>by rw [hb.cell (p:=⟨b,off + j,none⟩) (World.block_lt_of_cell? _ _ (hc j hj))];exact hc j hj⟩⟩
theorem below_drewN {B:Nat} {a w:World} (h:Below B a w) (q:Nat):Below B a (w.drewN q):=⟨h.os,h.tape,h.output,h.size,h.block⟩
def Drawn (w w':World):Prop:=∃ q,w' = w.drewN q
theorem Drawn.refl (w:World):Drawn w w:=⟨0,rfl⟩
theorem Drawn.drewN {w w':World} (h:Drawn w w') (q:Nat):Drawn w (w'.drewN q):=by
  obtain ⟨p,rfl⟩:=h
  exact ⟨p + q,World.drewN_drewN ..⟩
theorem Drawn.drew {w w':World} (h:Drawn w w'):Drawn w w'.drew:=h.drewN 1
theorem Drawn.trans {w w' w'':World} (h:Drawn w w') (k:Drawn w' w''):Drawn w w'':=by
  obtain ⟨p,rfl⟩:=k
  exact h.drewN p
theorem Drawn.below {w w':World} (h:Drawn w w'):Below w.heap.size w w':=by
  obtain ⟨q,rfl⟩:=h
  exact below_drewN (Below.refl _ _) q
theorem Rd.nil (w:World) (A:Option Addr) (Z:Nat→Int):Rd w A 0 Z:=⟨by omega,fun _ h=>absurd h (Nat.not_lt_zero _),fun h=>absurd h (Nat.lt_irrefl _)⟩
theorem Rd.congr {w:World} {A n Z Y} (h:Rd w A n Z) (e:∀ k,k < n→Z k = Y k):Rd w A n Y :=
  ⟨h.small,fun k hk=>by rw [← e k hk];exact h.range k hk,fun hn=>by
    obtain ⟨b,off,e',hc⟩:=h.adr hn
    exact ⟨b,off,e',fun j hj=>by rw [← e j hj];exact hc j hj⟩⟩
theorem Drawn.keep {w w':World} (h:Drawn w w'):Keep w w':=h.below
theorem Rd.keep {w w':World} {A n Z} (h:Rd w A n Z) (hb:Keep w w'):Rd w' A n Z:=h.below hb
theorem Keep.drewN {w w':World} (h:Keep w w') (q:Nat):Keep w (w'.drewN q):=below_drewN h q
end Go.Proofs.YtinndaolcaehiaaGreatDoor

