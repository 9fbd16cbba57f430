/-
  The functions of package fault, and the reference's names. Condition: the three listed variables hold their own.
  What was there stays; slices of numbers; bounds. No condition.
-/
import Derived.Test.YtcogiogjpbkeaaaGreatDoorJ0
import Derived.Test.YtcogiogjpbkeaaaGreatDoorJ1
import Derived.Deep.RegionHeld3
import Derived.WideShapes
import Derived.WalkMore
namespace Go.Proofs.YtcogiogjpbkeaaaGreatDoor
open Go.RowKit Go.Extern.Stop Go.Stop Go.Extern
structure Vars(w:World):Prop where
 err:zbk w
theorem Vars.keep{w w':World}(h:Vars w)(k:Keep w w'):Vars w' where
 err:=h.err.keep k
theorem zrp(c:Int)(ks:List Int)(b:Base)(v:Value)(w:World)(hch:zgf w ks b v)(hb:zlw c b)(hg:zbk w):
  Calls Tryz.prog 97 #[v] w fun e w'=>e=.returned (.tuple #[.int .i64 c,.bool true])/\Keep w w':=by
 have h:=Zq (zqa c ks b v w hch hb hg);clear hch hb hg
 go_enter Tryz.func97,Tryz.ntmps97
 go_wp2_with (go_at_call 132;refine h.out.mono ?_;rintro e w' ⟨rfl,hr⟩)
 go_ret2
 exact⟨rfl,hr⟩
theorem zro(w:World):Calls Tryz.prog 97 #[.nilIface] w fun e w'=>e=.returned (.tuple #[.int .i64 0,.bool false])/\Keep w w':=by
 go_enter Tryz.func97,Tryz.ntmps97
 go_wp2_with (go_at_call 132;refine(zpz _).mono ?_;rintro e w' ⟨rfl,hr⟩)
 go_ret2
 exact⟨rfl,hr⟩
theorem zgd(x n:Int)(w:World):Calls Tryz.prog 57 #[.int .i64 x,.int .i64 n] w fun e w'=>e=.returned (Base.fault x n).val/\w=w':=by
 go_enter Tryz.func57,Tryz.ntmps57
 go_wp2;go_ret
 exact⟨rfl,rfl⟩
end Go.Proofs.YtcogiogjpbkeaaaGreatDoor
namespace Go.Proofs.YtcogiogjpbkeaaaGreatDoor
open Go.RowKit Go.Extern.Stop Go.Stop Go.Extern
structure Rd(w:World)(A:Option Addr)(n:Nat)(Z:Nat->Int):Prop where
 small:n<=9223372036854775807
 range:∀ k,k<n->-9223372036854775808<=Z k/\Z k<=9223372036854775807
 adr:0<n->∃ b off,A=some ⟨b,off,none⟩/\∀ j,j<n->w.cell? ⟨b,off+j,none⟩=some (.int .i64 (Z j))
theorem Rd.below{w w':World}{A n Z}(h:Rd w A n Z)(hb:Below w.heap.size w w'):Rd w' A n Z :=
 ⟨h.small,h.range,fun hn=>by
  obtain⟨b,off,e,hc⟩:=h.adr hn
  exact⟨b,off,e,fun j hj=>by rw[hb.cell (p:=⟨b,off+j,none⟩) (World.block_lt_of_cell? _ _ (hc j hj))];exact hc j hj⟩⟩
theorem below_drewN{B:Nat}{a w:World}(h:Below B a w)(q:Nat):Below B a (w.drewN q):=⟨h.os,h.tape,h.output,h.size,h.block⟩
def zbb(w w':World):Prop:=∃ q,w'=w.drewN q
theorem zbb.refl(w:World):zbb w w:=⟨0,rfl⟩
theorem zbb.drewN{w w':World}(h:zbb w w')(q:Nat):zbb w (w'.drewN q):=by
 obtain⟨p,rfl⟩:=h;exact⟨p+q,World.drewN_drewN ..⟩
theorem zbb.drew{w w':World}(h:zbb w w'):zbb w w'.drew:=h.drewN 1
theorem zbb.trans{w w' w'':World}(h:zbb w w')(k:zbb w' w''):zbb w w'':=by
 obtain⟨p,rfl⟩:=k;exact h.drewN p
theorem zbb.below{w w':World}(h:zbb w w'):Below w.heap.size w w':=by
 obtain⟨q,rfl⟩:=h;exact below_drewN (Below.refl _ _) q
theorem Rd.nil(w:World)(A:Option Addr)(Z:Nat->Int):Rd w A 0 Z:=⟨by omega,fun _ h=>absurd h (Nat.not_lt_zero _),fun h=>absurd h (Nat.lt_irrefl _)⟩
theorem Rd.congr{w:World}{A n Z Y}(h:Rd w A n Z)(e:∀ k,k<n->Z k=Y k):Rd w A n Y :=
 ⟨h.small,fun k hk=>by rw[<- e k hk];exact h.range k hk,fun hn=>by
  obtain⟨b,off,e',hc⟩:=h.adr hn
  exact⟨b,off,e',fun j hj=>by rw[<- e j hj];exact hc j hj⟩⟩
theorem zbb.keep{w w':World}(h:zbb w w'):Keep w w':=h.below
theorem Rd.keep{w w':World}{A n Z}(h:Rd w A n Z)(hb:Keep w w'):Rd w' A n Z:=h.below hb
theorem Keep.drewN{w w':World}(h:Keep w w')(q:Nat):Keep w (w'.drewN q):=below_drewN h q
end Go.Proofs.YtcogiogjpbkeaaaGreatDoor
