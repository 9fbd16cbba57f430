/-
  The functions of package fault, and the reference's names. Condition: the three listed variables hold their own.
  What was there stays; slices of numbers; bounds. No condition.
  A region that draws its order and whose last operation stores into a cell that the others read: what is held need not hold behind that store. No program.
  A region that draws its order and whose late operations (a list) need not leave what is held: as Ord14, for several late operations, of which those that read no memory may be taken at once. No program.
  As OrdS14: an operation taken first, with one check for all that is asked of the order. No program.
-/
import Derived.Test.YtihjgcibpfajkaaGreatDoorD1
import Derived.WalkKit
import Derived.WalkSpells
import Derived.WalkLawsBesides
import Derived.BigQuiet
import Derived.Deep.QuietTactic
import Derived.Deep.LoopGhost
import Derived.Deep.OwnRows
import Derived.Deep.RegionHeld3
import Derived.Below
import Derived.Lib.Hide
import Derived.WideShapes
import Derived.WalkMore
import Derived.Deep.RegionHeld
namespace Go.Proofs.YtihjgcibpfajkaaGreatDoor
open Go.RowKit Go.Extern.Stop Go.Stop Go.Extern
structure Vars(w:World):Prop where
 err:zaw w
theorem Vars.keep{w w':World}(h:Vars w)(k:Keep w w'):Vars w' where
 err:=h.err.keep k
theorem zmw(c:Int)(ks:List Int)(b:Base)(v:Value)(w:World)(hch:zer w ks b v)(hb:zir c b)(hg:zaw w):
  Calls Tryz.prog 67 #[v] w fun e w'=>e=.returned (.tuple #[.int .i64 c,.bool true])∧Keep w w':=by
 have h:=Lib.hid (zlk c ks b v w hch hb hg);clear hch hb hg
 go_enter Tryz.func67,Tryz.ntmps67
 go_wp2_with (go_at_call 97;refine h.out.mono ?_;rintro e w' ⟨rfl,hr⟩)
 go_ret2
 exact⟨rfl,hr⟩
theorem zmv(w:World):Calls Tryz.prog 67 #[.nilIface] w fun e w'=>e=.returned (.tuple #[.int .i64 0,.bool false])∧Keep w w':=by
 go_enter Tryz.func67,Tryz.ntmps67
 go_wp2_with (go_at_call 97;refine(zlj _).mono ?_;rintro e w' ⟨rfl,hr⟩)
 go_ret2
 exact⟨rfl,hr⟩
theorem zep(x n:Int)(w:World):Calls Tryz.prog 37 #[.int .i64 x,.int .i64 n] w fun e w'=>e=.returned (Base.fault x n).val∧w=w':=by
 go_enter Tryz.func37,Tryz.ntmps37
 go_wp2;go_ret
 exact⟨rfl,rfl⟩
end Go.Proofs.YtihjgcibpfajkaaGreatDoor
namespace Go.Proofs.YtihjgcibpfajkaaGreatDoor
open Go.RowKit Go.Extern.Stop Go.Stop Go.Extern
structure Rd(w:World)(A:Option Addr)(n:Nat)(Z:Nat→Int):Prop where
 small:n≤9223372036854775807
 range:∀ k,k<n→-9223372036854775808≤Z k∧Z k≤9223372036854775807
 adr:0<n→∃ b off,A=some ⟨b,off,none⟩∧∀ j,j<n→w.cell? ⟨b,off+j,none⟩=some (.int .i64 (Z j))
theorem Rd.below{w w':World}{A n Z}(h:Rd w A n Z)(hb:Below w.heap.size w w'):Rd w' A n Z :=
 ⟨h.small,h.range,fun hn=>by
  obtain⟨b,off,e,hc⟩:=h.adr hn
  exact⟨b,off,e,fun j hj=>by rw[hb.cell (p:=⟨b,off+j,none⟩) (World.block_lt_of_cell? _ _ (hc j hj))];exact hc j hj⟩⟩
theorem below_drewN{B:Nat}{a w:World}(h:Below B a w)(q:Nat):Below B a (w.drewN q):=⟨h.os,h.tape,h.output,h.size,h.block⟩
def zau(w w':World):Prop:=∃ q,w'=w.drewN q
theorem zau.refl(w:World):zau w w:=⟨0,rfl⟩
theorem zau.drewN{w w':World}(h:zau w w')(q:Nat):zau w (w'.drewN q):=by
 obtain⟨p,rfl⟩:=h;exact⟨p+q,World.drewN_drewN ..⟩
theorem zau.drew{w w':World}(h:zau w w'):zau w w'.drew:=h.drewN 1
theorem zau.trans{w w' w'':World}(h:zau w w')(k:zau w' w''):zau w w'':=by
 obtain⟨p,rfl⟩:=k;exact h.drewN p
theorem zau.below{w w':World}(h:zau w w'):Below w.heap.size w w':=by
 obtain⟨q,rfl⟩:=h;exact below_drewN (Below.refl _ _) q
theorem Rd.nil(w:World)(A:Option Addr)(Z:Nat→Int):Rd w A 0 Z:=⟨by omega,fun _ h=>absurd h (Nat.not_lt_zero _),fun h=>absurd h (Nat.lt_irrefl _)⟩
theorem Rd.congr{w:World}{A n Z Y}(h:Rd w A n Z)(e:∀ k,k<n→Z k=Y k):Rd w A n Y :=
 ⟨h.small,fun k hk=>by rw[← e k hk];exact h.range k hk,fun hn=>by
  obtain⟨b,off,e',hc⟩:=h.adr hn
  exact⟨b,off,e',fun j hj=>by rw[← e j hj];exact hc j hj⟩⟩
theorem zau.keep{w w':World}(h:zau w w'):Keep w w':=h.below
theorem Rd.keep{w w':World}{A n Z}(h:Rd w A n Z)(hb:Keep w w'):Rd w' A n Z:=h.below hb
theorem Keep.drewN{w w':World}(h:Keep w w')(q:Nat):Keep w (w'.drewN q):=below_drewN h q
end Go.Proofs.YtihjgcibpfajkaaGreatDoor
namespace Go.Proofs.YtihjgcibpfajkaaGreatDoor.OrdM
open Go
section
variable{P:Program}{ops:Array Oper}{Q:Exit→Act→World→Prop}{md:Region.Mode}{S:World→Prop}{z:Nat}
def Rest(P:Program)(md:Region.Mode)(ops:Array Oper)(Q:Exit→Act→World→Prop)(S:World→Prop)(z:Nat):Nat→Array Bool→Act→World→Prop
 | 0=>fun l a w=>Region.ready md ops l=[]∧Q .normal a w
 | n+1=>fun l a w=>(Region.ready md ops l=[]→Q .normal a w)∧∀ i,i∈Region.ready md ops l→wpOp P ops Q i (fun b v=>(i≠z→S v)∧Rest P md ops Q S z n (l.setIfInBounds i true) b v) a w
theorem Rest.any:∀ {n:Nat} {l:Array Bool} {a:Act} {w:World},Rest P md ops Q S z n l a w→wpAny P md ops Q n l a w
 | 0,_,_,_,h=>h
 | _+1,_,_,_,h=>⟨h.1,fun i hi=>wpOp_mono (fun _ _ k=>k.2.any) (h.2 i hi)⟩
theorem rest_start{id:Nat}{a:Act}{w:World}(S:World→Prop)(z:Nat)(hm:P.follows .mixedOrders=true)(hS:S w.drew)(h:S w.drew→Rest P .any ops Q S z ops.size (Array.replicate ops.size false) a w.drew):(Code.region id ops true).wp P Q a w :=
 wp_region_any hm (h hS).any
def waits(md:Region.Mode)(ops:Array Oper)(i:Nat):Nat→Nat→Bool
 | 0,_=>false
 | n+1,j=>match ops[j]? with
   | some o=>o.after.toList.any fun e=>Region.binds md e&&(decide (e.on=i)||waits md ops i n e.on)
   | none=>false
def Closed(md:Region.Mode)(ops:Array Oper)(l:Array Bool):Prop:=∀ j o,ops[j]?=some o→l.getD j false=true→∀ e∈o.after,Region.binds md e=true→l.getD e.on false=true
def closed(md:Region.Mode)(ops:Array Oper)(l:Array Bool):Bool:=(List.range ops.size).all fun j=>match ops[j]? with
 | some o=>!l.getD j false||o.after.toList.all fun e=>!Region.binds md e||l.getD e.on false
 | none=>true
theorem zhy{l:Array Bool}(h:closed md ops l=true):Closed md ops l:=fun j o ho hl e he hb=>by
 unfold closed at h;rw[List.all_eq_true] at h;have h1:=h j (List.mem_range.2 (Array.getElem?_eq_some_iff.1 ho).1);rw[ho] at h1;simp only[hl,Bool.not_true,Bool.false_or,List.all_eq_true] at h1;have h2:=h1 e (by simpa using he)
 rw[hb] at h2
 simpa using h2
theorem Closed.set{l:Array Bool}{j:Nat}{oj:Oper}(h:Closed md ops l)(hj:ops[j]?=some oj)(hall:∀ e∈oj.after,Region.binds md e=true→l.getD e.on false=true):Closed md ops (l.setIfInBounds j true):=fun k ok hk hl e he hb=>by
 refine getD_set_true ?_
 by_cases ek:j=k
 ·subst ek
  rw[hj] at hk;obtain rfl:=Option.some.inj hk;exact hall e he hb
 ·rw[getD_set_ne false ek] at hl
  exact h k ok hk hl e he hb
theorem zhg{i:Nat}{l:Array Bool}(hc:Closed md ops l):∀ (n j:Nat) (o:Oper),ops[j]?=some o→(∀ e∈o.after,Region.binds md e=true→l.getD e.on false=true)→waits md ops i n j=true→l.getD i false=true
 | 0,_,_,_,_,h=>by cases h
 | n+1,j,o,ho,hall,h=>by
   unfold waits at h;rw[ho] at h;simp only[List.any_eq_true,Bool.and_eq_true,Bool.or_eq_true,decide_eq_true_eq] at h;obtain⟨t,ht,hb,he | he⟩:=h
   ·rw[← he]
    exact hall _ (by simpa using ht) hb
   ·have hl:=hall _ (by simpa using ht) hb
    cases ho2:ops[t.on]? with
    | none =>
      cases n with
      | zero=>cases he
      | succ n=>unfold waits at he;rw[ho2] at he;cases he
    | some o2=>exact zhg hc n _ o2 ho2 (hc _ o2 ho2 hl) he
theorem zkv{i n:Nat}{l:Array Bool}(hc:Closed md ops l)(h:waits md ops i n z=true)(hi:i∈Region.ready md ops l):z∉Region.ready md ops l:=fun hz=>by
 obtain⟨_,o,ho,hall⟩:=mem_ready.1 hz;have h1:=zhg hc n z o ho hall h;have h0:=(mem_ready.1 hi).1
 by_cases hs:i<l.size
 ·simp[hs] at h0 h1
  rw[h0] at h1;cases h1
 ·simp[Array.getElem?_eq_none (Nat.le_of_not_lt hs)] at h1
theorem zpf{i:Nat}{o:Oper}{l:Array Bool}(hi:i∈Region.ready md ops l)(hall:∀ e∈o.after,Region.binds md e=true→l.getD e.on false=true):∀ e∈o.after,Region.binds md e=true→e.on≠i:=fun e he hb heq=>by
 have h1:=hall e he hb;have h0:=(mem_ready.1 hi).1;rw[heq] at h1
 by_cases hs:i<l.size
 ·simp[hs] at h0 h1
  rw[h0] at h1;cases h1
 ·simp[Array.getElem?_eq_none (Nat.le_of_not_lt hs)] at h1
def Apart(md:Region.Mode)(ops:Array Oper)(l:Array Bool)(i:Nat)(oi:Oper):Prop:=∀ j oj,ops[j]?=some oj→j≠i→l.getD j true=false→(∀ e∈oj.after,Region.binds md e=true→e.on≠i)→oi.apart ops oj=true
theorem Apart.set{l:Array Bool}{i j:Nat}{oi:Oper}(h:Apart md ops l i oi)(hj:l.getD j true=false):Apart md ops (l.setIfInBounds j true) i oi:=fun k ok hk hne hun hno=>by
 refine h k ok hk hne ?_ hno
 by_cases e:j=k
 ·rw[← e];exact hj
 ·rwa [getD_set_ne true e] at hun
theorem zgg{i m:Nat}{oi:Oper}{v:Value}(hi:ops[i]?=some oi)(hsel:∀ (j:Nat) (o:Oper) cs b,ops[j]?=some o→o.op≠.select cs b)(hQ:∀ c a w,Q (.panic c) (a.put oi.dst v) w→Q (.panic c) a w)(hz:waits md ops i m z=true):
  ∀ (n:Nat) (l:Array Bool) (a:Act) (w:World),Closed md ops l→Apart md ops l i oi→i∈Region.ready md ops l→YieldsIf P ops S oi v a→S w→Rest P md ops Q S z n (l.setIfInBounds i true) (a.put oi.dst v) w→Rest P md ops Q S z (n+1) l a w:=by
 intro n
 induction n with
 | zero =>
   intro l a w _ _ hr hy hS H;refine⟨fun h=>absurd (h▸hr) (by simp),fun j hj=>?_⟩
   by_cases e:j=i
   ·rw[e]
    exact hy.wpOp hi hS ⟨fun _=>hS,H⟩
   ·exact absurd (H.1▸ready_mono hj e) (by simp)
 | succ n ih =>
   intro l a w hc hap hr hy hS H;refine⟨fun h=>absurd (h▸hr) (by simp),fun j hj=>?_⟩
   by_cases e:j=i
   ·rw[e]
    exact hy.wpOp hi hS ⟨fun _=>hS,H⟩
   ·have hjz:j≠z:=fun ez=>zkv hc hz hr (ez▸hj)
    obtain⟨hun,oj,hoj,hall⟩:=mem_ready.1 hj;have h2:=wpOp_putIf hoj (hap j oj hoj e hun (zpf hr hall)) (fun cs b=>hsel i oi cs b hi) (fun cs b=>hsel j oj cs b hoj) hQ hy (H.2 j (ready_mono hj e))
    refine wpOp_mono (fun b u h3=>?_) h2
    refine⟨h3.2.1,ih _ b u (hc.set hoj hall) (hap.set hun) (ready_mono hr fun x=>e x.symm) h3.1 (h3.2.1 hjz) ?_⟩
    rw[Array.setIfInBounds_comm _ _ e];exact h3.2.2
theorem rest_take{i:Nat}{oi:Oper}{v:Value}{n:Nat}{l:Array Bool}{a:Act}{w:World}(hi:ops[i]?=some oi)(hs:Region.noSelect ops=true)(hf:Region.free md ops l i=true)(hr:(Region.ready md ops l).contains i=true)(hz:waits md ops i ops.size z=true)(hc:closed md ops l=true)
  (hQ:∀ c a w,Q (.panic c) (a.put oi.dst v) w→Q (.panic c) a w) (hy:YieldsIf P ops S oi v a) (hS:S w)
  (h:Rest P md ops Q S z n (l.setIfInBounds i true) (a.put oi.dst v) w):Rest P md ops Q S z (n+1) l a w :=
 zgg hi (Region.noSelect_spec hs) hQ hz n l a w (zhy hc) (Region.free_spec hi hf) (by simpa using hr) hy hS h
def Each(P:Program)(md:Region.Mode)(ops:Array Oper)(Q:Exit→Act→World→Prop)(S:World→Prop)(z:Nat)(n:Nat)(l:Array Bool)(a:Act)(w:World)(rs:List Nat):Prop :=
 ∀ i,i∈rs→wpOp P ops Q i (fun b v=>(i≠z→S v)∧Rest P md ops Q S z n (l.setIfInBounds i true) b v) a w
theorem Each.nil{n:Nat}{l:Array Bool}{a:Act}{w:World}:Each P md ops Q S z n l a w []:=fun _ h=>by cases h
theorem Each.cons{n:Nat}{l:Array Bool}{a:Act}{w:World}{i:Nat}{o:Oper}{rs:List Nat}(ho:ops[i]?=some o)
  (h:∀ K:Act→World→Prop,Shut (∀ b v,(i≠z→S v)→Rest P md ops Q S z n (l.setIfInBounds i true) b v→K b v)→if Region.wanted o (yielded ops a.tmps)=true then Oper.wp P o a w K Q else K (a.put o.dst undef) w)
  (hs:Each P md ops Q S z n l a w rs):Each P md ops Q S z n l a w (i :: rs):=fun j hj=>by
 rcases List.mem_cons.1 hj with e | hj
 ·rw[e]
  exact wpOp_step ho fun K hK=>h K fun b v h1 h2=>hK b v ⟨h1,h2⟩
 ·exact hs j hj
theorem rest_ready{rs:List Nat}{n:Nat}{l:Array Bool}{a:Act}{w:World}(hr:Region.ready md ops l=rs)(hne:rs≠[])(h:Each P md ops Q S z n l a w rs):Rest P md ops Q S z (n+1) l a w :=
 ⟨fun h0=>absurd (hr.symm.trans h0) hne,fun i hi=>h i (hr▸hi)⟩
theorem rest_done{l:Array Bool}{a:Act}{w:World}(hr:Region.ready md ops l=[])(h:Q .normal a w):∀ n,Rest P md ops Q S z n l a w
 | 0=>⟨hr,h⟩
 | _+1=>⟨fun _=>h,fun i hi=>absurd (hr▸hi) (by simp)⟩
end
end Go.Proofs.YtihjgcibpfajkaaGreatDoor.OrdM
namespace Go.Proofs.YtihjgcibpfajkaaGreatDoor.OrdS
open Go OrdM
section
variable{P:Program}{ops:Array Oper}{Q:Exit→Act→World→Prop}{md:Region.Mode}{S:World→Prop}{zs:List Nat}
def Rest(P:Program)(md:Region.Mode)(ops:Array Oper)(Q:Exit→Act→World→Prop)(S:World→Prop)(zs:List Nat):Nat→Array Bool→Act→World→Prop
 | 0=>fun l a w=>Region.ready md ops l=[]∧Q .normal a w
 | n+1=>fun l a w=>(Region.ready md ops l=[]→Q .normal a w)∧∀ i,i∈Region.ready md ops l→wpOp P ops Q i (fun b v=>(i∉zs→S v)∧Rest P md ops Q S zs n (l.setIfInBounds i true) b v) a w
theorem Rest.any:∀ {n:Nat} {l:Array Bool} {a:Act} {w:World},Rest P md ops Q S zs n l a w→wpAny P md ops Q n l a w
 | 0,_,_,_,h=>h
 | _+1,_,_,_,h=>⟨h.1,fun i hi=>wpOp_mono (fun _ _ k=>k.2.any) (h.2 i hi)⟩
theorem rest_start{id:Nat}{a:Act}{w:World}(S:World→Prop)(zs:List Nat)(hm:P.follows .mixedOrders=true)(hS:S w.drew)(h:S w.drew→Rest P .any ops Q S zs ops.size (Array.replicate ops.size false) a w.drew):(Code.region id ops true).wp P Q a w :=
 wp_region_any hm (h hS).any
theorem zgg{i m:Nat}{oi:Oper}{v:Value}(hi:ops[i]?=some oi)(hsel:∀ (j:Nat) (o:Oper) cs b,ops[j]?=some o→o.op≠.select cs b)(hQ:∀ c a w,Q (.panic c) (a.put oi.dst v) w→Q (.panic c) a w)(hz:∀ z,z∈zs→waits md ops i m z=true):
  ∀ (n:Nat) (l:Array Bool) (a:Act) (w:World),Closed md ops l→Apart md ops l i oi→i∈Region.ready md ops l→YieldsIf P ops S oi v a→S w→Rest P md ops Q S zs n (l.setIfInBounds i true) (a.put oi.dst v) w→Rest P md ops Q S zs (n+1) l a w:=by
 intro n
 induction n with
 | zero =>
   intro l a w _ _ hr hy hS H;refine⟨fun h=>absurd (h▸hr) (by simp),fun j hj=>?_⟩
   by_cases e:j=i
   ·rw[e]
    exact hy.wpOp hi hS ⟨fun _=>hS,H⟩
   ·exact absurd (H.1▸ready_mono hj e) (by simp)
 | succ n ih =>
   intro l a w hc hap hr hy hS H;refine⟨fun h=>absurd (h▸hr) (by simp),fun j hj=>?_⟩
   by_cases e:j=i
   ·rw[e]
    exact hy.wpOp hi hS ⟨fun _=>hS,H⟩
   ·have hjz:j∉zs:=fun ez=>zkv hc (hz j ez) hr hj
    obtain⟨hun,oj,hoj,hall⟩:=mem_ready.1 hj;have h2:=wpOp_putIf hoj (hap j oj hoj e hun (zpf hr hall)) (fun cs b=>hsel i oi cs b hi) (fun cs b=>hsel j oj cs b hoj) hQ hy (H.2 j (ready_mono hj e))
    refine wpOp_mono (fun b u h3=>?_) h2
    refine⟨h3.2.1,ih _ b u (hc.set hoj hall) (hap.set hun) (ready_mono hr fun x=>e x.symm) h3.1 (h3.2.1 hjz) ?_⟩
    rw[Array.setIfInBounds_comm _ _ e];exact h3.2.2
theorem znv{i:Nat}{oi:Oper}{v:Value}(hi:ops[i]?=some oi)(hsel:∀ (j:Nat) (o:Oper) cs b,ops[j]?=some o→o.op≠.select cs b)(hQ:∀ c a w,Q (.panic c) (a.put oi.dst v) w→Q (.panic c) a w)(hz:i∈zs):
  ∀ (n:Nat) (l:Array Bool) (a:Act) (w:World),Apart md ops l i oi→i∈Region.ready md ops l→YieldsIf P ops (fun _=>True) oi v a→Rest P md ops Q S zs n (l.setIfInBounds i true) (a.put oi.dst v) w→Rest P md ops Q S zs (n+1) l a w:=by
 intro n
 induction n with
 | zero =>
   intro l a w _ hr hy H;refine⟨fun h=>absurd (h▸hr) (by simp),fun j hj=>?_⟩
   by_cases e:j=i
   ·rw[e]
    exact hy.wpOp hi trivial ⟨fun hn=>absurd hz hn,H⟩
   ·exact absurd (H.1▸ready_mono hj e) (by simp)
 | succ n ih =>
   intro l a w hap hr hy H;refine⟨fun h=>absurd (h▸hr) (by simp),fun j hj=>?_⟩
   by_cases e:j=i
   ·rw[e]
    exact hy.wpOp hi trivial ⟨fun hn=>absurd hz hn,H⟩
   ·obtain⟨hun,oj,hoj,hall⟩:=mem_ready.1 hj
    have h2:=wpOp_putIf hoj (hap j oj hoj e hun (zpf hr hall)) (fun cs b=>hsel i oi cs b hi) (fun cs b=>hsel j oj cs b hoj) hQ hy (H.2 j (ready_mono hj e))
    refine wpOp_mono (fun b u h3=>?_) h2
    refine⟨h3.2.1,ih _ b u (hap.set hun) (ready_mono hr fun x=>e x.symm) h3.1 ?_⟩
    rw[Array.setIfInBounds_comm _ _ e];exact h3.2.2
theorem rest_take{i:Nat}{oi:Oper}{v:Value}{n:Nat}{l:Array Bool}{a:Act}{w:World}(hi:ops[i]?=some oi)(hs:Region.noSelect ops=true)(hf:Region.free md ops l i=true)(hr:(Region.ready md ops l).contains i=true)(hz:(zs.all fun z=>waits md ops i ops.size z)=true)(hc:closed md ops l=true)
  (hQ:∀ c a w,Q (.panic c) (a.put oi.dst v) w→Q (.panic c) a w) (hy:YieldsIf P ops S oi v a) (hS:S w)
  (h:Rest P md ops Q S zs n (l.setIfInBounds i true) (a.put oi.dst v) w):Rest P md ops Q S zs (n+1) l a w :=
 zgg hi (Region.noSelect_spec hs) hQ (fun z hzs=>List.all_eq_true.1 hz z hzs) n l a w (zhy hc) (Region.free_spec hi hf) (by simpa using hr) hy hS h
theorem rest_takeP{i:Nat}{oi:Oper}{v:Value}{n:Nat}{l:Array Bool}{a:Act}{w:World}(hi:ops[i]?=some oi)(hs:Region.noSelect ops=true)(hf:Region.free md ops l i=true)(hr:(Region.ready md ops l).contains i=true)(hz:zs.contains i=true)
  (hQ:∀ c a w,Q (.panic c) (a.put oi.dst v) w→Q (.panic c) a w) (hy:YieldsIf P ops (fun _=>True) oi v a)
  (h:Rest P md ops Q S zs n (l.setIfInBounds i true) (a.put oi.dst v) w):Rest P md ops Q S zs (n+1) l a w :=
 znv hi (Region.noSelect_spec hs) hQ (by simpa using hz) n l a w (Region.free_spec hi hf) (by simpa using hr) hy h
def Each(P:Program)(md:Region.Mode)(ops:Array Oper)(Q:Exit→Act→World→Prop)(S:World→Prop)(zs:List Nat)(n:Nat)(l:Array Bool)(a:Act)(w:World)(rs:List Nat):Prop :=
 ∀ i,i∈rs→wpOp P ops Q i (fun b v=>(i∉zs→S v)∧Rest P md ops Q S zs n (l.setIfInBounds i true) b v) a w
theorem Each.nil{n:Nat}{l:Array Bool}{a:Act}{w:World}:Each P md ops Q S zs n l a w []:=fun _ h=>by cases h
theorem Each.cons{n:Nat}{l:Array Bool}{a:Act}{w:World}{i:Nat}{o:Oper}{rs:List Nat}(ho:ops[i]?=some o)
  (h:∀ K:Act→World→Prop,Shut (∀ b v,(i∉zs→S v)→Rest P md ops Q S zs n (l.setIfInBounds i true) b v→K b v)→if Region.wanted o (yielded ops a.tmps)=true then Oper.wp P o a w K Q else K (a.put o.dst undef) w)
  (hs:Each P md ops Q S zs n l a w rs):Each P md ops Q S zs n l a w (i :: rs):=fun j hj=>by
 rcases List.mem_cons.1 hj with e | hj
 ·rw[e]
  exact wpOp_step ho fun K hK=>h K fun b v h1 h2=>hK b v ⟨h1,h2⟩
 ·exact hs j hj
theorem rest_ready{rs:List Nat}{n:Nat}{l:Array Bool}{a:Act}{w:World}(hr:Region.ready md ops l=rs)(hne:rs≠[])(h:Each P md ops Q S zs n l a w rs):Rest P md ops Q S zs (n+1) l a w :=
 ⟨fun h0=>absurd (hr.symm.trans h0) hne,fun i hi=>h i (hr▸hi)⟩
theorem rest_done{l:Array Bool}{a:Act}{w:World}(hr:Region.ready md ops l=[])(h:Q .normal a w):∀ n,Rest P md ops Q S zs n l a w
 | 0=>⟨hr,h⟩
 | _+1=>⟨fun _=>h,fun i hi=>absurd (hr▸hi) (by simp)⟩
end
end Go.Proofs.YtihjgcibpfajkaaGreatDoor.OrdS
namespace Go.Proofs.YtihjgcibpfajkaaGreatDoor.OrdS
open Go OrdM
section
variable{P:Program}{ops:Array Oper}{Q:Exit→Act→World→Prop}{md:Region.Mode}{S:World→Prop}{zs:List Nat}
def okT(md:Region.Mode)(ops:Array Oper)(l:Array Bool)(i:Nat)(zs:List Nat):Bool :=
 Region.noSelect ops&&Region.free md ops l i&&(Region.ready md ops l).contains i&&(zs.all fun z=>waits md ops i ops.size z)&&closed md ops l
theorem tk{i:Nat}{oi:Oper}{v:Value}{n:Nat}{l:Array Bool}{a:Act}{w:World}(hi:ops[i]?=some oi)(hb:okT md ops l i zs=true)
  (hQ:∀ c a w,Q (.panic c) (a.put oi.dst v) w→Q (.panic c) a w) (hw:Region.wanted oi (yielded ops a.tmps)=true) (hy:∀ w,S w→(execOp a.eval oi).run P w=.ok (.value v) w) (hS:S w)
  (h:Rest P md ops Q S zs n (l.setIfInBounds i true) (a.put oi.dst v) w):Rest P md ops Q S zs (n+1) l a w:=by
 unfold okT at hb;simp only[Bool.and_eq_true] at hb;exact rest_take hi hb.1.1.1.1 hb.1.1.1.2 hb.1.1.2 hb.1.2 hb.2 hQ (Or.inl ⟨hw,hy⟩) hS h
end
end Go.Proofs.YtihjgcibpfajkaaGreatDoor.OrdS
