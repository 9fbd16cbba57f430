/-
  The store's memory: its struct, its table with its map, its entries. No condition.
  maps.Keys and its iterator, over a map as a list of pairs. No condition.
  The ids of a table, in ascending order. No condition.
  The store: New, Dims, IDs, find, located. Condition for the last: errors.errorType holds its own.
  The store: hold, release, change. Conditions: errors.errorType holds its own; at most 1000 amounts, 64 dimensions.
  The store: Get, Used, Free. Conditions: at most 64 dimensions.
-/
import Derived.Test.YtcogiogjpbkeaaaGreatDoorJ0
import Derived.Test.YtcogiogjpbkeaaaGreatDoorJ22
import Derived.Test.YtcogiogjpbkeaaaGreatDoorJ23
import Derived.RangeFuncNested
import Derived.RangeFuncBound
import Derived.RangeFuncCalls
import Derived.RangeFuncLeaves
import Derived.Shelf.Abstract
import Derived.Shelf.AbstractIn
import Derived.Shelf.RegionOpen
import Derived.OwnWalkIn
import Derived.TacticsInMore
import Derived.LoopNIn
import Derived.LoopIn
import Derived.RegionIn
import Derived.RangeFuncSeq
import Derived.RangeFuncStops
import Derived.RangeFuncFrom
import Derived.Sort.MapsRangeIn
import Derived.Lib.SlKeysI
import Derived.Maps.AppendAt
import Derived.RangeFuncBox
namespace Go.Proofs.YtcogiogjpbkeaaaGreatDoor.T12
open Go.RowKit Go.Sort Go.Lib V12
open Go.ChangeMaps (setBlock)
structure EnV where
 k:Int
 p:Nat
 A:Option Addr
 c:Nat
 C:Nat->Int
 B:Option Addr
 e:Nat
 U:Nat->Int
def ze:EnV:=⟨0,0,none,0,fun _=>0,none,0,fun _=>0⟩
def EnV.nv(x:EnV):NodeV:=⟨x.k,x.C,x.U⟩
def EnV.kv(x:EnV):Int × Value:=(x.k,.pointer (some ⟨x.p,0,none⟩))
theorem nv_k(x:EnV):x.nv.k=x.k:=rfl
abbrev zcw(E:List EnV):List Int:=G.keys EnV.k E
def eget(E:List EnV)(id:Int):EnV:=G.get EnV.k ze E id
theorem zwk(E:List EnV):(E.map EnV.kv).map (·.1)=zcw E:=by unfold zcw G.keys;rw[List.map_map];rfl
theorem nv_keys(E:List EnV):nkeys (E.map EnV.nv)=zcw E:=G.map_keys (ka:=EnV.k) (kb:=NodeV.k) nv_k E
theorem nv_get(E:List EnV)(id:Int):(eget E id).nv=nget (E.map EnV.nv) id:=G.map_get (ka:=EnV.k) (kb:=NodeV.k) nv_k ze E id
structure EIs(w:World)(d:Nat)(x:EnV):Prop where
 blk:w.heap[x.p]?=some (.cells #[.int .i64 x.k,.slice x.A d x.c,.slice x.B d x.e] 145 (0,0))
 rc:Rd w x.A d x.C
 ru:Rd w x.B d x.U
 na:x.A=none->d=0/\x.c=0
 nb:x.B=none->d=0/\x.e=0
 ta:0<d->∀ b o,x.A=some ⟨b,o,none⟩->Typ w b 2
 tb:0<d->∀ b o,x.B=some ⟨b,o,none⟩->Typ w b 2
 ok:NodeOk d x.nv
structure SC(w:World)(d:Nat)(s:Int)(q t m:Nat)(E:List EnV):Prop where
 hq:w.heap[q]?=some (.cells #[.int .i64 d,.pointer (some ⟨t,0,none⟩)] 135 (0,0))
 ex:∃ l,TMN w s t m l/\l.Perm (E.map EnV.kv)
 srt:G.Srt EnV.k E
 is:∀ x∈E,EIs w d x
def DE(m:Nat)(E:List EnV)(k:Nat):Prop:=k=m\/∃ x∈E,k=x.p
def FE(d q t m:Nat)(E:List EnV)(k:Nat):Prop:=k=q\/k=t\/k=m\/∃ x∈E,k=x.p\/(0<d/\((∃ o,x.A=some ⟨k,o,none⟩)\/∃ o,x.B=some ⟨k,o,none⟩))
def SI(w:World)(d:Nat)(s:Int)(q:Nat)(D:Nat->Prop)(L:List NodeV):Prop:=∃ t m E,SC w d s q t m E/\L=E.map EnV.nv/\D=DE m E
theorem EIs.keep{w w':World}{d:Nat}{x:EnV}(h:EIs w d x)(k:Keep w w'):EIs w' d x:=⟨k.block h.blk,h.rc.keep k,h.ru.keep k,h.na,h.nb,fun hn b o e=>(h.ta hn b o e).keep k,fun hn b o e=>(h.tb hn b o e).keep k,h.ok⟩
theorem zcl{w:World}{k:Nat}{o:Obj}(h:w.heap[k]?=some o):k<w.heap.size:=(Array.getElem?_eq_some_iff.1 h).1
theorem zmm{w w':World}{a:Addr}(h:w'.heap[a.block]?=w.heap[a.block]?):w'.cell? a=w.cell? a:=World.cell?_of_block (w:=w) h
section
variable{w w':World}{d:Nat}{s:Int}{q t m:Nat}{E:List EnV}
theorem SC.keep(h:SC w d s q t m E)(k:Keep w w'):SC w' d s q t m E:=⟨k.block h.hq,by obtain⟨l,a,b⟩:=h.ex;exact⟨l,a.keep k,b⟩,h.srt,fun x hx=>(h.is x hx).keep k⟩
theorem SC.frame(h:SC w d s q t m E)(f:∀ k,FE d q t m E k->w'.heap[k]?=w.heap[k]?):SC w' d s q t m E:=by
 refine⟨(f q (Or.inl rfl)).trans h.hq,?_,h.srt,fun x hx=>?_⟩
 ·obtain⟨l,a,b⟩:=h.ex
  exact⟨l,⟨(f t (Or.inr (Or.inl rfl))).trans a.hp,a.mp.of (f m (Or.inr (Or.inr (Or.inl rfl)))),a.lo,a.hi,a.len⟩,b⟩
 ·have hx':=h.is x hx
  refine⟨(f x.p (Or.inr (Or.inr (Or.inr ⟨x,hx,Or.inl rfl⟩)))).trans hx'.blk,⟨hx'.rc.small,hx'.rc.range,fun hn=>?_⟩,⟨hx'.ru.small,hx'.ru.range,fun hn=>?_⟩,hx'.na,hx'.nb,fun hn b o e=>(hx'.ta hn b o e).same (f b (Or.inr (Or.inr (Or.inr ⟨x,hx,Or.inr ⟨hn,Or.inl ⟨o,e⟩⟩⟩)))),fun hn b o e=>(hx'.tb hn b o e).same (f b (Or.inr (Or.inr (Or.inr ⟨x,hx,Or.inr ⟨hn,Or.inr ⟨o,e⟩⟩⟩)))),hx'.ok⟩
  ·obtain⟨b,off,e,hc⟩:=hx'.rc.adr hn
   exact⟨b,off,e,fun j hj=>(zmm (a:=⟨b,off+j,none⟩) (f b (Or.inr (Or.inr (Or.inr ⟨x,hx,Or.inr ⟨hn,Or.inl ⟨off,e⟩⟩⟩))))).trans (hc j hj)⟩
  ·obtain⟨b,off,e,hc⟩:=hx'.ru.adr hn
   exact⟨b,off,e,fun j hj=>(zmm (a:=⟨b,off+j,none⟩) (f b (Or.inr (Or.inr (Or.inr ⟨x,hx,Or.inr ⟨hn,Or.inr ⟨off,e⟩⟩⟩))))).trans (hc j hj)⟩
theorem SC.mp(h:SC w d s q t m E):∃ es c,w.heap[m]?=some (.map es c):=by
 obtain⟨l,a,_⟩:=h.ex;obtain⟨es,c,e,_⟩:=a.mp.length_le;exact⟨es,c,e⟩
theorem SC.hp(h:SC w d s q t m E):w.heap[t]?=some (.cells #[.int .i64 s,.map (some m)] 180 (0,0)):=by
 obtain⟨l,a,_⟩:=h.ex;exact a.hp
theorem SC.lt(h:SC w d s q t m E):∀ k,FE d q t m E k->k<w.heap.size:=by
 intro k hk;rcases hk with rfl | rfl | rfl | ⟨x,hx,h1 | ⟨hd,⟨o,ha⟩ | ⟨o,ha⟩⟩⟩
 ·exact zcl h.hq
 ·exact zcl h.hp
 ·obtain⟨_,_,e⟩:=h.mp
  exact zcl e
 ·rw[h1];exact zcl (h.is x hx).blk
 ·obtain⟨b,off,e,hc⟩:=(h.is x hx).rc.adr hd
  rw[ha] at e;simp only[Option.some.injEq,Addr.mk.injEq,and_true] at e;rw[e.1];exact zbl (hc 0 hd)
 ·obtain⟨b,off,e,hc⟩:=(h.is x hx).ru.adr hd
  rw[ha] at e;simp only[Option.some.injEq,Addr.mk.injEq,and_true] at e;rw[e.1];exact zbl (hc 0 hd)
theorem SC.off(h:SC w d s q t m E){a:Addr}{v:Value}(hc:w.cell? a=some v):¬a.block=m:=fun e=>by
 obtain⟨es,c,e2⟩:=h.mp;simp[World.cell?,e,e2] at hc
theorem SC.qm(h:SC w d s q t m E):¬q=m:=fun e=>by
 obtain⟨es,c,e2⟩:=h.mp;rw[<- e,h.hq] at e2;cases e2
theorem SC.xm(h:SC w d s q t m E){x:EnV}(hx:x∈E):¬x.p=m:=fun e=>by
 obtain⟨es,c,e2⟩:=h.mp;rw[<- e,(h.is x hx).blk] at e2;cases e2
theorem SC.xq(h:SC w d s q t m E){x:EnV}(hx:x∈E):¬q=x.p:=fun e=>by
 have e2:=h.hq;rw[e,(h.is x hx).blk] at e2;simp at e2
theorem SC.xt(h:SC w d s q t m E){x:EnV}(hx:x∈E):¬t=x.p:=fun e=>by
 have e2:=h.hp;rw[e,(h.is x hx).blk] at e2;simp at e2
theorem SC.xy(h:SC w d s q t m E){x y:EnV}(hx:x∈E)(hy:y∈E)(e:x.p=y.p):x.k=y.k:=by
 have e1:=(h.is x hx).blk;rw[e,(h.is y hy).blk] at e1;simp at e1
 exact e1.1.symm
theorem SC.c0(h:SC w d s q t m E):w.cell? ⟨q,0,none⟩=some (.int .i64 d):=by rw[cell_of_row w q _ _ _ _ h.hq];rfl
theorem SC.c1(h:SC w d s q t m E):w.cell? ⟨q,1,none⟩=some (.pointer (some ⟨t,0,none⟩)):=by rw[cell_of_row w q _ _ _ _ h.hq];rfl
theorem SC.len(h:SC w d s q t m E):(E.length:Int)<=s:=by
 obtain⟨l,a,b⟩:=h.ex;have:=a.len;rw[b.length_eq,List.length_map] at this;exact this
theorem zer{id:Int}(h:id∈zcw E):eget E id∈E/\(eget E id).k=id:=G.get_some h
theorem SC.look_in(h:SC w d s q t m E){l:List (Int × Value)}(hp:l.Perm (E.map EnV.kv)){id:Int}(hk:id∈zcw E):MV.lookV l id=some (.pointer (some ⟨(eget E id).p,0,none⟩)):=by
 have hn:(l.map (·.1)).Nodup:=by rw[(hp.map _).nodup_iff,zwk];exact G.keys_nodup h.srt
 rw[MV.look_mem hn,hp.mem_iff];have g:=zer hk;refine List.mem_map.2 ⟨eget E id,g.1,?_⟩;unfold EnV.kv;rw[g.2]
theorem zfi{l:List (Int × Value)}(hp:l.Perm (E.map EnV.kv)){id:Int}(h:id∉zcw E):MV.lookV l id=none:=by
 rw[MV.look_none,(hp.map _).mem_iff,zwk];exact h
theorem ais(h:SC w d s q t m E){id:Int}(hk:id∈zcw E):Calls Tryz.prog 149 #[.pointer (some ⟨t,0,none⟩),.int .i64 id] w fun e w'=>e=.returned (.tuple #[.pointer (some ⟨(eget E id).p,0,none⟩),.bool true])/\w=w':=by
 obtain⟨l,a,b⟩:=h.ex;exact zvs a id _ (h.look_in b hk)
theorem aej(h:SC w d s q t m E){id:Int}(hk:id∉zcw E):Calls Tryz.prog 149 #[.pointer (some ⟨t,0,none⟩),.int .i64 id] w fun e w'=>e=.returned (.tuple #[.pointer none,.bool false])/\w=w':=by
 obtain⟨l,a,b⟩:=h.ex;exact zvr a id (zfi b hk)
theorem SC.put(h:SC w d s q t m E){E':List EnV}{l':List (Int × Value)}(a:TMN w' s t m l')(b:l'.Perm (E'.map EnV.kv))(f:Fr (·=m) w w')(hs:G.Srt EnV.k E')(hi:∀ x∈E',EIs w d x):SC w' d s q t m E':=by
 have h0:∀ {a:Addr} {v:Value},w.cell? a=some v->¬a.block=m:=fun hc=>h.off hc
 refine⟨(f.block _ (zcl h.hq) h.qm).trans h.hq,⟨l',a,b⟩,hs,fun x hx=>?_⟩
 have hx':=hi x hx;have nm:¬x.p=m:=fun e=>by
  obtain⟨es,c,e2⟩:=h.mp;rw[<- e,hx'.blk] at e2;cases e2
 have rr:∀ {A:Option Addr} {Z:Nat->Int},Rd w A d Z->Rd w' A d Z:=fun g=>⟨g.small,g.range,fun hn=>by
  obtain⟨b,off,e,hc⟩:=g.adr hn
  exact⟨b,off,e,fun j hj=>f.cell (hc j hj) (h0 (hc j hj))⟩⟩
 have tt:∀ {b:Nat} {T:TypeId},Typ w b T->Typ w' b T:=fun g=>g.same (f.block _ g.lt fun e=>by
  obtain⟨es,c,e2⟩:=h.mp;obtain⟨cs,loc,e3⟩:=g;rw[e,e2] at e3
  cases e3)
 exact⟨(f.block _ (zcl hx'.blk) nm).trans hx'.blk,rr hx'.rc,rr hx'.ru,hx'.na,hx'.nb,fun hn b o e=>tt (hx'.ta hn b o e),fun hn b o e=>tt (hx'.tb hn b o e),hx'.ok⟩
theorem ajy(h:SC w d s q t m E){D:Nat->Prop}(f:Fr (·=m) w w')(hD:∀ k,k=m->D k):FrS D w w':=⟨f.less hD,fun _ _ _ _ hc=>f.cell hc (h.off hc)⟩
theorem aeh(h:SC w d s q t m E)(x:EnV)(hx:EIs w d x)(hk:x.k∉zcw E)(hl:(E.length:Int)<s):Calls Tryz.prog 91 #[.pointer (some ⟨t,0,none⟩),.int .i64 x.k,.pointer (some ⟨x.p,0,none⟩)] w fun e w'=>e=.returned .nilIface/\SC w' d s q t m (G.ins EnV.k x E)/\Fr (·=m) w w':=by
 obtain⟨l,a,b⟩:=h.ex;have e:l.length=E.length:=by rw[b.length_eq,List.length_map]
 refine(zzo a x.k x.p (zfi b hk) (by omega)).mono fun _ _ ⟨he,ht,hw⟩=>⟨he,h.put ht ?_ hw (G.ins_sorted h.srt hk) fun y hy=>?_,hw⟩
 ·refine List.Perm.trans ?_ ((G.ins_perm x E).map EnV.kv).symm
  rw[List.map_cons];exact(List.perm_append_singleton _ _).trans (b.cons _)
 ·rcases G.ins_mem.1 hy with rfl | hy
  ·exact hx
  ·exact h.is y hy
theorem aeg(h:SC w d s q t m E)(k:Int)(p:Nat)(hk:k∈zcw E):Calls Tryz.prog 91 #[.pointer (some ⟨t,0,none⟩),.int .i64 k,.pointer (some ⟨p,0,none⟩)] w fun e w'=>e=.returned (err 6)/\w=w':=by
 obtain⟨l,a,b⟩:=h.ex;exact zzn a k p _ (h.look_in b hk)
theorem zzk(h:SC w d s q t m E)(k:Int)(p:Nat)(hk:k∉zcw E)(hl:(E.length:Int)=s):Calls Tryz.prog 91 #[.pointer (some ⟨t,0,none⟩),.int .i64 k,.pointer (some ⟨p,0,none⟩)] w fun e w'=>e=.returned (err 7)/\zbb w w':=by
 obtain⟨l,a,b⟩:=h.ex;have e:l.length=E.length:=by rw[b.length_eq,List.length_map]
 exact zvq a k p (zfi b hk) (by omega)
theorem ztj{w:World}{k:Nat}{a b c u:Value}{T:TypeId}(h:w.heap[k]?=some (.cells #[a,b,c] T (0,0))):(w.setCell ⟨k,2,none⟩ u).heap[k]?=some (.cells #[a,b,u] T (0,0)):=by
 have hlt:=zcl h;have h':w.heap[k]=.cells #[a,b,c] T (0,0):=by simpa [Array.getElem?_eq_getElem hlt] using h
 show(w.heap.modify k _)[k]?=_
 rw[Array.getElem?_eq_getElem (by simpa using hlt),Array.getElem_modify_self,h']
 rfl
theorem FrS.ent{w:World}{k:Nat}{a b u:Value}{A:Option Addr}{n c:Nat}{T:TypeId}{D:Nat->Prop}(h:w.heap[k]?=some (.cells #[a,b,.slice A n c] T (0,0)))(hD:D k):FrS D w (w.setCell ⟨k,2,none⟩ u):=by
 have f:Fr D w (w.setCell ⟨k,2,none⟩ u):=Fr.set (Fr.refl D w) (by left;exact hD) u
 refine⟨f,fun b o kk i hc=>?_⟩
 by_cases e:b=k
 ·subst e
  rw[cell_of_row w _ _ _ _ _ h] at hc;rw[cell_of_row _ _ _ _ _ _ (ztj (u:=u) h)];rcases o with _ | _ | _ | o
  ·exact hc
  ·exact hc
  ·cases hc
  ·cases hc
 ·rw[zmm (a:=⟨b,o,none⟩) (Below.heap_setCell w ⟨k,2,none⟩ u b e)]
  exact hc
theorem SC.used(h:SC w d s q t m E){id:Int}(hk:id∈zcw E)(B:Option Addr)(e:Nat)(U:Nat->Int)(hr:Rd w B d U)(nb:B=none->d=0/\e=0)(tB:0<d->∀ b o,B=some ⟨b,o,none⟩->Typ w b 2)(ok:NodeOk d ⟨id,(eget E id).C,U⟩):
  SC (w.setCell ⟨(eget E id).p,2,none⟩ (.slice B d e)) d s q t m (G.rep EnV.k E { eget E id with B:=B,e:=e,U:=U }):=by
 obtain⟨hx,hkx⟩:=zer hk;obtain⟨x,hxx⟩:=Zn (eget E id);rw[<- hxx] at hx hkx ok ⊢;have hX:=h.is x hx;have ht:=ztj (u:=.slice B d e) hX.blk;have f:FrS (fun k=>k=x.p) w (w.setCell ⟨x.p,2,none⟩ (.slice B d e)):=FrS.ent hX.blk rfl
 have ob:∀ k,k<w.heap.size->¬k=x.p->(w.setCell ⟨x.p,2,none⟩ (.slice B d e)).heap[k]?=w.heap[k]?:=fun k hk2 hne=>f.fr.block k hk2 hne
 refine⟨(ob _ (zcl h.hq) (h.xq hx)).trans h.hq,?_,G.rep_sorted h.srt,fun y hy=>?_⟩
 ·obtain⟨l,a,b⟩:=h.ex
  refine⟨l,⟨(ob _ a.plt (h.xt hx)).trans a.hp,a.mp.of (ob _ a.mlt (fun e=>h.xm hx e.symm)),a.lo,a.hi,a.len⟩,?_⟩
  have e1:(G.rep EnV.k E { x with B:=B,e:=e,U:=U }).map EnV.kv=E.map EnV.kv:=by
   unfold G.rep;rw[List.map_map];refine List.map_congr_left fun y hy=>?_
   show EnV.kv (if y.k=x.k then _ else y)=EnV.kv y
   by_cases e1:y.k=x.k
   ·rw[if_pos e1]
    have:y=x:=by
     have g1:=G.get_at (z:=ze) h.srt hy;have g2:=G.get_at (z:=ze) h.srt hx;rw[e1] at g1;exact g1.symm.trans g2
    rw[this];rfl
   ·rw[if_neg e1]
  rw[e1];exact b
 ·rcases G.rep_mem hy with hy2 | rfl
  ·by_cases e1:y.k=x.k
   ·have hy3:y={ x with B:=B,e:=e,U:=U }:=by
     unfold G.rep at hy;obtain⟨z,hz,hzy⟩:=List.mem_map.1 hy
     by_cases e3:z.k=x.k
     ·rw[if_pos (by exact e3)] at hzy
      exact hzy.symm
     ·rw[if_neg (by exact e3)] at hzy
      rw[hzy] at e3;exact absurd e1 e3
    rw[hy3];exact⟨ht,f.rd hX.rc,f.rd hr,hX.na,nb,fun hn b o e=>(hX.ta hn b o e).set _ _,fun hn b o e=>(tB hn b o e).set _ _,by rw[<- hkx] at ok;exact ok⟩
   ·have hY:=h.is y hy2
    exact⟨(ob _ (zcl hY.blk) (fun e2=>e1 (h.xy hy2 hx e2))).trans hY.blk,f.rd hY.rc,f.rd hY.ru,hY.na,hY.nb,fun hn b o e=>(hY.ta hn b o e).set _ _,fun hn b o e=>(hY.tb hn b o e).set _ _,hY.ok⟩
  ·exact⟨ht,f.rd hX.rc,f.rd hr,hX.na,nb,fun hn b o e=>(hX.ta hn b o e).set _ _,fun hn b o e=>(tB hn b o e).set _ _,by rw[<- hkx] at ok;exact ok⟩
theorem aks{id:Int}(hk:id∈zcw E)(B:Option Addr)(e:Nat)(U:Nat->Int):(G.rep EnV.k E { eget E id with B:=B,e:=e,U:=U }).map EnV.nv=G.rep NodeV.k (E.map EnV.nv) ⟨id,(nget (E.map EnV.nv) id).C,U⟩:=by
 rw[G.map_rep (ka:=EnV.k) (kb:=NodeV.k) nv_k,<- nv_get];unfold EnV.nv;rw[(zer hk).2]
theorem DE.rep{x:EnV}(hx:x∈E){y:EnV}(hy:y.p=x.p):∀ k,DE m (G.rep EnV.k E y) k->DE m E k:=by
 intro k hk;rcases hk with rfl | ⟨z,hz,rfl⟩
 ·exact Or.inl rfl
 ·rcases G.rep_mem hz with hz | rfl
  ·exact Or.inr ⟨z,hz,rfl⟩
  ·exact Or.inr ⟨x,hx,hy⟩
theorem SC.offT(h:SC w d s q t m E){b:Nat}{T:TypeId}(hb:DE m E b)(ht:Typ w b T):T=145:=by
 obtain⟨cs,loc,e⟩:=ht;rcases hb with rfl | ⟨x,hx,rfl⟩
 ·obtain⟨es,c,e2⟩:=h.mp
  rw[e] at e2;cases e2
 ·rw[(h.is x hx).blk] at e
  simp at e
  exact e.2.1.symm
end
end Go.Proofs.YtcogiogjpbkeaaaGreatDoor.T12
namespace Go.Proofs.YtcogiogjpbkeaaaGreatDoor
open Go.RowKit Go.Maps Go.Sort Go.Shelf
namespace MV
section
variable{F:Fence}{n:Nat}{P:Program}{w:World}{ops:Array Oper}{rest:List Oper}{o:Oper}{a:Act}{Q:Exit->Act->World->Prop}
end
theorem Rng.left{w:World}{b r:Nat}{todo:List (Int × Value)}(h:Rng w b r todo):w.rangeLeft b r=todo.length:=by
 obtain⟨es,clock,since,seen,c0,h1,h2,h3,h4,h5,h6,h7,h8⟩:=h;have:=h7.length_eq;rw[List.length_map,List.length_map,Array.length_toList] at this;simp only[World.rangeLeft,h1,h2];exact this
end MV
namespace T12
end T12
end Go.Proofs.YtcogiogjpbkeaaaGreatDoor
namespace Go.Proofs.YtcogiogjpbkeaaaGreatDoor.T12
open Go.RowKit Go.Maps Go.Sort Go.Shelf
attribute [local go_sem] Oper.semAt_some
end Go.Proofs.YtcogiogjpbkeaaaGreatDoor.T12
namespace Go.Proofs.YtcogiogjpbkeaaaGreatDoor.T12
open Go.RowKit Go.Sort Go.Lib V12 Go.Maps Go.Shelf
theorem zsi(w:World):Calls Tryz.prog 90 #[.nilIface] w fun e w'=>e=.returned .nilIface/\Keep w w':=by
 have hA:=Zq (fun W=>zro W)
 go_enter Tryz.func90,Tryz.ntmps90
 go_wp2_with fail;refine(hA.out _).mono ?_;rintro e w1 ⟨rfl,k⟩;have k:=Zq k;go_wp2;go_ret
 exact⟨rfl,k.out⟩
theorem zqd(c:Int)(w:World)(hg:zbk w):Calls Tryz.prog 90 #[err c] w fun e w'=>e=.returned (flt c 0)/\Keep w w':=by
 have hA:=Zq (zrp c [] (.code c) _ w (.base _) (Or.inl rfl) hg);have hn:=Zq (fun W=>zgd c 0 W)
 clear hg;unfold err;unfold flt
 go_enter Tryz.func90,Tryz.ntmps90
 go_wp2_with fail;refine hA.out.mono ?_;rintro e w1 ⟨rfl,k⟩;have k:=Zq k;go_wp2_with fail;refine(hn.out _).mono ?_;rintro e w2 ⟨rfl,rfl⟩;go_wp2;go_ret
 exact⟨rfl,k.out⟩
def zuh(c:Int):Value:=if c=0 then .nilIface else err c
theorem zup(c:Int)(w:World)(hg:zbk w):Calls Tryz.prog 90 #[zuh c] w fun e w'=>e=.returned (fltC c 0)/\Keep w w':=by
 unfold zuh fltC
 by_cases h:c=0
 ·rw[if_pos h,if_pos h];exact zsi w
 ·rw[if_neg h,if_neg h];exact zqd c w hg
section
variable{w w':World}{d:Nat}{s:Int}{q t m:Nat}{E:List EnV}
theorem zjh(h:SC w d s q t m E){id:Int}(hk:id∈zcw E):Calls Tryz.prog 136 #[.pointer (some ⟨q,0,none⟩),.int .i64 id] w fun e w'=>e=.returned (.tuple #[.pointer (some ⟨(eget E id).p,0,none⟩),.bool true])/\w=w':=by
 have c1:=h.c1;have hG:=Zq (ais h hk);obtain⟨p,hp⟩:=Zn ((eget E id).p);rw[<- hp] at hG ⊢;replace hp:=Zq hp;clear h hk
 go_enter Tryz.func136,Tryz.ntmps136
 go_wp2_with fail;refine hG.out.mono ?_;rintro e w1 ⟨rfl,rfl⟩;go_wp2;go_ret2
 exact⟨rfl,rfl⟩
theorem zhm(h:SC w d s q t m E){id:Int}(hk:id∉zcw E):Calls Tryz.prog 136 #[.pointer (some ⟨q,0,none⟩),.int .i64 id] w fun e w'=>e=.returned (.tuple #[.pointer none,.bool false])/\w=w':=by
 have c1:=h.c1;have hG:=Zq (aej h hk);clear h hk
 go_enter Tryz.func136,Tryz.ntmps136
 go_wp2_with fail;refine hG.out.mono ?_;rintro e w1 ⟨rfl,rfl⟩;go_wp2;go_ret2
 exact⟨rfl,rfl⟩
theorem find_nil(w:World)(id:Int):Calls Tryz.prog 136 #[.pointer none,.int .i64 id] w fun e w'=>e=.returned (.tuple #[.pointer none,.bool false])/\w=w':=by
 go_enter Tryz.func136,Tryz.ntmps136
 go_wp2;go_ret2
 exact⟨rfl,rfl⟩
theorem ndims_fn(h:SC w d s q t m E):Calls Tryz.prog 96 #[.pointer (some ⟨q,0,none⟩)] w fun e w'=>e=.returned (.int .i64 d)/\Keep w w':=by
 have c0:=h.c0;clear h
 go_enter Tryz.func96,Tryz.ntmps96
 go_wp2;go_ret
 exact⟨rfl,Keep.refl _⟩
theorem nnew_fn(d:Nat)(s:Int)(w:World)(hd:d<=64)(h0:0<=s)(hs:I64 s):Calls Tryz.prog 52 #[.int .i64 d,.int .i64 s] w fun e w'=>∃ q,e=.returned (.pointer (some ⟨q,0,none⟩))/\∃ t m,SC w' d s q t m []/\Keep w w'/\w.heap.size<=q/\w.heap.size<=t/\w.heap.size<=m:=by
 have h:=aek s hs w;rw[if_pos h0] at h;have hm:max (d:Int) 0=(d:Int):=by omega
 have hb1:decide ((0:Int)<=(d:Int))=true:=decide_eq_true (by omega)
 have hb2:decide ((d:Int)<0)=false:=decide_eq_false (by omega)
 replace h:=Zq h;clear hs
 go_enter Tryz.func52,Tryz.ntmps52
 go_wp2_with fail;refine h.out.mono ?_;rintro e w1 ⟨t,rfl,m,T,k,h1,h2⟩;have hn:=heap_alloc_new w1 (.cells #[.int .i64 d,.pointer (some ⟨t,0,none⟩)] 135);have K:=k.alloc (.cells #[.int .i64 d,.pointer (some ⟨t,0,none⟩)] 135);have T2:=T.keep (Keep.one w1 (.cells #[.int .i64 d,.pointer (some ⟨t,0,none⟩)] 135));have hsz:=k.size;replace hn:=Zq hn;replace K:=Zq K;replace T2:=Zq T2;replace T:=Zq T;replace k:=Zq k;go_wp2;try simp only[hm]
 go_ret
 exact⟨_,rfl,t,m,⟨hn.out,⟨[],T2.out,List.Perm.nil⟩,List.Pairwise.nil,fun x h=>by cases h⟩,K.out,hsz,h1,h2⟩
end
end Go.Proofs.YtcogiogjpbkeaaaGreatDoor.T12
namespace Go.Proofs.YtcogiogjpbkeaaaGreatDoor.T12
open Go.RowKit Go.Sort Go.Lib V12
theorem zka{w:World}{s:Nat}{a b c:Value}{T:TypeId}(h:w.heap[s]?=some (.cells #[a,b,c] T (0,0))):w.cell? ⟨s,0,none⟩=some a/\w.cell? ⟨s,1,none⟩=some b/\w.cell? ⟨s,2,none⟩=some c/\∀ i,w.frozen? ⟨s,i,none⟩=false:=by
 refine⟨?_,?_,?_,fun i=>frozen_of_row w s i _ _ h⟩<;>rw[cell_of_row w s _ _ _ _ h]<;>rfl
theorem add2_fn(w:World)(b d e c:Nat)(B A:Option Addr)(U Z:Nat->Int)(hb:w.heap[b]?=some (.cells #[.slice B d e,.slice A d c] 24 (0,0)))(hU:Rd w B d U)(hZ:Rd w A d Z)(hd:d<=1000)(hs:∀ j,j<d->-9223372036854775808<=U j+Z j/\U j+Z j<=9223372036854775807):
  Calls Tryz.prog 86 #[.slice (some ⟨b,0,none⟩) 2 2] w fun e w'=>∃ g,e=.returned (.tuple #[.slice (some ⟨g,0,none⟩) d d,.bool true])/\Row w w' (some ⟨g,0,none⟩) d d (fun j=>U j+Z j)/\Keep w w':=by
 have c0:w.cell? ⟨b,0,none⟩=some (.slice B d e):=by rw[cell_of_row w b _ _ _ _ hb];rfl
 have c1:w.cell? ⟨b,1,none⟩=some (.slice A d c):=by rw[cell_of_row w b _ _ _ _ hb];rfl
 have hL:Rds w (some ⟨b,0,none⟩) 2 (fun r=>if r=0 then B else A) (fun _=>d) (fun r=>if r=0 then e else c) (fun r=>if r=0 then U else Z):=by
  refine⟨by omega,fun _=>⟨b,0,rfl,fun j hj=>?_⟩,fun r hr=>?_⟩
  ·rcases j with _ | _ | j
   ·exact c0
   ·exact c1
   ·omega
  ·rcases r with _ | _ | r
   ·exact hU
   ·exact hZ
   ·omega
 have hsum:∀ k,sumTo 2 (fun r=>(if r=0 then U else Z) k)=U k+Z k:=fun k=>by
  unfold sumTo sumTo sumTo;simp
 have ok:zlb 2 (fun _=>d) (fun r=>if r=0 then U else Z):=by
  refine⟨by omega,fun _ _=>rfl,fun k hk=>?_⟩
  rw[hsum];unfold inR;exact decide_eq_true (hs k hk)
 refine(zmk (some ⟨b,0,none⟩) 2 2 _ _ _ _ w hL (by omega) (fun _ _=>by omega) (by omega)).mono ?_
 rintro e w' ⟨k,⟨_,he,hr⟩ | ⟨h,_⟩⟩
 ·have e2:(fun k=>Value.int IntKind.i64 (sumTo 2 fun r=>(if r=0 then U else Z) k))=fun k=>.int .i64 (U k+Z k):=by
   funext k
   rw[hsum]
  rw[e2] at hr;exact⟨_,he,acy hr (Nat.le_refl _) (by omega) hs,k⟩
 ·exact absurd ok h
def zvw(w:World)(d p:Nat)(x:NodeV)(r:Bool)(Z:Nat->Int)(e:Ending)(w':World):Prop :=
 (chOk d x r Z=false/\e=.returned (.bool false)/\Keep w w')\/(chOk d x r Z=true/\e=.returned (.bool true)/\∃ w1 B c,Keep w w1/\Row w w1 B d c (chU r x.U Z)/\w'=w1.setCell ⟨p,2,none⟩ (.slice B d c))
theorem zxz{d:Nat}{x:NodeV}{Z:Nat->Int}(ok:NodeOk d x)(hz:∀ j,j<d->0<=Z j/\Z j<=1099511627776):zcm d (fun j=>x.U j+Z j) d x.C=chOk d x false Z:=by
 rw[Bool.eq_iff_iff,zjg];unfold zcm;rw[decide_eq_true_eq];constructor
 ·intro h j hj
  have:=h.2 j hj;have:=ok.lo j hj;have:=hz j hj;unfold chU;simp only[Bool.false_eq_true,if_false];exact⟨by omega,by assumption⟩
 ·intro h
  refine⟨rfl,fun j hj=>?_⟩
  have:=(h j hj).2;unfold chU at this
  simpa using this
theorem aio{d:Nat}{x:NodeV}{Z:Nat->Int}(ok:NodeOk d x)(hz:∀ j,j<d->0<=Z j/\Z j<=1099511627776):zvx d x.U d Z↔chOk d x true Z=true:=by
 rw[zjg];unfold zvx zft chU;simp only[if_true,decide_eq_true_eq];constructor
 ·intro h j hj
  have h1:=h.2 j hj;have h2:=ok.hi j hj;have h3:=hz j hj;omega
 ·intro h
  refine⟨trivial,fun j hj=>?_⟩
  have h1:=h j hj;have h2:=ok.hi j hj;have h3:=ok.max j hj;have h4:=hz j hj;omega
set_option maxRecDepth 100000 in
set_option maxHeartbeats 4000000 in
theorem afx{w:World}{d:Nat}{x:EnV}(hx:EIs w d x)(A:Option Addr)(c:Nat)(Z:Nat->Int)(hA:Rd w A d Z)(hz:∀ j,j<d->0<=Z j/\Z j<=1099511627776)(hd:d<=1000):
  Calls Tryz.prog 108 #[.pointer (some ⟨x.p,0,none⟩),.slice A d c] w (zvw w d x.p x.nv false Z):=by
 obtain⟨W,hW⟩:=Zn (w.alloc (.cells #[.slice x.B d x.e,.slice A d c] 24));have KW:Hid (Keep w W):=by rw[hW];exact Keep.one _ _
 have hb:W.heap[w.heap.size]?=some (.cells #[.slice x.B d x.e,.slice A d c] 24 (0,0)):=by rw[hW];exact heap_alloc_new _ _
 have hr:∀ j,j<d->-9223372036854775808<=x.U j+Z j/\x.U j+Z j<=9223372036854775807:=fun j hj=>by
  have h1:0<=x.U j:=hx.ok.lo j hj;have h2:x.U j<=x.C j:=hx.ok.hi j hj;have h3:x.C j<=1099511627776:=hx.ok.max j hj;have h4:=hz j hj;omega
 have cA:=add2_fn W w.heap.size d x.e c x.B A x.U Z hb (hx.ru.keep KW.out) (hA.keep KW.out) hd hr;have hf:=zxz hx.ok hz;obtain⟨f,hff⟩:=Zn (chOk d x.nv false Z);rw[<- hff] at hf;have cF:Hid (∀ W' B,Keep w W'->Rd W' B d (fun j=>x.U j+Z j)->Calls Tryz.prog 50 #[.slice B d d,.slice x.A d x.c] W' fun e w'=>e=.returned (.bool f)/\Keep W' w'):=fun W' B k r =>
  (zwe B x.A d d d x.c _ x.C W' r (hx.rc.keep k) f hf).mono fun _ _ h=>⟨h.1,h.2.keep⟩
 have eU:Hid ((fun j=>x.U j+Z j)=chU false x.nv.U Z):=by show _=_;funext j;unfold chU;simp;rfl
 have hblk:=Zq hx.blk;have c12:=zka hx.blk;obtain⟨_,c1,c2,_⟩:=c12;have T:Hid (∀ W',Keep w W'->W'.cell? ⟨x.p,1,none⟩=some (.slice x.A d x.c)/\W'.cell? ⟨x.p,2,none⟩=some (.slice x.B d x.e)/\∀ i,W'.frozen? ⟨x.p,i,none⟩=false):=fun W' k=>(zka (k.block hx.blk)).2
 obtain⟨p,hp⟩:=Zn (x.p);rw[<- hp] at c1 c2 T hblk ⊢;replace hp:=Zq hp;replace hff:=Zq hff;replace hb:=Zq hb;replace cA:=Zq cA;have hpl:=zbl c2;clear hx hA hz hr hf
 go_enter Tryz.func108,Tryz.ntmps108
 go_wp2_with fail;rw[<- hW];replace hW:=Zq hW;refine cA.out.mono ?_;rintro e w1 ⟨g,rfl,R1,k1⟩;have K1:=Zq (KW.out.trans k1);have cF1:=Zq (cF.out w1 _ K1.out R1.rd);obtain⟨d1,d2,d3⟩:=T.out w1 K1.out;replace R1:=Zq R1;replace k1:=Zq k1;clear cA c1 c2 hpl;go_wp2_with fail;refine cF1.out.mono ?_;rintro e w2 ⟨rfl,k2⟩;have K2:=Zq (K1.out.trans k2);have R2:Hid (Row w w2 (some ⟨g,0,none⟩) d d (fun j=>x.U j+Z j)):=(R1.out.keep k2).low KW.out.size
 rw[eU.out] at R2;clear d1 d2 d3;obtain⟨e1,e2,e3⟩:=T.out w2 K2.out;replace k2:=Zq k2;cases f with
 | false =>
   go_wp2;go_ret
   exact Or.inl ⟨hff.out.symm,rfl,K2.out⟩
 | true =>
   go_wp2;go_ret
   exact Or.inr ⟨hff.out.symm,rfl,w2,_,_,K2.out,R2.out,rfl⟩
set_option maxRecDepth 100000 in
set_option maxHeartbeats 4000000 in
theorem zug{w:World}{d:Nat}{x:EnV}(hx:EIs w d x)(A:Option Addr)(c:Nat)(Z:Nat->Int)(hA:Rd w A d Z)(hz:∀ j,j<d->0<=Z j/\Z j<=1099511627776)(hd:d<=1000):
  Calls Tryz.prog 135 #[.pointer (some ⟨x.p,0,none⟩),.slice A d c] w (zvw w d x.p x.nv true Z):=by
 have cS:=aim x.B A d d x.e c x.U Z w hx.ru hA (by omega)
 have hf:=aio hx.ok hz;have hr:Hid (chOk d x.nv true Z=true->∀ j,j<d->-9223372036854775808<=x.U j - Z j/\x.U j - Z j<=9223372036854775807):=fun h j hj=>by
  have h1:0<=x.U j:=hx.ok.lo j hj;have h2:x.U j<=x.C j:=hx.ok.hi j hj;have h3:x.C j<=1099511627776:=hx.ok.max j hj;have h4:=hz j hj;omega
 have eU:Hid ((fun j=>x.U j - Z j)=chU true x.nv.U Z):=by show _=_;funext j;unfold chU;simp;rfl
 obtain⟨_,c1,c2,_⟩:=zka hx.blk;have T:Hid (∀ W',Keep w W'->W'.cell? ⟨x.p,1,none⟩=some (.slice x.A d x.c)/\W'.cell? ⟨x.p,2,none⟩=some (.slice x.B d x.e)/\∀ i,W'.frozen? ⟨x.p,i,none⟩=false):=fun W' k=>(zka (k.block hx.blk)).2
 obtain⟨f,hff⟩:=Zn (chOk d x.nv true Z);rw[<- hff] at hf hr;obtain⟨p,hp⟩:=Zn (x.p);rw[<- hp] at c1 c2 T ⊢;replace hp:=Zq hp;replace hff:=Zq hff;replace hf:=Zq hf;replace cS:=Zq cS;clear hx hA hz
 go_enter Tryz.func135,Tryz.ntmps135
 go_wp2_with fail;refine cS.out.mono ?_;rintro e w1 ⟨k1,⟨ok,rfl,R1⟩ | ⟨no,rfl⟩⟩
 ·have K1:Hid (Keep w w1):=k1
  have ft:f=true:=hf.out.1 ok;have R2:Hid (Row w w1 (some ⟨w.heap.size,0,none⟩) d d (fun j=>x.U j - Z j)):=acy R1 (Nat.le_refl _) (by omega) (hr.out ft)
  rw[eU.out] at R2;clear c1 c2;obtain⟨e1,e2,e3⟩:=T.out w1 K1.out;replace k1:=Zq k1;replace R1:=Zq R1;replace ok:=Zq ok;go_wp2;go_ret
  exact Or.inr ⟨hff.out.symm.trans ft,rfl,w1,_,_,K1.out,R2.out,rfl⟩
 ·have K1:Hid (Keep w w1):=k1
  have ft:f=false:=by
   cases f
   ·rfl
   ·exact absurd (hf.out.2 rfl) no
  replace k1:=Zq k1;replace no:=Zq no;go_wp2;go_ret
  exact Or.inl ⟨hff.out.symm.trans ft,rfl,K1.out⟩
def After(w w':World)(d:Nat)(s:Int)(q t m:Nat)(E:List EnV)(M:List NodeV):Prop :=
 ∃ E',SC w' d s q t m E'/\E'.map EnV.nv=M/\FrS (DE m E) w w'/\(∀ k,DE m E' k->DE m E k\/w.heap.size<=k)/\∀ k,FE d q t m E' k->FE d q t m E k\/w.heap.size<=k
section
variable{w w':World}{d:Nat}{s:Int}{q t m:Nat}{E:List EnV}
theorem After.same(h:SC w d s q t m E)(k:Keep w w'):After w w' d s q t m E (E.map EnV.nv):=⟨E,h.keep k,rfl,FrS.of k,fun _ h=>Or.inl h,fun _ h=>Or.inl h⟩
theorem After.used(h:SC w d s q t m E){id:Int}(hk:id∈zcw E){w1:World}{B:Option Addr}{c:Nat}{U:Nat->Int}(k1:Keep w w1)(R:Row w w1 B d c U)(ok:NodeOk d ⟨id,(nget (E.map EnV.nv) id).C,U⟩):
  After w (w1.setCell ⟨(eget E id).p,2,none⟩ (.slice B d c)) d s q t m E (G.rep NodeV.k (E.map EnV.nv) ⟨id,(nget (E.map EnV.nv) id).C,U⟩):=by
 have h1:=h.keep k1;have hx:=(zer hk).1;rw[<- aks hk B c U];rw[<- nv_get] at ok;refine⟨_,h1.used hk B c U R.rd R.nil R.ty ok,rfl,FrS.after k1 (FrS.ent (h1.is _ hx).blk (Or.inr ⟨_,hx,rfl⟩)),fun k hk2=>Or.inl (DE.rep (y:={ eget E id with B:=B,e:=c,U:=U }) hx rfl k hk2),fun k hk2=>?_⟩
 rcases hk2 with rfl | rfl | rfl | ⟨y,hy,h2⟩
 ·exact Or.inl (Or.inl rfl)
 ·exact Or.inl (Or.inr (Or.inl rfl))
 ·exact Or.inl (Or.inr (Or.inr (Or.inl rfl)))
 ·rcases G.rep_mem hy with hy | rfl
  ·exact Or.inl (Or.inr (Or.inr (Or.inr ⟨y,hy,h2⟩)))
  ·rcases h2 with h2 | ⟨hd,⟨o,h2⟩ | ⟨o,h2⟩⟩
   ·exact Or.inl (Or.inr (Or.inr (Or.inr ⟨_,hx,Or.inl h2⟩)))
   ·exact Or.inl (Or.inr (Or.inr (Or.inr ⟨_,hx,Or.inr ⟨hd,Or.inl ⟨o,h2⟩⟩⟩)))
   ·right
    obtain⟨b,off,e,hb,_⟩:=R.new hd;have e2:B=some ⟨k,o,none⟩:=h2;rw[e] at e2;simp only[Option.some.injEq,Addr.mk.injEq,and_true] at e2;omega
set_option maxRecDepth 100000 in
set_option maxHeartbeats 4000000 in
theorem zrj(h:SC w d s q t m E)(id:Int)(A:Option Addr)(n c:Nat)(Z:Nat->Int)(hA:Rd w A n Z)(hd:d<=64):
  Calls Tryz.prog 107 #[.pointer (some ⟨q,0,none⟩),.int .i64 id,.slice A n c,.func (.func 108) #[] #[]] w fun e w'=>e=.returned (fltC (chC (E.map EnV.nv) d id n Z false) 0)/\After w w' d s q t m E (chL (E.map EnV.nv) d id n Z false):=by
 have hn:=Zq (fun x y W=>zgd x y W)
 unfold chL chC;rw[nv_keys]
 by_cases hk:id∈zcw E
 ·rw[if_neg (not_not_intro hk)]
  have hF:=Zq (zjh h hk);have hW:=zfv A n c Z d w hA;have c0:=h.c0
  by_cases hw:0<=zak n Z d
  ·rw[if_pos hw,if_neg (by decide)]
   obtain⟨g,hg⟩:=Zn (zak n Z d);rw[<- hg] at hW hw;replace hg:=Zq hg;replace hW:=Zq hW;have fin:=Zq (After.same h (Keep.refl w));unfold fltC flt;rw[if_neg (by decide)]
   clear h hk hA
   go_enter Tryz.func107,Tryz.ntmps107
   go_wp2_with fail;refine hF.out.mono ?_;rintro e w1 ⟨rfl,rfl⟩;go_wp2_with fail;refine hW.out.mono ?_;rintro e w1 ⟨rfl,rfl⟩;go_wp2_with fail;refine(hn.out 3 0 _).mono ?_;rintro e w1 ⟨rfl,rfl⟩;go_wp2;go_ret
   exact⟨rfl,fin.out⟩
  ·rw[if_neg hw]
   obtain⟨rfl,hz⟩:=wrong_no hw;have hx:=(zer hk).1;have hB:=afx (h.is _ hx) A c Z hA hz (by omega)
   have e0:G.get NodeV.k zn (E.map EnV.nv) id=(eget E id).nv:=(nv_get E id).symm;rw[e0];have ok0:=(h.is _ hx).ok;have fin:Hid (∀ w1 B c,chOk n (eget E id).nv false Z=true->Keep w w1->Row w w1 B n c (chU false (eget E id).nv.U Z)->After w (w1.setCell ⟨(eget E id).p,2,none⟩ (.slice B n c)) n s q t m E (G.rep NodeV.k (E.map EnV.nv) ⟨id,(eget E id).nv.C,chU false (eget E id).nv.U Z⟩)):=fun w1 B c hc k R=>by
    have:=After.used h hk k R (by
     rw[<- nv_get];rw[zjg] at hc;have hk2:=(zer hk).2
     exact⟨by rw[<- hk2];exact ok0.k,fun j hj=>(hc j hj).1,fun j hj=>(hc j hj).2,ok0.max⟩)
    rw[<- nv_get] at this;exact this
   have fin0:Hid (∀ w',Keep w w'->After w w' n s q t m E (E.map EnV.nv)):=fun w' k=>After.same h k
   obtain⟨x,hxx⟩:=Zn (eget E id);rw[<- hxx] at hF hB fin ⊢;obtain⟨g,hg⟩:=Zn (zak n Z n);rw[<- hg] at hW hw;obtain⟨ok,hok⟩:=Zn (chOk n x.nv false Z);unfold zvw at hB;rw[<- hok] at hB fin ⊢;replace hok:=Zq hok;replace hg:=Zq hg;replace hW:=Zq hW;replace hB:=Zq hB;obtain⟨p,hp⟩:=Zn (x.p);rw[<- hp] at hF hB fin;replace hp:=Zq hp;replace hxx:=Zq hxx;clear h hk hA hx e0 ok0 hz
   go_enter Tryz.func107,Tryz.ntmps107
   go_wp2_with fail;refine hF.out.mono ?_;rintro e w1 ⟨rfl,rfl⟩;go_wp2_with fail;refine hW.out.mono ?_;rintro e w1 ⟨rfl,rfl⟩;go_wp2_with fail;refine hB.out.mono ?_;rintro e w1 (⟨h1,rfl,k⟩ | ⟨h1,rfl,w2,B,c2,k,R,hw'⟩)
   ·have k:=Zq k
    subst h1;go_wp2_with fail;refine(hn.out 10 0 _).mono ?_;rintro e w2 ⟨rfl,rfl⟩;go_wp2;go_ret
    exact⟨rfl,fin0.out _ k.out⟩
   ·have A5:=Zq (fin.out w2 B c2 h1 k R)
    rw[<- hw'] at A5;subst h1;replace hw':=Zq hw';replace R:=Zq R;replace k:=Zq k;go_wp2;go_ret
    exact⟨rfl,A5.out⟩
 ·rw[if_pos hk,if_neg (by decide)]
  have hF:=Zq (zhm h hk);have fin:=Zq (After.same h (Keep.refl w));unfold fltC flt;rw[if_neg (by decide)]
  clear h hk hA
  go_enter Tryz.func107,Tryz.ntmps107
  go_wp2_with fail;refine hF.out.mono ?_;rintro e w1 ⟨rfl,rfl⟩;go_wp2_with fail;refine(hn.out 5 0 _).mono ?_;rintro e w1 ⟨rfl,rfl⟩;go_wp2;go_ret
  exact⟨rfl,fin.out⟩
theorem nhold_fn(h:SC w d s q t m E)(id:Int)(A:Option Addr)(n c:Nat)(Z:Nat->Int)(hA:Rd w A n Z)(hd:d<=64):
  Calls Tryz.prog 66 #[.pointer (some ⟨q,0,none⟩),.int .i64 id,.slice A n c] w fun e w'=>e=.returned (fltC (chC (E.map EnV.nv) d id n Z false) 0)/\After w w' d s q t m E (chL (E.map EnV.nv) d id n Z false):=by
 have hC:=Zq (zrj h id A n c Z hA hd);clear h hA
 go_enter Tryz.func66,Tryz.ntmps66
 go_wp2_with fail;refine hC.out.mono ?_;rintro e w1 ⟨rfl,F⟩;have F:=Zq F;go_wp2;go_ret
 exact⟨rfl,F.out⟩
set_option maxRecDepth 100000 in
set_option maxHeartbeats 4000000 in
theorem zmp(h:SC w d s q t m E)(id:Int)(A:Option Addr)(n c:Nat)(Z:Nat->Int)(hA:Rd w A n Z)(hd:d<=64):
  Calls Tryz.prog 107 #[.pointer (some ⟨q,0,none⟩),.int .i64 id,.slice A n c,.func (.func 135) #[] #[]] w fun e w'=>e=.returned (fltC (chC (E.map EnV.nv) d id n Z true) 0)/\After w w' d s q t m E (chL (E.map EnV.nv) d id n Z true):=by
 have hn:=Zq (fun x y W=>zgd x y W)
 unfold chL chC;rw[nv_keys]
 by_cases hk:id∈zcw E
 ·rw[if_neg (not_not_intro hk)]
  have hF:=Zq (zjh h hk);have hW:=zfv A n c Z d w hA;have c0:=h.c0
  by_cases hw:0<=zak n Z d
  ·rw[if_pos hw,if_neg (by decide)]
   obtain⟨g,hg⟩:=Zn (zak n Z d);rw[<- hg] at hW hw;replace hg:=Zq hg;replace hW:=Zq hW;have fin:=Zq (After.same h (Keep.refl w));unfold fltC flt;rw[if_neg (by decide)]
   clear h hk hA
   go_enter Tryz.func107,Tryz.ntmps107
   go_wp2_with fail;refine hF.out.mono ?_;rintro e w1 ⟨rfl,rfl⟩;go_wp2_with fail;refine hW.out.mono ?_;rintro e w1 ⟨rfl,rfl⟩;go_wp2_with fail;refine(hn.out 3 0 _).mono ?_;rintro e w1 ⟨rfl,rfl⟩;go_wp2;go_ret
   exact⟨rfl,fin.out⟩
  ·rw[if_neg hw]
   obtain⟨rfl,hz⟩:=wrong_no hw;have hx:=(zer hk).1;have hB:=zug (h.is _ hx) A c Z hA hz (by omega)
   have e0:G.get NodeV.k zn (E.map EnV.nv) id=(eget E id).nv:=(nv_get E id).symm;rw[e0];have ok0:=(h.is _ hx).ok;have fin:Hid (∀ w1 B c,chOk n (eget E id).nv true Z=true->Keep w w1->Row w w1 B n c (chU true (eget E id).nv.U Z)->After w (w1.setCell ⟨(eget E id).p,2,none⟩ (.slice B n c)) n s q t m E (G.rep NodeV.k (E.map EnV.nv) ⟨id,(eget E id).nv.C,chU true (eget E id).nv.U Z⟩)):=fun w1 B c hc k R=>by
    have:=After.used h hk k R (by
     rw[<- nv_get];rw[zjg] at hc;have hk2:=(zer hk).2
     exact⟨by rw[<- hk2];exact ok0.k,fun j hj=>(hc j hj).1,fun j hj=>(hc j hj).2,ok0.max⟩)
    rw[<- nv_get] at this;exact this
   have fin0:Hid (∀ w',Keep w w'->After w w' n s q t m E (E.map EnV.nv)):=fun w' k=>After.same h k
   obtain⟨x,hxx⟩:=Zn (eget E id);rw[<- hxx] at hF hB fin ⊢;obtain⟨g,hg⟩:=Zn (zak n Z n);rw[<- hg] at hW hw;obtain⟨ok,hok⟩:=Zn (chOk n x.nv true Z);unfold zvw at hB;rw[<- hok] at hB fin ⊢;replace hok:=Zq hok;replace hg:=Zq hg;replace hW:=Zq hW;replace hB:=Zq hB;obtain⟨p,hp⟩:=Zn (x.p);rw[<- hp] at hF hB fin;replace hp:=Zq hp;replace hxx:=Zq hxx;clear h hk hA hx e0 ok0 hz
   go_enter Tryz.func107,Tryz.ntmps107
   go_wp2_with fail;refine hF.out.mono ?_;rintro e w1 ⟨rfl,rfl⟩;go_wp2_with fail;refine hW.out.mono ?_;rintro e w1 ⟨rfl,rfl⟩;go_wp2_with fail;refine hB.out.mono ?_;rintro e w1 (⟨h1,rfl,k⟩ | ⟨h1,rfl,w2,B,c2,k,R,hw'⟩)
   ·have k:=Zq k
    subst h1;go_wp2_with fail;refine(hn.out 10 0 _).mono ?_;rintro e w2 ⟨rfl,rfl⟩;go_wp2;go_ret
    exact⟨rfl,fin0.out _ k.out⟩
   ·have A5:=Zq (fin.out w2 B c2 h1 k R)
    rw[<- hw'] at A5;subst h1;replace hw':=Zq hw';replace R:=Zq R;replace k:=Zq k;go_wp2;go_ret
    exact⟨rfl,A5.out⟩
 ·rw[if_pos hk,if_neg (by decide)]
  have hF:=Zq (zhm h hk);have fin:=Zq (After.same h (Keep.refl w));unfold fltC flt;rw[if_neg (by decide)]
  clear h hk hA
  go_enter Tryz.func107,Tryz.ntmps107
  go_wp2_with fail;refine hF.out.mono ?_;rintro e w1 ⟨rfl,rfl⟩;go_wp2_with fail;refine(hn.out 5 0 _).mono ?_;rintro e w1 ⟨rfl,rfl⟩;go_wp2;go_ret
  exact⟨rfl,fin.out⟩
theorem nrelease_fn(h:SC w d s q t m E)(id:Int)(A:Option Addr)(n c:Nat)(Z:Nat->Int)(hA:Rd w A n Z)(hd:d<=64):
  Calls Tryz.prog 104 #[.pointer (some ⟨q,0,none⟩),.int .i64 id,.slice A n c] w fun e w'=>e=.returned (fltC (chC (E.map EnV.nv) d id n Z true) 0)/\After w w' d s q t m E (chL (E.map EnV.nv) d id n Z true):=by
 have hC:=Zq (zmp h id A n c Z hA hd);clear h hA
 go_enter Tryz.func104,Tryz.ntmps104
 go_wp2_with fail;refine hC.out.mono ?_;rintro e w1 ⟨rfl,F⟩;have F:=Zq F;go_wp2;go_ret
 exact⟨rfl,F.out⟩
end
end Go.Proofs.YtcogiogjpbkeaaaGreatDoor.T12
namespace Go.Proofs.YtcogiogjpbkeaaaGreatDoor.T12
open Go.RowKit Go.Sort Go.Lib V12
section
variable{w w':World}{d:Nat}{s:Int}{q t m:Nat}{E:List EnV}
set_option maxRecDepth 100000 in
set_option maxHeartbeats 4000000 in
theorem nget_in(h:SC w d s q t m E){id:Int}(hk:id∈zcw E)(hd:d<=64):Calls Tryz.prog 105 #[.pointer (some ⟨q,0,none⟩),.int .i64 id] w fun e w'=>∃ A c,e=.returned (.tuple #[.agg #[.int .i64 id,.slice A d c],.bool true])/\Row w w' A d c (eget E id).C/\Keep w w':=by
 obtain⟨W,hW⟩:=Zn (w.alloc (.cells #[.int .i64 0,.slice none 0 0] 56));have KW:Hid (Keep w W):=by rw[hW];exact Keep.one _ _
 obtain⟨b,hb⟩:=Zn (w.heap.size);have Y:Hid (W.heap[b]?=some (.cells #[.int .i64 0,.slice none 0 0] 56 (0,0))):=by rw[hW,hb];exact heap_alloc_new _ _
 have hsz:Hid (W.heap.size=b+1):=by show _=_;rw[hW,World.size_alloc,hb]
 have h1:=h.keep KW.out;have hF:=Zq (zjh h1 hk);have hx:=h1.is _ (zer hk).1;have e0:=(zer hk).2;obtain⟨c0,c1,_,_⟩:=zka hx.blk;have cC:=zrl (eget E id).k _ d _ _ W hx.rc hx.na (by omega)
 rw[e0] at c0 cC;replace cC:=Zq cC;obtain⟨x,hxx⟩:=Zn (eget E id);rw[<- hxx] at hF c0 c1 cC ⊢;obtain⟨p,hp⟩:=Zn (x.p);rw[<- hp] at hF c0 c1;replace hp:=Zq hp;replace hxx:=Zq hxx;have hbw:Hid (w.heap.size<=b):=by show _<=_;omega
 clear h h1 hk hx e0
 go_enter Tryz.func105,Tryz.ntmps105
 go_wp2_with fail;rw[<- hW,<- hb];replace hW:=Zq hW;replace hb:=Zq hb;refine hF.out.mono ?_;rintro e w1 ⟨rfl,rfl⟩;go_wp2_with fail;refine cC.out.mono ?_;rintro e w1 ⟨A,c,rfl,R,k⟩;obtain⟨y0,y1,yf⟩:=cel2 (k.block Y.out);have R:=Zq R;have k:=Zq k;clear c0 c1 cC;have B5:Hid (((w1.setCell ⟨b,0,none⟩ (.int .i64 id)).setCell ⟨b,1,none⟩ (.slice A d c)).heap[b]?=some (.cells #[.int .i64 id,.slice A d c] 56 (0,0))):=two_set (k.out.block Y.out);have K5:Hid (Keep w ((w1.setCell ⟨b,0,none⟩ (.int .i64 id)).setCell ⟨b,1,none⟩ (.slice A d c))):=two_keep (KW.out.trans k.out) hbw.out
 have R5:Hid (Row w ((w1.setCell ⟨b,0,none⟩ (.int .i64 id)).setCell ⟨b,1,none⟩ (.slice A d c)) A d c x.C):=(R.out.fr two_fr fun b2 o e hp hd=>by
  obtain⟨b',o',e',hb',_⟩:=R.out.new hp;rw[e] at e';have e2:=Option.some.inj e';simp only[Addr.mk.injEq,and_true] at e2;have:=hsz.out
  omega).low KW.out.size
 go_wp2;obtain⟨z0,z1,_⟩:=cel2 B5.out;refine bodyPost_ret (v:=.tuple #[.agg #[.int .i64 id,.slice A d c],.bool true]) (by simp[results,Tryz.results105,go_sem,z0,z1]) rfl ⟨A,c,rfl,R5.out,K5.out⟩
set_option maxRecDepth 100000 in
set_option maxHeartbeats 4000000 in
theorem nget_out(h:SC w d s q t m E){id:Int}(hk:id∉zcw E):Calls Tryz.prog 105 #[.pointer (some ⟨q,0,none⟩),.int .i64 id] w fun e w'=>e=.returned (.tuple #[.agg #[.int .i64 0,.slice none 0 0],.bool false])/\Keep w w':=by
 obtain⟨W,hW⟩:=Zn (w.alloc (.cells #[.int .i64 0,.slice none 0 0] 56));have KW:Hid (Keep w W):=by rw[hW];exact Keep.one _ _
 obtain⟨b,hb⟩:=Zn (w.heap.size);have Y:W.heap[b]?=some (.cells #[.int .i64 0,.slice none 0 0] 56 (0,0)):=by rw[hW,hb];exact heap_alloc_new _ _
 have hF:=Zq (zhm (h.keep KW.out) hk);obtain⟨y0,y1,yf⟩:=cel2 Y;have B5:Hid (((W.setCell ⟨b,0,none⟩ (.int .i64 0)).setCell ⟨b,1,none⟩ (.slice none 0 0)).heap[b]?=some (.cells #[.int .i64 0,.slice none 0 0] 56 (0,0))):=two_set Y;have K5:Hid (Keep w ((W.setCell ⟨b,0,none⟩ (.int .i64 0)).setCell ⟨b,1,none⟩ (.slice none 0 0))):=two_keep KW.out (by omega)
 replace Y:=Zq Y;clear h hk
 go_enter Tryz.func105,Tryz.ntmps105
 go_wp2_with fail;rw[<- hW,<- hb];replace hW:=Zq hW;replace hb:=Zq hb;refine hF.out.mono ?_;rintro e w1 ⟨rfl,rfl⟩;go_wp2;obtain⟨z0,z1,_⟩:=cel2 B5.out;refine bodyPost_ret (v:=.tuple #[.agg #[.int .i64 0,.slice none 0 0],.bool false]) (by simp[results,Tryz.results105,go_sem,z0,z1]) rfl ⟨rfl,K5.out⟩
end
end Go.Proofs.YtcogiogjpbkeaaaGreatDoor.T12
