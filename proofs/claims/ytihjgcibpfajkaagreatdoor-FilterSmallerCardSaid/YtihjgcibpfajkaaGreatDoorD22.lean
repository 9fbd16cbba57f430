/-
  The store's memory: its struct, its table with its map, its entries. No condition.
  maps.Keys and its iterator, over a map as a list of pairs. No condition.
  Contracts of the library over this program, laid by the shelf, plain. Conditions: as each says.
-/
import Derived.Test.YtihjgcibpfajkaaGreatDoorD20
import Derived.Test.YtihjgcibpfajkaaGreatDoorD21
import Derived.RangeFuncNested
import Derived.RangeFuncBound
import Derived.RangeFuncCalls
import Derived.RangeFuncLeaves
import Derived.Shelf.Abstract
import Derived.Shelf.AbstractIn
import Derived.Shelf.RegionOpen
import Derived.WalkKit
import Derived.OwnWalkIn
import Derived.TacticsInMore
import Derived.LoopNIn
import Derived.LoopIn
import Derived.RegionIn
import Derived.RangeFuncSeq
import Derived.RangeFuncStops
import Derived.RangeFuncFrom
import Derived.Sort.MapsRangeIn
import Derived.Shelf.Small.Bits
import Derived.Shelf.Small.Wraps
import Derived.Shelf.Strconv.Itoa0
import Derived.Shelf.Sort.Plain
import Derived.Shelf.Slices.Equal
import Derived.Ground.Names2Prog
import Derived.Shelf.Slices.SearchI
import Derived.Shelf.Slices.In.SortNone
import Derived.Shelf.Slices.Empties2
import Derived.Test.YtihjgcibpfajkaaGreatDoorProg
namespace Go.Proofs.YtihjgcibpfajkaaGreatDoor.T12
open Go.RowKit Go.Sort Go.Lib V12
open Go.ChangeMaps (setBlock)
structure EnV where
 k:Int
 p:Nat
 A:Option Addr
 c:Nat
 C:Nat→Int
 B:Option Addr
 e:Nat
 U:Nat→Int
def ze:EnV:=⟨0,0,none,0,fun _=>0,none,0,fun _=>0⟩
def EnV.nv(x:EnV):NodeV:=⟨x.k,x.C,x.U⟩
def EnV.kv(x:EnV):Int × Value:=(x.k,.pointer (some ⟨x.p,0,none⟩))
theorem nv_k(x:EnV):x.nv.k=x.k:=rfl
abbrev zbt(E:List EnV):List Int:=G.keys EnV.k E
def eget(E:List EnV)(id:Int):EnV:=G.get EnV.k ze E id
theorem zlr(E:List EnV):(E.map EnV.kv).map (·.1)=zbt E:=by unfold zbt G.keys;rw[List.map_map];rfl
theorem nv_keys(E:List EnV):nkeys (E.map EnV.nv)=zbt E:=G.map_keys (ka:=EnV.k) (kb:=NodeV.k) nv_k E
theorem nv_get(E:List EnV)(id:Int):(eget E id).nv=nget (E.map EnV.nv) id:=G.map_get (ka:=EnV.k) (kb:=NodeV.k) nv_k ze E id
structure EIs(w:World)(d:Nat)(x:EnV):Prop where
 blk:w.heap[x.p]?=some (.cells #[.int .i64 x.k,.slice x.A d x.c,.slice x.B d x.e] 116 (0,0))
 rc:Rd w x.A d x.C
 ru:Rd w x.B d x.U
 na:x.A=none→d=0∧x.c=0
 nb:x.B=none→d=0∧x.e=0
 ta:0<d→∀ b o,x.A=some ⟨b,o,none⟩→Typ w b 2
 tb:0<d→∀ b o,x.B=some ⟨b,o,none⟩→Typ w b 2
 ok:NodeOk d x.nv
structure SC(w:World)(d:Nat)(s:Int)(q t m:Nat)(E:List EnV):Prop where
 hq:w.heap[q]?=some (.cells #[.int .i64 d,.pointer (some ⟨t,0,none⟩)] 110 (0,0))
 ex:∃ l,TMN w s t m l∧l.Perm (E.map EnV.kv)
 srt:G.Srt EnV.k E
 is:∀ x∈E,EIs w d x
def DE(m:Nat)(E:List EnV)(k:Nat):Prop:=k=m∨∃ x∈E,k=x.p
def FE(d q t m:Nat)(E:List EnV)(k:Nat):Prop:=k=q∨k=t∨k=m∨∃ x∈E,k=x.p∨(0<d∧((∃ o,x.A=some ⟨k,o,none⟩)∨∃ o,x.B=some ⟨k,o,none⟩))
def SI(w:World)(d:Nat)(s:Int)(q:Nat)(D:Nat→Prop)(L:List NodeV):Prop:=∃ t m E,SC w d s q t m E∧L=E.map EnV.nv∧D=DE m E
theorem EIs.keep{w w':World}{d:Nat}{x:EnV}(h:EIs w d x)(k:Keep w w'):EIs w' d x:=⟨k.block h.blk,h.rc.keep k,h.ru.keep k,h.na,h.nb,fun hn b o e=>(h.ta hn b o e).keep k,fun hn b o e=>(h.tb hn b o e).keep k,h.ok⟩
theorem zbl{w:World}{k:Nat}{o:Obj}(h:w.heap[k]?=some o):k<w.heap.size:=(Array.getElem?_eq_some_iff.1 h).1
theorem zjd{w w':World}{a:Addr}(h:w'.heap[a.block]?=w.heap[a.block]?):w'.cell? a=w.cell? a:=World.cell?_of_block (w:=w) h
section
variable{w w':World}{d:Nat}{s:Int}{q t m:Nat}{E:List EnV}
theorem SC.keep(h:SC w d s q t m E)(k:Keep w w'):SC w' d s q t m E:=⟨k.block h.hq,by obtain⟨l,a,b⟩:=h.ex;exact⟨l,a.keep k,b⟩,h.srt,fun x hx=>(h.is x hx).keep k⟩
theorem SC.frame(h:SC w d s q t m E)(f:∀ k,FE d q t m E k→w'.heap[k]?=w.heap[k]?):SC w' d s q t m E:=by
 refine⟨(f q (Or.inl rfl)).trans h.hq,?_,h.srt,fun x hx=>?_⟩
 ·obtain⟨l,a,b⟩:=h.ex
  exact⟨l,⟨(f t (Or.inr (Or.inl rfl))).trans a.hp,a.mp.of (f m (Or.inr (Or.inr (Or.inl rfl)))),a.lo,a.hi,a.len⟩,b⟩
 ·have hx':=h.is x hx
  refine⟨(f x.p (Or.inr (Or.inr (Or.inr ⟨x,hx,Or.inl rfl⟩)))).trans hx'.blk,⟨hx'.rc.small,hx'.rc.range,fun hn=>?_⟩,⟨hx'.ru.small,hx'.ru.range,fun hn=>?_⟩,hx'.na,hx'.nb,fun hn b o e=>(hx'.ta hn b o e).same (f b (Or.inr (Or.inr (Or.inr ⟨x,hx,Or.inr ⟨hn,Or.inl ⟨o,e⟩⟩⟩)))),fun hn b o e=>(hx'.tb hn b o e).same (f b (Or.inr (Or.inr (Or.inr ⟨x,hx,Or.inr ⟨hn,Or.inr ⟨o,e⟩⟩⟩)))),hx'.ok⟩
  ·obtain⟨b,off,e,hc⟩:=hx'.rc.adr hn
   exact⟨b,off,e,fun j hj=>(zjd (a:=⟨b,off+j,none⟩) (f b (Or.inr (Or.inr (Or.inr ⟨x,hx,Or.inr ⟨hn,Or.inl ⟨off,e⟩⟩⟩))))).trans (hc j hj)⟩
  ·obtain⟨b,off,e,hc⟩:=hx'.ru.adr hn
   exact⟨b,off,e,fun j hj=>(zjd (a:=⟨b,off+j,none⟩) (f b (Or.inr (Or.inr (Or.inr ⟨x,hx,Or.inr ⟨hn,Or.inr ⟨off,e⟩⟩⟩))))).trans (hc j hj)⟩
theorem SC.mp(h:SC w d s q t m E):∃ es c,w.heap[m]?=some (.map es c):=by
 obtain⟨l,a,_⟩:=h.ex;obtain⟨es,c,e,_⟩:=a.mp.length_le;exact⟨es,c,e⟩
theorem SC.hp(h:SC w d s q t m E):w.heap[t]?=some (.cells #[.int .i64 s,.map (some m)] 152 (0,0)):=by
 obtain⟨l,a,_⟩:=h.ex;exact a.hp
theorem SC.lt(h:SC w d s q t m E):∀ k,FE d q t m E k→k<w.heap.size:=by
 intro k hk;rcases hk with rfl | rfl | rfl | ⟨x,hx,h1 | ⟨hd,⟨o,ha⟩ | ⟨o,ha⟩⟩⟩
 ·exact zbl h.hq
 ·exact zbl h.hp
 ·obtain⟨_,_,e⟩:=h.mp
  exact zbl e
 ·rw[h1];exact zbl (h.is x hx).blk
 ·obtain⟨b,off,e,hc⟩:=(h.is x hx).rc.adr hd
  rw[ha] at e;simp only[Option.some.injEq,Addr.mk.injEq,and_true] at e;rw[e.1];exact zbd (hc 0 hd)
 ·obtain⟨b,off,e,hc⟩:=(h.is x hx).ru.adr hd
  rw[ha] at e;simp only[Option.some.injEq,Addr.mk.injEq,and_true] at e;rw[e.1];exact zbd (hc 0 hd)
theorem SC.off(h:SC w d s q t m E){a:Addr}{v:Value}(hc:w.cell? a=some v):¬a.block=m:=fun e=>by
 obtain⟨es,c,e2⟩:=h.mp;simp[World.cell?,e,e2] at hc
theorem SC.qm(h:SC w d s q t m E):¬q=m:=fun e=>by
 obtain⟨es,c,e2⟩:=h.mp;rw[← e,h.hq] at e2;cases e2
theorem SC.xm(h:SC w d s q t m E){x:EnV}(hx:x∈E):¬x.p=m:=fun e=>by
 obtain⟨es,c,e2⟩:=h.mp;rw[← e,(h.is x hx).blk] at e2;cases e2
theorem SC.xq(h:SC w d s q t m E){x:EnV}(hx:x∈E):¬q=x.p:=fun e=>by
 have e2:=h.hq;rw[e,(h.is x hx).blk] at e2;simp at e2
theorem SC.xt(h:SC w d s q t m E){x:EnV}(hx:x∈E):¬t=x.p:=fun e=>by
 have e2:=h.hp;rw[e,(h.is x hx).blk] at e2;simp at e2
theorem SC.xy(h:SC w d s q t m E){x y:EnV}(hx:x∈E)(hy:y∈E)(e:x.p=y.p):x.k=y.k:=by
 have e1:=(h.is x hx).blk;rw[e,(h.is y hy).blk] at e1;simp at e1
 exact e1.1.symm
theorem SC.c0(h:SC w d s q t m E):w.cell? ⟨q,0,none⟩=some (.int .i64 d):=by rw[cell_of_row w q _ _ _ _ h.hq];rfl
theorem SC.c1(h:SC w d s q t m E):w.cell? ⟨q,1,none⟩=some (.pointer (some ⟨t,0,none⟩)):=by rw[cell_of_row w q _ _ _ _ h.hq];rfl
theorem SC.len(h:SC w d s q t m E):(E.length:Int)≤s:=by
 obtain⟨l,a,b⟩:=h.ex;have:=a.len;rw[b.length_eq,List.length_map] at this;exact this
theorem zdm{id:Int}(h:id∈zbt E):eget E id∈E∧(eget E id).k=id:=G.get_some h
theorem SC.look_in(h:SC w d s q t m E){l:List (Int × Value)}(hp:l.Perm (E.map EnV.kv)){id:Int}(hk:id∈zbt E):MV.lookV l id=some (.pointer (some ⟨(eget E id).p,0,none⟩)):=by
 have hn:(l.map (·.1)).Nodup:=by rw[(hp.map _).nodup_iff,zlr];exact G.keys_nodup h.srt
 rw[MV.look_mem hn,hp.mem_iff];have g:=zdm hk;refine List.mem_map.2 ⟨eget E id,g.1,?_⟩;unfold EnV.kv;rw[g.2]
theorem zea{l:List (Int × Value)}(hp:l.Perm (E.map EnV.kv)){id:Int}(h:id∉zbt E):MV.lookV l id=none:=by
 rw[MV.look_none,(hp.map _).mem_iff,zlr];exact h
theorem abf(h:SC w d s q t m E){id:Int}(hk:id∈zbt E):Calls Tryz.prog 92 #[.pointer (some ⟨t,0,none⟩),.int .i64 id] w fun e w'=>e=.returned (.tuple #[.pointer (some ⟨(eget E id).p,0,none⟩),.bool true])∧w=w':=by
 obtain⟨l,a,b⟩:=h.ex;exact zpw a id _ (h.look_in b hk)
theorem zxg(h:SC w d s q t m E){id:Int}(hk:id∉zbt E):Calls Tryz.prog 92 #[.pointer (some ⟨t,0,none⟩),.int .i64 id] w fun e w'=>e=.returned (.tuple #[.pointer none,.bool false])∧w=w':=by
 obtain⟨l,a,b⟩:=h.ex;exact zpv a id (zea b hk)
theorem SC.put(h:SC w d s q t m E){E':List EnV}{l':List (Int × Value)}(a:TMN w' s t m l')(b:l'.Perm (E'.map EnV.kv))(f:Fr (·=m) w w')(hs:G.Srt EnV.k E')(hi:∀ x∈E',EIs w d x):SC w' d s q t m E':=by
 have h0:∀ {a:Addr} {v:Value},w.cell? a=some v→¬a.block=m:=fun hc=>h.off hc
 refine⟨(f.block _ (zbl h.hq) h.qm).trans h.hq,⟨l',a,b⟩,hs,fun x hx=>?_⟩
 have hx':=hi x hx;have nm:¬x.p=m:=fun e=>by
  obtain⟨es,c,e2⟩:=h.mp;rw[← e,hx'.blk] at e2;cases e2
 have rr:∀ {A:Option Addr} {Z:Nat→Int},Rd w A d Z→Rd w' A d Z:=fun g=>⟨g.small,g.range,fun hn=>by
  obtain⟨b,off,e,hc⟩:=g.adr hn
  exact⟨b,off,e,fun j hj=>f.cell (hc j hj) (h0 (hc j hj))⟩⟩
 have tt:∀ {b:Nat} {T:TypeId},Typ w b T→Typ w' b T:=fun g=>g.same (f.block _ g.lt fun e=>by
  obtain⟨es,c,e2⟩:=h.mp;obtain⟨cs,loc,e3⟩:=g;rw[e,e2] at e3
  cases e3)
 exact⟨(f.block _ (zbl hx'.blk) nm).trans hx'.blk,rr hx'.rc,rr hx'.ru,hx'.na,hx'.nb,fun hn b o e=>tt (hx'.ta hn b o e),fun hn b o e=>tt (hx'.tb hn b o e),hx'.ok⟩
theorem ach(h:SC w d s q t m E){D:Nat→Prop}(f:Fr (·=m) w w')(hD:∀ k,k=m→D k):FrS D w w':=⟨f.less hD,fun _ _ _ _ hc=>f.cell hc (h.off hc)⟩
theorem zxe(h:SC w d s q t m E)(x:EnV)(hx:EIs w d x)(hk:x.k∉zbt E)(hl:(E.length:Int)<s):Calls Tryz.prog 74 #[.pointer (some ⟨t,0,none⟩),.int .i64 x.k,.pointer (some ⟨x.p,0,none⟩)] w fun e w'=>e=.returned .nilIface∧SC w' d s q t m (G.ins EnV.k x E)∧Fr (·=m) w w':=by
 obtain⟨l,a,b⟩:=h.ex;have e:l.length=E.length:=by rw[b.length_eq,List.length_map]
 refine(ztj a x.k x.p (zea b hk) (by omega)).mono fun _ _ ⟨he,ht,hw⟩=>⟨he,h.put ht ?_ hw (G.ins_sorted h.srt hk) fun y hy=>?_,hw⟩
 ·refine List.Perm.trans ?_ ((G.ins_perm x E).map EnV.kv).symm
  rw[List.map_cons];exact(List.perm_append_singleton _ _).trans (b.cons _)
 ·rcases G.ins_mem.1 hy with rfl | hy
  ·exact hx
  ·exact h.is y hy
theorem zxd(h:SC w d s q t m E)(k:Int)(p:Nat)(hk:k∈zbt E):Calls Tryz.prog 74 #[.pointer (some ⟨t,0,none⟩),.int .i64 k,.pointer (some ⟨p,0,none⟩)] w fun e w'=>e=.returned (err 6)∧w=w':=by
 obtain⟨l,a,b⟩:=h.ex;exact zti a k p _ (h.look_in b hk)
theorem ztf(h:SC w d s q t m E)(k:Int)(p:Nat)(hk:k∉zbt E)(hl:(E.length:Int)=s):Calls Tryz.prog 74 #[.pointer (some ⟨t,0,none⟩),.int .i64 k,.pointer (some ⟨p,0,none⟩)] w fun e w'=>e=.returned (err 7)∧zau w w':=by
 obtain⟨l,a,b⟩:=h.ex;have e:l.length=E.length:=by rw[b.length_eq,List.length_map]
 exact zpu a k p (zea b hk) (by omega)
theorem zoc{w:World}{k:Nat}{a b c u:Value}{T:TypeId}(h:w.heap[k]?=some (.cells #[a,b,c] T (0,0))):(w.setCell ⟨k,2,none⟩ u).heap[k]?=some (.cells #[a,b,u] T (0,0)):=by
 have hlt:=zbl h;have h':w.heap[k]=.cells #[a,b,c] T (0,0):=by simpa [Array.getElem?_eq_getElem hlt] using h
 show(w.heap.modify k _)[k]?=_
 rw[Array.getElem?_eq_getElem (by simpa using hlt),Array.getElem_modify_self,h']
 rfl
theorem FrS.ent{w:World}{k:Nat}{a b u:Value}{A:Option Addr}{n c:Nat}{T:TypeId}{D:Nat→Prop}(h:w.heap[k]?=some (.cells #[a,b,.slice A n c] T (0,0)))(hD:D k):FrS D w (w.setCell ⟨k,2,none⟩ u):=by
 have f:Fr D w (w.setCell ⟨k,2,none⟩ u):=Fr.set (Fr.refl D w) (by left;exact hD) u
 refine⟨f,fun b o kk i hc=>?_⟩
 by_cases e:b=k
 ·subst e
  rw[cell_of_row w _ _ _ _ _ h] at hc;rw[cell_of_row _ _ _ _ _ _ (zoc (u:=u) h)];rcases o with _ | _ | _ | o
  ·exact hc
  ·exact hc
  ·cases hc
  ·cases hc
 ·rw[zjd (a:=⟨b,o,none⟩) (Below.heap_setCell w ⟨k,2,none⟩ u b e)]
  exact hc
theorem SC.used(h:SC w d s q t m E){id:Int}(hk:id∈zbt E)(B:Option Addr)(e:Nat)(U:Nat→Int)(hr:Rd w B d U)(nb:B=none→d=0∧e=0)(tB:0<d→∀ b o,B=some ⟨b,o,none⟩→Typ w b 2)(ok:NodeOk d ⟨id,(eget E id).C,U⟩):
  SC (w.setCell ⟨(eget E id).p,2,none⟩ (.slice B d e)) d s q t m (G.rep EnV.k E { eget E id with B:=B,e:=e,U:=U }):=by
 obtain⟨hx,hkx⟩:=zdm hk;obtain⟨x,hxx⟩:∃ x,x=eget E id:=⟨_,rfl⟩;rw[← hxx] at hx hkx ok ⊢;have hX:=h.is x hx;have ht:=zoc (u:=.slice B d e) hX.blk;have f:FrS (fun k=>k=x.p) w (w.setCell ⟨x.p,2,none⟩ (.slice B d e)):=FrS.ent hX.blk rfl
 have ob:∀ k,k<w.heap.size→¬k=x.p→(w.setCell ⟨x.p,2,none⟩ (.slice B d e)).heap[k]?=w.heap[k]?:=fun k hk2 hne=>f.fr.block k hk2 hne
 refine⟨(ob _ (zbl h.hq) (h.xq hx)).trans h.hq,?_,G.rep_sorted h.srt,fun y hy=>?_⟩
 ·obtain⟨l,a,b⟩:=h.ex
  refine⟨l,⟨(ob _ a.plt (h.xt hx)).trans a.hp,a.mp.of (ob _ a.mlt (fun e=>h.xm hx e.symm)),a.lo,a.hi,a.len⟩,?_⟩
  have e1:(G.rep EnV.k E { x with B:=B,e:=e,U:=U }).map EnV.kv=E.map EnV.kv:=by
   unfold G.rep;rw[List.map_map];refine List.map_congr_left fun y hy=>?_
   show EnV.kv (if y.k=x.k then _ else y)=EnV.kv y
   by_cases e1:y.k=x.k
   ·rw[if_pos e1]
    have:y=x:=by
     have g1:=G.get_at (z:=ze) h.srt hy;have g2:=G.get_at (z:=ze) h.srt hx;rw[e1] at g1;exact g1.symm.trans g2
    rw[this];rfl
   ·rw[if_neg e1]
  rw[e1];exact b
 ·rcases G.rep_mem hy with hy2 | rfl
  ·by_cases e1:y.k=x.k
   ·have hy3:y={ x with B:=B,e:=e,U:=U }:=by
     unfold G.rep at hy;obtain⟨z,hz,hzy⟩:=List.mem_map.1 hy
     by_cases e3:z.k=x.k
     ·rw[if_pos (by exact e3)] at hzy
      exact hzy.symm
     ·rw[if_neg (by exact e3)] at hzy
      rw[hzy] at e3;exact absurd e1 e3
    rw[hy3];exact⟨ht,f.rd hX.rc,f.rd hr,hX.na,nb,fun hn b o e=>(hX.ta hn b o e).set _ _,fun hn b o e=>(tB hn b o e).set _ _,by rw[← hkx] at ok;exact ok⟩
   ·have hY:=h.is y hy2
    exact⟨(ob _ (zbl hY.blk) (fun e2=>e1 (h.xy hy2 hx e2))).trans hY.blk,f.rd hY.rc,f.rd hY.ru,hY.na,hY.nb,fun hn b o e=>(hY.ta hn b o e).set _ _,fun hn b o e=>(hY.tb hn b o e).set _ _,hY.ok⟩
  ·exact⟨ht,f.rd hX.rc,f.rd hr,hX.na,nb,fun hn b o e=>(hX.ta hn b o e).set _ _,fun hn b o e=>(tB hn b o e).set _ _,by rw[← hkx] at ok;exact ok⟩
theorem adh{id:Int}(hk:id∈zbt E)(B:Option Addr)(e:Nat)(U:Nat→Int):(G.rep EnV.k E { eget E id with B:=B,e:=e,U:=U }).map EnV.nv=G.rep NodeV.k (E.map EnV.nv) ⟨id,(nget (E.map EnV.nv) id).C,U⟩:=by
 rw[G.map_rep (ka:=EnV.k) (kb:=NodeV.k) nv_k,← nv_get];unfold EnV.nv;rw[(zdm hk).2]
theorem DE.rep{x:EnV}(hx:x∈E){y:EnV}(hy:y.p=x.p):∀ k,DE m (G.rep EnV.k E y) k→DE m E k:=by
 intro k hk;rcases hk with rfl | ⟨z,hz,rfl⟩
 ·exact Or.inl rfl
 ·rcases G.rep_mem hz with hz | rfl
  ·exact Or.inr ⟨z,hz,rfl⟩
  ·exact Or.inr ⟨x,hx,hy⟩
theorem SC.offT(h:SC w d s q t m E){b:Nat}{T:TypeId}(hb:DE m E b)(ht:Typ w b T):T=116:=by
 obtain⟨cs,loc,e⟩:=ht;rcases hb with rfl | ⟨x,hx,rfl⟩
 ·obtain⟨es,c,e2⟩:=h.mp
  rw[e] at e2;cases e2
 ·rw[(h.is x hx).blk] at e
  simp at e
  exact e.2.1.symm
end
end Go.Proofs.YtihjgcibpfajkaaGreatDoor.T12
namespace Go.Proofs.YtihjgcibpfajkaaGreatDoor
open Go.RowKit Go.Maps Go.Sort Go.Shelf
namespace MV
section
variable{F:Fence}{n:Nat}{P:Program}{w:World}{ops:Array Oper}{rest:List Oper}{o:Oper}{a:Act}{Q:Exit→Act→World→Prop}
theorem wpi_range(hg:o.guard=none)(m:Operand)(t:TypeId)(hop:o.op=Op.range t m){tK tE:TypeId}(ht:P.underlying t=some (.map tK tE)){B:Nat}{l:List (Int × Value)}(hm:a.eval m=.map (some B))(h:Is w B l)
  (hK:∀ w',Rng w' B w.heap.size l→Keep w w'→w'.heap.size=w.heap.size+1→wpListIn F n P ops Q rest (a.put o.dst (.pointer (some ⟨w.heap.size,0,none⟩))) w'):wpListIn F n P ops Q (o :: rest) a w:=by
 refine wpListIn_plain hg fun K' hK'=>?_
 obtain⟨w',hrun,r1,r2,r3⟩:=zsv (P:=P) ht h;unfold Oper.wpIn;refine⟨by simp[Oper.about,hop],?_⟩
 rw[Oper.semAt_plain F _ _ (by rw[hop];intro c hc';cases hc')]
 simp[execOp,hop,hm,hrun,Result.andThen]
 exact hK' _ _ (hK w' r1 r2 r3)
theorem wpi_next(hg:o.guard=none)(it:Operand)(hop:o.op=Op.next it false){b r:Nat}{todo:List (Int × Value)}(hit:a.eval it=.pointer (some ⟨r,0,none⟩))(h:Rng w b r todo)(hne:r≠b)
  (hDone:todo=[]→wpListIn F n P ops Q rest (a.put o.dst (.tuple #[.bool false])) w)
  (hMore:∀ k v rs w',todo.Perm ((k,v) :: rs)→Rng w' b r rs→w.grownBy w' (some r)→w'.heap.size=w.heap.size→(Instr.entry (.pointer (some ⟨r,0,none⟩))).run P w'=.ok (.tuple #[.int .i64 k,v]) w'→wpListIn F n P ops Q rest (a.put o.dst (.tuple #[.bool true,.int .i64 k,v])) w') :
  wpListIn F n P ops Q (o :: rest) a w:=by
 refine wpListIn_plain hg fun K' hK'=>?_
 unfold Oper.wpIn;refine⟨by simp[Oper.about,hop],?_⟩
 rw[Oper.semAt_plain F _ _ (by rw[hop];intro c hc';cases hc')]
 rcases zwc (P:=P) h hne o.type with ⟨h0,hrun⟩ | ⟨k,v,rs,w',hp,hrun,hr,hg',hs,hen⟩
 ·simp[execOp,hop,hit,hrun,Result.andThen]
  exact hK' _ _ (hDone h0)
 ·simp[execOp,hop,hit,hrun,Result.andThen]
  exact hK' _ _ (hMore k v rs w' hp hr hg' hs hen)
end
theorem Rng.left{w:World}{b r:Nat}{todo:List (Int × Value)}(h:Rng w b r todo):w.rangeLeft b r=todo.length:=by
 obtain⟨es,clock,since,seen,c0,h1,h2,h3,h4,h5,h6,h7,h8⟩:=h;have:=h7.length_eq;rw[List.length_map,List.length_map,Array.length_toList] at this;simp only[World.rangeLeft,h1,h2];exact this
theorem Rng.walks{w w':World}{b r:Nat}{todo:List (Int × Value)}(h:Rng w b r todo)(k:KeepsWalks w w'):Rng w' b r todo:=by
 obtain⟨es,clock,since,seen,c0,h1,h2,h3⟩:=h;exact⟨es,clock,since,seen,c0,k.same b _ h1 rfl,k.same r _ h2 rfl,h3⟩
theorem Rng.iter{w:World}{b r:Nat}{todo:List (Int × Value)}(h:Rng w b r todo):∃ o:Obj,w.heap[r]?=some o∧o.isWalk=true:=by
 obtain⟨es,clock,since,seen,c0,h1,h2,h3⟩:=h;exact⟨_,h2,rfl⟩
end MV
namespace T12
set_option maxRecDepth 100000 in
set_option maxHeartbeats 1000000 in
theorem keys1_in(F:Fence)(n:Nat)(h10:F.fn 113)(hro:F.round=none)(hn:1≤n)(l Bm b:Nat)(L:List (Int × Value))(J Jx:List Int→World→Prop)
  (hY:∀ pre x W,J pre W→pre.length<L.length→YieldAt F (n - 1) Tryz.prog l #[.int .i64 x] W fun e W' =>
   (e=.returned (.bool true)∧J (pre++[x]) W'∧KeepsWalks W W')∨(e=.returned (.bool false)∧Jx (pre++[x]) W'))
  (W:World) (hJ:AbidesFrom W.heap.size J) (hm:W.cell? ⟨Bm,0,none⟩=some (.map (some b))) (hown:MV.Is W b L) (h0:J [] W) :
  CallsIn F n Tryz.prog 113 #[.func (.yield l) #[] #[],.pointer (some ⟨Bm,0,none⟩)] W fun e W'=>(∃ v,e=.returned v) ∧
   ((∃ ss:List Int,ss.Perm (L.map (·.1))∧J ss W')∨(∃ pre:List Int,True∧Jx pre W')):=by
 have hbl:=hown.lt;refine callsIn_of_wp Tryz.func113 rfl h10 ?_ hro;simp only[Tryz.ntmps113,List.size_toArray,List.length_cons,List.length_nil,Nat.reduceAdd,Nat.reduceSub,Array.replicate_succ,Array.replicate_zero,List.push_toArray,List.append_toArray,List.nil_append,List.cons_append]
 gi_wp2_with (first
  | (gi_at_range;refine MV.wpi_range rfl _ 150 rfl Tryz.underlying150 rfl hown ?_;intro w0 hrg0 hk0 hs0)
  | gi_in)
 go_frame
 gi_loopw [3] (fun _ wr=>∃ (todo:List (Int × Value)) (ss:List Int),MV.Rng wr b W.heap.size todo∧(ss++todo.map (·.1)).Perm (L.map (·.1))∧J ss wr)
  (fun _ wr=>wr.rangeLeft b W.heap.size)
 case atStart =>
  exact⟨L,[],hrg0,List.Perm.refl _,hJ [] W w0 none h0 hk0.grown (fun r e=>by cases e)⟩
 case round =>
  obtain⟨todo,ss,hrg,hp,hJs⟩:=hrel
  gi_wp2_with (first
   | (gi_at_next;refine MV.wpi_next rfl _ rfl rfl hrg (by omega) ?_ ?_)
   | gi_in)
  ·intro ht0
   gi_wp2
   go_end0
   subst ht0;exact⟨⟨_,rfl⟩,.inl ⟨ss,by simpa using hp,hJs⟩⟩
  ·intro k v rs w2 hpt hrg2 hg2 hs2 hen
   have hJ2:J ss w2:=hJ ss wr w2 (some W.heap.size) hJs hg2 (fun r e=>by cases e;exact⟨Nat.le_refl _,hrg.iter⟩)
   have hlen:ss.length<L.length:=by
    have h1:=hp.length_eq;have h2:=hpt.length_eq;simp at h1 h2
    omega
   obtain⟨fn,tmps,assign,body,hy,hR⟩:=hY ss k w2 hJ2 hlen;have hp2:(ss++[k]++rs.map (·.1)).Perm (L.map (·.1)):=by
    refine List.Perm.trans ?_ hp;rw[List.append_assoc];exact(List.Perm.append_left ss (hpt.map (fun x:Int × Value=>x.1)).symm)
   have hme:=hrg.left;have hlt:=hpt.length_eq;clear hs2
   gi_wp2
   refine hR.mono ?_;rintro e W3 (⟨rfl,hJ3,hk3⟩ | ⟨rfl,hJx3⟩)
   ·gi_wp2
    have hrg3:=hrg2.walks hk3
    go_roundw
    case rel=>exact⟨rs,ss++[k],hrg3,hp2,hJ3⟩
    case measure=>rw[hrg3.left,hme,hlt];simp
   ·gi_wp2
    refine bodyPost_ret (results_none rfl _ _ _) rfl ?_;exact⟨⟨_,rfl⟩,.inr ⟨ss++[k],trivial,hJx3⟩⟩
theorem keys_stops(F:Fence)(n:Nat)(h10:F.fn 113)(hro:F.round=none)(hn:1≤n)(Bm b:Nat)(L:List (Int × Value))(w:World)(hBm:Bm<w.heap.size)(hm:w.cell? ⟨Bm,0,none⟩=some (.map (some b)))(hown:MV.Is w b L):
  SeqStops F n Tryz.prog 113 #[.pointer (some ⟨Bm,0,none⟩)] (fun x:Int=>.int .i64 x) (fun ss=>ss.Perm (L.map (·.1))) (fun _=>True) L.length w:=fun l J Jx W hW hJ _ hY h0=>by
 exact keys1_in F n h10 hro hn l Bm b L J Jx hY W hJ ((hW.cell (p:=⟨Bm,0,none⟩) hBm).trans hm) (hown.of (hW.block b hown.lt)) h0
theorem keys_in(F:Fence)(n:Nat)(h7:F.fn 90)(hro:F.round=none)(b:Nat)(w:World):
  CallsIn F n Tryz.prog 90 #[.map (some b)] w fun e w'=>e=.returned (.func (.func 113) #[] #[.pointer (some ⟨w.heap.size,0,none⟩)])∧w'=w.alloc (.cells #[.map (some b)] 150):=by
 have hmf:∀ (fn:Fn) (first cap:Array Value) (w:World),(Instr.makeFunc fn first cap).run Tryz.prog w=.ok (.func fn first cap) w:=fun _ _ _ _=>rfl
 refine callsIn_of_wp Tryz.func90 rfl h7 ?_ hro;simp only[Tryz.ntmps90,List.size_toArray,List.length_cons,List.length_nil,Nat.reduceAdd,Nat.reduceSub,Array.replicate_succ,Array.replicate_zero,List.push_toArray,List.append_toArray,List.nil_append,List.cons_append]
 gi_wp2
 go_ret
 exact⟨rfl,rfl⟩
end T12
end Go.Proofs.YtihjgcibpfajkaaGreatDoor
namespace Go.Proofs
open Go.Shelf
def Tryz.lays189_ren:Go.Shelf.Ren:=⟨fun | 189=>91 | 125=>115 | 257=>114 | 128=>132 | 129=>133 | 294=>123 | 295=>124 | 296=>125 | 297=>126 | 298=>127 | 299=>128 | 216=>129 | 300=>130 | 301=>131 | 328=>141 | 329=>142 | 330=>143 | 331=>144 | 332=>145 | 215=>146 | 343=>153 | n=>n,fun | 28=>36 | 3=>3 | 46=>180 | 0=>0 | 51=>210 | 53=>212 | 4=>4 | 183=>203 | 182=>202 | 131=>51 | 5=>5 | 9=>9 | 218=>227 | 222=>182 | 228=>240 | 229=>241 | n=>n,fun | n=>n⟩
theorem Tryz.lays189:Go.Proofs.Lays.n189 Tryz.prog Tryz.lays189_ren:={
 mixed:=by kernel_rfl
 f125:=Tryz.func115.trans (congrArg some (by kernel_rfl))
 f128:=Tryz.func132.trans (congrArg some (by kernel_rfl))
 f129:=Tryz.func133.trans (congrArg some (by kernel_rfl))
 f189:=Tryz.func91.trans (congrArg some (by kernel_rfl))
 f215:=Tryz.func146.trans (congrArg some (by kernel_rfl))
 f216:=Tryz.func129.trans (congrArg some (by kernel_rfl))
 f257:=Tryz.func114.trans (congrArg some (by kernel_rfl))
 f294:=Tryz.func123.trans (congrArg some (by kernel_rfl))
 f295:=Tryz.func124.trans (congrArg some (by kernel_rfl))
 f296:=Tryz.func125.trans (congrArg some (by kernel_rfl))
 f297:=Tryz.func126.trans (congrArg some (by kernel_rfl))
 f298:=Tryz.func127.trans (congrArg some (by kernel_rfl))
 f299:=Tryz.func128.trans (congrArg some (by kernel_rfl))
 f300:=Tryz.func130.trans (congrArg some (by kernel_rfl))
 f301:=Tryz.func131.trans (congrArg some (by kernel_rfl))
 f328:=Tryz.func141.trans (congrArg some (by kernel_rfl))
 f329:=Tryz.func142.trans (congrArg some (by kernel_rfl))
 f330:=Tryz.func143.trans (congrArg some (by kernel_rfl))
 f331:=Tryz.func144.trans (congrArg some (by kernel_rfl))
 f332:=Tryz.func145.trans (congrArg some (by kernel_rfl))
 f343:=Tryz.func153.trans (congrArg some (by kernel_rfl))
 t0:=Tryz.underlying0
 a0:=Tryz.isAgg0
 z0:=Tryz.sizeOf0
 v0:=Tryz.zeroValue0
 t3:=Tryz.underlying3
 a3:=Tryz.isAgg3
 z3:=Tryz.sizeOf3
 v3:=Tryz.zeroValue3
 t4:=Tryz.underlying4
 a4:=Tryz.isAgg4
 z4:=Tryz.sizeOf4
 v4:=Tryz.zeroValue4
 t5:=Tryz.underlying5
 a5:=Tryz.isAgg5
 z5:=Tryz.sizeOf5
 v5:=Tryz.zeroValue5
 t9:=Tryz.underlying9
 a9:=Tryz.isAgg9
 z9:=Tryz.sizeOf9
 v9:=Tryz.zeroValue9
 t28:=Tryz.underlying36
 a28:=Tryz.isAgg36
 z28:=Tryz.sizeOf36
 v28:=Tryz.zeroValue36
 t46:=Tryz.underlying180
 a46:=Tryz.isAgg180
 z46:=Tryz.sizeOf180
 v46:=Tryz.zeroValue180
 t51:=Tryz.underlying210
 a51:=Tryz.isAgg210
 z51:=Tryz.sizeOf210
 v51:=Tryz.zeroValue210
 t53:=Tryz.underlying212
 a53:=Tryz.isAgg212
 z53:=Tryz.sizeOf212
 v53:=Tryz.zeroValue212
 t131:=Tryz.underlying51
 a131:=Tryz.isAgg51
 z131:=Tryz.sizeOf51
 v131:=Tryz.zeroValue51
 t182:=Tryz.underlying202
 a182:=Tryz.isAgg202
 z182:=Tryz.sizeOf202
 v182:=Tryz.zeroValue202
 t183:=Tryz.underlying203
 a183:=Tryz.isAgg203
 z183:=Tryz.sizeOf203
 v183:=Tryz.zeroValue203
 t218:=Tryz.underlying227
 a218:=Tryz.isAgg227
 z218:=Tryz.sizeOf227
 v218:=Tryz.zeroValue227
 t222:=Tryz.underlying182
 a222:=Tryz.isAgg182
 z222:=Tryz.sizeOf182
 v222:=Tryz.zeroValue182
 t228:=Tryz.underlying240
 a228:=Tryz.isAgg240
 z228:=Tryz.sizeOf240
 v228:=Tryz.zeroValue240
 t229:=Tryz.underlying241
 a229:=Tryz.isAgg241
 z229:=Tryz.sizeOf241
 v229:=Tryz.zeroValue241 }
open Go.Sort Go.RowKit in
theorem Tryz.slices_Sort_int(blk off cap:Nat)(zs:List Int)(w:World)(hH:Holds (Value.int .i64) w blk off zs.toArray)(hblk:blk<w.heap.size)(hsz:zs.length<4611686018427387904):
  Calls Tryz.prog 91 #[.slice (some ⟨blk,off,none⟩) zs.length cap] w fun e w' =>
   e=.returned (.tuple #[])∧∃ n os,w'=grow (putRow (Value.int .i64) (Sort.ahead w n) blk off (zs.mergeSort fun x y=>decide (x≤y)).toArray) os:=Any.slices_Sort_int Tryz.lays189 blk off cap zs w hH hblk hsz
open Go.RowKit Go.Sort in
theorem Tryz.slices_Sort_int_none(p:Option Addr)(cap:Nat)(w:World):
  Calls Tryz.prog 91 #[.slice p 0 cap] w fun e w'=>e=.returned (.tuple #[])∧w'=w:=Any.slices_Sort_int_none Tryz.lays189 p cap w
end Go.Proofs
