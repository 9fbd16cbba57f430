/-
  Nodes and lists of them: what the operations do. No condition, no walk.
  Appends of amounts to an empty row of the call's own. Condition: at most 1048576 amounts.
  slices.Clone of amounts; copies of nodes. Condition: at most 1048576 amounts.
  What the laws ask of the nodes' functions. No condition, no walk.
-/
import Derived.Test.YtcogiogjpbkeaaaGreatDoorJ0
import Derived.Test.YtcogiogjpbkeaaaGreatDoorJ21
import Derived.Test.YtcogiogjpbkeaaaGreatDoorJ8
namespace Go.Proofs.YtcogiogjpbkeaaaGreatDoor.T12
open Go.RowKit V12
structure NodeV where
 k:Int
 C:Nat->Int
 U:Nat->Int
def zn:NodeV:=⟨0,fun _=>0,fun _=>0⟩
def node(x:RnV):NodeV:=⟨x.k,x.C,x.U⟩
abbrev nkeys(L:List NodeV):List Int:=G.keys NodeV.k L
abbrev NSrt(L:List NodeV):Prop:=G.Srt NodeV.k L
def addC(L:List NodeV)(d:Nat)(s k:Int)(n:Nat)(Z:Nat->Int):Int:=if 0<=zak n Z d then 3 else if k∈nkeys L then 6 else if s<=L.length then 7 else 0
def addI(d:Nat)(n:Nat)(Z:Nat->Int):Int:=if 0<=zak n Z d then zak n Z d else 0
def addL(L:List NodeV)(d:Nat)(s k:Int)(n:Nat)(Z:Nat->Int):List NodeV:=if addC L d s k n Z=0 then G.ins NodeV.k ⟨k,Z,fun _=>0⟩ L else L
def chU(r:Bool)(U Z:Nat->Int)(j:Nat):Int:=if r=true then U j - Z j else U j+Z j
def chOk(d:Nat)(x:NodeV)(r:Bool)(Z:Nat->Int):Bool:=(List.range d).all fun j=>decide (0<=chU r x.U Z j)&&decide (chU r x.U Z j<=x.C j)
theorem zjg{d:Nat}{x:NodeV}{r:Bool}{Z:Nat->Int}:chOk d x r Z=true↔∀ j,j<d->0<=chU r x.U Z j/\chU r x.U Z j<=x.C j:=by
 unfold chOk;rw[List.all_eq_true];simp only[List.mem_range,Bool.and_eq_true,decide_eq_true_eq]
def chC(L:List NodeV)(d:Nat)(id:Int)(n:Nat)(Z:Nat->Int)(r:Bool):Int:=if id∉nkeys L then 5 else if 0<=zak n Z d then 3 else if chOk d (G.get NodeV.k zn L id) r Z=true then 0 else 10
def chL(L:List NodeV)(d:Nat)(id:Int)(n:Nat)(Z:Nat->Int)(r:Bool):List NodeV:=if chC L d id n Z r=0 then G.rep NodeV.k L ⟨id,(G.get NodeV.k zn L id).C,chU r (G.get NodeV.k zn L id).U Z⟩ else L
structure NodeOk(d:Nat)(x:NodeV):Prop where
 k:I64 x.k
 lo:∀ j,j<d->0<=x.U j
 hi:∀ j,j<d->x.U j<=x.C j
 max:∀ j,j<d->x.C j<=1099511627776
theorem wrong_no{n:Nat}{Z:Nat->Int}{d:Nat}(h:¬0<=zak n Z d):n=d/\∀ j,j<n->0<=Z j/\Z j<=1099511627776:=by
 rcases zpt n Z with ⟨k,hk,hb,hj⟩ | hg
 ·rw[zgc hk hb hj] at h
  omega
 ·rw[zeb hg] at h
  refine⟨?_,fun j hj=>zlr (hg j hj)⟩
  by_cases e:(n:Int)=(d:Int)
  ·omega
  ·rw[if_neg e] at h
   omega
structure NIs(w:World)(d:Nat)(x:RnV):Prop where
 n:x.n=d
 m:x.m=d
 rc:Rd w x.A d x.C
 ru:Rd w x.B d x.U
 na:x.A=none->x.n=0/\x.c=0
 nb:x.B=none->x.m=0/\x.d=0
theorem NIs.keep{w w':World}{d:Nat}{x:RnV}(h:NIs w d x)(k:Keep w w'):NIs w' d x:=⟨h.n,h.m,h.rc.keep k,h.ru.keep k,h.na,h.nb⟩
def Typ(w:World)(b:Nat)(T:TypeId):Prop:=∃ cs loc,w.heap[b]?=some (.cells cs T loc)
theorem Typ.lt{w:World}{b:Nat}{T:TypeId}(h:Typ w b T):b<w.heap.size:=by
 obtain⟨cs,loc,e⟩:=h;exact(Array.getElem?_eq_some_iff.1 e).1
theorem Typ.same{w w':World}{b:Nat}{T:TypeId}(h:Typ w b T)(e:w'.heap[b]?=w.heap[b]?):Typ w' b T:=by
 obtain⟨cs,loc,h⟩:=h;exact⟨cs,loc,e.trans h⟩
theorem Typ.keep{w w':World}{b:Nat}{T:TypeId}(h:Typ w b T)(k:Keep w w'):Typ w' b T:=by
 obtain⟨cs,loc,h⟩:=h;exact⟨cs,loc,k.block h⟩
theorem Typ.set{w:World}{b:Nat}{T:TypeId}(h:Typ w b T)(p:Addr)(u:Value):Typ (w.setCell p u) b T:=by
 by_cases e:b=p.block
 ·subst e
  have hlt:=h.lt;obtain⟨cs,loc,h⟩:=h;have h':w.heap[p.block]=.cells cs T loc:=by simpa [Array.getElem?_eq_getElem hlt] using h
  refine⟨if p.spot.isSome then cs else cs.setIfInBounds p.off u,loc,?_⟩
  show(w.heap.modify p.block _)[p.block]?=_
  rw[Array.getElem?_eq_getElem (by simpa using hlt),Array.getElem_modify_self,h']
 ·exact h.same (Below.heap_setCell _ _ _ _ e)
theorem zqt{w:World}{base n z c:Nat}{T:TypeId}{A:Option Addr}{xs:List Value}(h:w.ownsRow base T z (.slice A n c) n xs):∀ b off,A=some ⟨b,off,none⟩->Typ w b T:=by
 intro b off e;subst e;rcases h.2 with ⟨hv,_⟩ | ⟨g,cap,cur,hv,_,k1,_⟩
 ·cases hv
 ·simp only[Value.slice.injEq,Option.some.injEq,Addr.mk.injEq] at hv
  rw[hv.1.1];exact⟨cur,(0,0),k1⟩
theorem map_ins(x:RnV):∀ L:List RnV,(zbc x L).map node=G.ins NodeV.k (node x) (L.map node)
 | []=>rfl
 | y :: L=>by
   unfold zbc;simp only[List.map_cons,G.ins,zcs]
   by_cases h:x.k<y.k
   ·rw[if_pos h,if_pos (by exact h)];rfl
   ·rw[if_neg h,if_neg (by exact h),List.map_cons,map_ins x L]
theorem map_keys(L:List RnV):nkeys (L.map node)=keys L:=by
 unfold nkeys G.keys keys;rw[List.map_map];rfl
theorem map_srt{L:List RnV}:NSrt (L.map node)↔Srt L:=by
 unfold NSrt;rw[G.srt_keys];show(nkeys (L.map node)).Pairwise _↔_
 rw[map_keys,srt_keys]
end Go.Proofs.YtcogiogjpbkeaaaGreatDoor.T12
namespace Go.Proofs.YtcogiogjpbkeaaaGreatDoor.T12
open Go.RowKit Go.Sort Go.Lib V12
theorem Tryz.infoN12:(Tryz.prog.info? 2).map (fun i=>(i.zero,i.size,i.bytes))=some (some (.int .i64 0),1,8):=by kernel_rfl
theorem zjw(n:Nat)(Z:Nat->Int):∀ u∈zba n Z,u.oneCell'=true:=by
 intro u hu;simp only[zba,List.mem_map] at hu;obtain⟨k,_,rfl⟩:=hu;rfl
theorem zma{w:World}{a:Addr}{n:Nat}{Z:Nat->Int}(h:Rd w (some a) n Z):∀ j u,(zba n Z)[j]?=some u->w.cell? (a.add j)=some u:=by
 intro j u hu;have hj:j<n:=by
  have:=(List.getElem?_eq_some_iff.1 hu).1
  simpa [zba] using this
 obtain⟨b,off,e,hc⟩:=h.adr (by omega)
 obtain rfl:=Option.some.inj e;rw[WideShapes.add_plain,hc j hj]
 simpa [zba,hj] using hu
theorem znj{w:World}{base n cap:Nat}{A:Option Addr}{D:Nat->Int}(h:w.ownsRow base 2 1 (.slice A n cap) n (zba n D))(hn:n<=9223372036854775807)(hr:∀ k,k<n->-9223372036854775808<=D k/\D k<=9223372036854775807):Rd w A n D:=by
 rcases h.2 with ⟨e,rfl⟩ | ⟨g,cap,cur,e,_⟩
 ·exact Rd.nil _ _ _
 ·simp only[Value.slice.injEq] at e
  obtain⟨rfl,_,_⟩:=e;refine⟨hn,hr,fun _=>⟨g,0,rfl,fun j hj=>?_⟩⟩
  have:=h.cells (g:=g) rfl j (.int .i64 (D j)) (by simp[zba,hj])
  rwa [WideShapes.add_plain] at this
section
variable{ops:Array Oper}{rest:List Oper}{o:Oper}{a:Act}{w:World}{K:Act->World->Prop}{Q:Exit->Act->World->Prop}{E:Prop}
end
end Go.Proofs.YtcogiogjpbkeaaaGreatDoor.T12
namespace Go.Proofs.YtcogiogjpbkeaaaGreatDoor.T12
open Go.RowKit Go.Sort Go.Lib V12
def New(w w':World)(A:Option Addr)(n:Nat):Prop:=0<n->∃ b off,A=some ⟨b,off,none⟩/\w.heap.size<=b/\∀ j,j<n->w'.frozen? ⟨b,off+j,none⟩=false
structure Row(w w':World)(A:Option Addr)(n c:Nat)(Z:Nat->Int):Prop where
 rd:Rd w' A n Z
 nil:A=none->n=0/\c=0
 new:New w w' A n
 ty:0<n->∀ b o,A=some ⟨b,o,none⟩->Typ w' b 2
theorem Row.keep{w w' w2:World}{A:Option Addr}{n c:Nat}{Z:Nat->Int}(h:Row w w' A n c Z)(k:Keep w' w2):Row w w2 A n c Z :=
 ⟨h.rd.keep k,h.nil,fun hn=>by
  obtain⟨b,off,e,hb,hf⟩:=h.new hn;obtain⟨b',off',e',hc⟩:=h.rd.adr hn;rw[e] at e';have e2:=Option.some.inj e';simp only[Addr.mk.injEq,and_true] at e2;obtain⟨rfl,rfl⟩:=e2;refine⟨b,off,e,hb,fun j hj=>?_⟩
  rw[Below.frozen k (p:=⟨b,off+j,none⟩) (zbl (hc j hj))]
  exact hf j hj,fun hn b o e=>(h.ty hn b o e).keep k⟩
theorem New.low{w w1 w':World}{A:Option Addr}{n:Nat}(h:New w1 w' A n)(hs:w.heap.size<=w1.heap.size):New w w' A n:=fun hn=>by
 obtain⟨b,off,e,hb,hf⟩:=h hn;exact⟨b,off,e,Nat.le_trans hs hb,hf⟩
theorem Row.low{w w1 w':World}{A:Option Addr}{n c:Nat}{Z:Nat->Int}(h:Row w1 w' A n c Z)(hs:w.heap.size<=w1.heap.size):Row w w' A n c Z:=⟨h.rd,h.nil,h.new.low hs,h.ty⟩
theorem ahw{w w':World}{n c:Nat}{A:Option Addr}{Z:Nat->Int}(h:w'.ownsRow w.heap.size 2 1 (.slice A n c) n (zba n Z))(hn:n<=1048576)(hr:∀ k,k<n->-9223372036854775808<=Z k/\Z k<=9223372036854775807):Row w w' A n c Z:=by
 refine⟨znj h (by omega) hr,fun e=>?_,fun hp=>?_,fun _ b o e=>zqt h b o e⟩
 ·obtain⟨A',c',e',h'⟩:=zan h
  simp only[Value.slice.injEq] at e';obtain⟨rfl,_,rfl⟩:=e';exact h' e
 ·rcases h.2 with ⟨hv,h0⟩ | ⟨g,cap,cur,hv,hb,k1,_⟩
  ·omega
  ·simp only[Value.slice.injEq] at hv
   exact⟨g,0,hv.1,hb,fun j _=>frozen_of_row w' g _ _ _ k1⟩
theorem acy{w w':World}{n b:Nat}{Z:Nat->Int}(h:w'.rowIs b 2 n (fun k=>.int .i64 (Z k)))(hb:w.heap.size<=b)(hn:n<=1048576)(hr:∀ k,k<n->-9223372036854775808<=Z k/\Z k<=9223372036854775807):Row w w' (some ⟨b,0,none⟩) n n Z:=by
 obtain⟨c,hc,_⟩:=id h;refine⟨zhr h (by omega) hr,(fun e=>by cases e),fun hp=>⟨b,0,rfl,hb,fun j _=>?_⟩,fun _ b2 o e=>?_⟩
 ·exact frozen_of_row w' b _ _ _ hc
 ·simp only[Option.some.injEq,Addr.mk.injEq,and_true] at e
  rw[<- e.1];exact⟨c,_,hc⟩
theorem Tryz.eqNil(w:World):(binOp .eql 24 (.slice none 0 0) (.slice none 0 0)).run Tryz.prog w=.ok (.bool true) w:=by kernel_rfl
theorem Tryz.eqSome(a:Addr)(n c:Nat)(w:World):(binOp .eql 24 (.slice (some a) n c) (.slice none 0 0)).run Tryz.prog w=.ok (.bool false) w:=by kernel_rfl
set_option maxHeartbeats 1000000 in
theorem zfr(A:Option Addr)(n c:Nat)(Z:Nat->Int)(w:World)(hA:Rd w A n Z)(h0:A=none->n=0/\c=0)(hn:n<=1048576):
  Calls Tryz.prog 113 #[.slice A n c] w fun e w'=>∃ A' cap,e=.returned (.slice A' n cap)/\Keep w w'/\w'.ownsRow w.heap.size 2 1 (.slice A' n cap) n (zba n Z):=by
 cases A with
 | none =>
   obtain⟨rfl,rfl⟩:=h0 rfl;clear h0 hA;have q1:=Tryz.eqNil
   go_enter Tryz.func113,Tryz.ntmps113
   go_wp2;go_ret
   exact⟨none,0,rfl,Keep.refl _,World.ownsRow_nil _ _ _ _⟩
 | some a =>
   clear h0;obtain⟨i0,hi0,hz0,hz1,hz2⟩:=info_parts Tryz.infoN12;have hnew:=zma (hA.keep (Keep.one w (.cells #[] 2)));replace hnew:=Zq hnew;have hown:=World.ownsRow_made (base:=w.heap.size) (e:=2) (size:=1) w #[] 0 (Nat.le_refl _) (Nat.zero_le _) rfl;clear hA;have q1:=Tryz.eqSome
   go_enter Tryz.func113,Tryz.ntmps113
   go_wp2_with (at_builtin;refine wpList_append_own _ rfl _ _ 24 rfl w.heap.size 2 i0 (.int .i64 0) 1 8 Tryz.underlying24 hi0 hz0 hz1 hz2 rfl (by decide) _ _ _ rfl hown a n c (zba n Z) rfl (by simp[zba]) hnew.out (zjw n Z) (by unfold maxLen;omega) (by omega) (by simp) ?_;intro v' w2 hown2 hgrow hnil)
   go_ret
   obtain⟨A',cap,rfl,_⟩:=zan hown2;simp only[Nat.zero_add,List.nil_append] at hown2;exact⟨A',cap,by simp,zad (Keep.one w _) hgrow (fun q hq=>(hown.lt q hq).1),hown2⟩
theorem zze(A:Option Addr)(n c:Nat)(Z:Nat->Int)(w:World)(hA:Rd w A n Z)(h0:A=none->n=0/\c=0)(hn:n<=1048576):
  Calls Tryz.prog 113 #[.slice A n c] w fun e w'=>∃ A' c',e=.returned (.slice A' n c')/\Row w w' A' n c' Z/\Keep w w' :=
 (zfr A n c Z w hA h0 hn).mono fun _ _ ⟨A',c',he,k,o⟩=>⟨A',c',he,ahw o hn hA.range,k⟩
theorem cel2{w:World}{s:Nat}{p q:Value}{T:TypeId}(h:w.heap[s]?=some (.cells #[p,q] T (0,0))):w.cell? ⟨s,0,none⟩=some p/\w.cell? ⟨s,1,none⟩=some q/\∀ i,w.frozen? ⟨s,i,none⟩=false:=by
 refine⟨?_,?_,fun i=>frozen_of_row w s i _ _ h⟩<;>rw[cell_of_row w s _ _ _ _ h]<;>rfl
theorem two_set{w:World}{s:Nat}{p q a b:Value}{T:TypeId}(h:w.heap[s]?=some (.cells #[p,q] T (0,0))):((w.setCell ⟨s,0,none⟩ a).setCell ⟨s,1,none⟩ b).heap[s]?=some (.cells #[a,b] T (0,0)):=by
 have step:∀ {W:World} {p q u:Value},W.heap[s]?=some (.cells #[p,q] T (0,0))->(W.setCell ⟨s,0,none⟩ u).heap[s]?=some (.cells #[u,q] T (0,0))/\(W.setCell ⟨s,1,none⟩ u).heap[s]?=some (.cells #[p,u] T (0,0)):=by
  intro W p q u h;have hlt:=(Array.getElem?_eq_some_iff.1 h).1;have h':W.heap[s]=.cells #[p,q] T (0,0):=by simpa [Array.getElem?_eq_getElem hlt] using h
  refine⟨?_,?_⟩
  all_goals
   show(W.heap.modify s _)[s]?=_
   rw[Array.getElem?_eq_getElem (by simpa using hlt),Array.getElem_modify_self,h']
   rfl
 exact(step (step h).1).2
theorem zpj{w:World}{s b i:Nat}{u v:Value}(h:b≠s):((w.setCell ⟨s,0,none⟩ u).setCell ⟨s,1,none⟩ v).cell? ⟨b,i,none⟩=w.cell? ⟨b,i,none⟩:=by
 refine World.cell?_of_block (w:=w) ?_;rw[Below.heap_setCell _ _ _ _ h,Below.heap_setCell _ _ _ _ h]
theorem two_fr{w:World}{s:Nat}{u v:Value}:Fr (fun k=>k=s) w ((w.setCell ⟨s,0,none⟩ u).setCell ⟨s,1,none⟩ v):=
 (Fr.set (D:=fun k=>k=s) (p:=⟨s,0,none⟩) (Fr.refl _ _) (by left;rfl) _).set (p:=⟨s,1,none⟩) (by left;rfl) _
theorem two_keep{w0 w:World}{s:Nat}{u v:Value}(k:Keep w0 w)(h:w0.heap.size<=s):Keep w0 ((w.setCell ⟨s,0,none⟩ u).setCell ⟨s,1,none⟩ v):=Keep.set (Keep.set k (p:=⟨s,0,none⟩) h _) (p:=⟨s,1,none⟩) h _
theorem Row.fr{w w' w2:World}{D:Nat->Prop}{A:Option Addr}{n c:Nat}{Z:Nat->Int}(h:Row w w' A n c Z)(f:Fr D w' w2)(hD:∀ b o,A=some ⟨b,o,none⟩->0<n->¬D b):Row w w2 A n c Z:=by
 refine⟨⟨h.rd.small,h.rd.range,fun hn=>?_⟩,h.nil,fun hn=>?_,fun hn b o e=>(h.ty hn b o e).same (f.block b (h.ty hn b o e).lt (hD b o e hn))⟩
 ·obtain⟨b,off,e,hc⟩:=h.rd.adr hn
  exact⟨b,off,e,fun j hj=>f.cell (hc j hj) (hD b off e hn)⟩
 ·obtain⟨b,off,e,hb,hf⟩:=h.new hn
  obtain⟨b',off',e',hc⟩:=h.rd.adr hn;rw[e] at e';have e2:=Option.some.inj e';simp only[Addr.mk.injEq,and_true] at e2;obtain⟨rfl,rfl⟩:=e2;refine⟨b,off,e,hb,fun j hj=>?_⟩
  have:=f.block b (zbl (hc j hj)) (hD b off e hn);rw[show w2.frozen? ⟨b,off+j,none⟩=w'.frozen? ⟨b,off+j,none⟩ by simp only[World.frozen?,this]]
  exact hf j hj
set_option maxRecDepth 100000 in
set_option maxHeartbeats 4000000 in
theorem zrl(k:Int)(A:Option Addr)(n c:Nat)(Z:Nat->Int)(w:World)(hA:Rd w A n Z)(h0:A=none->n=0/\c=0)(hn:n<=1048576):
  Calls Tryz.prog 92 #[.agg #[.int .i64 k,.slice A n c]] w fun e w'=>∃ A' c',e=.returned (.agg #[.int .i64 k,.slice A' n c'])/\Row w w' A' n c' Z/\Keep w w':=by
 obtain⟨W,hW⟩:=Zn ((w.alloc (.cells #[.int .i64 k,.slice A n c] 56)).alloc (.cells #[.int .i64 0,.slice none 0 0] 56));obtain⟨b,hb⟩:=Zn (w.heap.size);obtain⟨r,hr⟩:=Zn (w.heap.size+1);have KW:Hid (Keep w W):=by rw[hW];exact(Keep.one _ _).alloc _
 have X:W.heap[b]?=some (.cells #[.int .i64 k,.slice A n c] 56 (0,0)):=by rw[hW,hb];exact(Keep.one _ _).block (heap_alloc_new _ _)
 have Y:Hid (W.heap[r]?=some (.cells #[.int .i64 0,.slice none 0 0] 56 (0,0))):=by
  rw[hW,hr];have:=heap_alloc_new (w.alloc (.cells #[.int .i64 k,.slice A n c] 56)) (.cells #[.int .i64 0,.slice none 0 0] 56)
  rwa [World.size_alloc] at this
 obtain⟨x0,x1,_⟩:=cel2 X;have hsz:Hid (W.heap.size=r+1):=by show _=_;rw[hW,World.size_alloc,World.size_alloc,hr]
 have cK:Hid (∀ W',Keep W W'->Calls Tryz.prog 113 #[.slice A n c] W' fun e w4=>∃ A4 c4,e=.returned (.slice A4 n c4)/\Hid (Row W w4 A4 n c4 Z)/\Hid (Keep W w4)/\w4.cell? ⟨r,0,none⟩=some (.int .i64 0)/\w4.cell? ⟨r,1,none⟩=some (.slice none 0 0)/\∀ i,w4.frozen? ⟨r,i,none⟩=false):=fun W' k1 =>
  (zze A n c Z W' (hA.keep (KW.out.trans k1)) h0 hn).mono fun e w4 ⟨A4,c4,he,R4,k4⟩=>by
   have K:=k1.trans k4;obtain⟨y0,y1,yf⟩:=cel2 (K.block Y.out);exact⟨A4,c4,he,R4.low k1.size,K,y0,y1,yf⟩
 have nb:b≠r:=by omega
 have hwr:Hid (w.heap.size<=r):=by show _<=_;omega
 clear hA h0;replace X:=Zq X
 go_enter Tryz.func92,Tryz.ntmps92
 go_wp2_with fail;rw[<- hW];rw[<- hr,<- hb];replace hW:=Zq hW;replace hb:=Zq hb;replace hr:=Zq hr;have HELD:∀ Wz,Keep W Wz->(Wz.cell? ⟨b,0,none⟩=some (.int .i64 k)/\Wz.cell? ⟨b,1,none⟩=some (.slice A n c)):=fun Wz KK=>⟨KK.cell x0,KK.cell x1⟩
 refine wp_region_held_drew (S:=fun w'=>w'.cell? ⟨b,0,none⟩=some (.int .i64 k)/\w'.cell? ⟨b,1,none⟩=some (.slice A n c)) (by kernel_rfl) ?_ (fun hHeld=>?_)
 ·exact HELD _ (by repeat (with_reducible first | exact Keep.refl W | apply Keep.alloc | apply Keep.drew | apply Keep.drewN))
 refine Zt 0 (.pointer (some ⟨b,0,none⟩)) hHeld ?_
 simp only[Act.put,Zp];refine Zt 1 (.int .i64 k) hHeld ?_
 simp only[Act.put,Zp];refine Zt 2 (.pointer (some ⟨b,1,none⟩)) hHeld ?_
 simp only[Act.put,Zp];refine Zt 3 (.slice A n c) hHeld ?_
 simp only[Act.put,Zp];refine wpAnyH_ready (rs:=[4]) (by kernel_rfl) (by simp) ?_
 refine AllReadyH.cons rfl (fun K hK=>?_) AllReadyH.nil
 simp only[Zp];rw[if_pos (by rfl)]
 go_simp
 refine(cK.out _ (by repeat (with_reducible first | exact Keep.refl W | apply Keep.alloc | apply Keep.drew | apply Keep.drewN))).mono ?_
 rintro e w4 ⟨A4,c4,rfl,R4,K4,d0,d1,g4⟩;go_wp2_with fail;refine hK.out _ _ ?_ (fun hHeld=>?_)
 ·exact HELD _ K4.out
 clear hK K;try simp only[Act.put,Zp]
 refine Zt 5 (.agg #[.int .i64 k,.slice A4 n c4]) hHeld ?_
 simp only[Act.put,Zp];refine wpAnyH_ready (rs:=[6]) (by kernel_rfl) (by simp) ?_
 refine AllReadyH.cons rfl (fun K hK=>?_) AllReadyH.nil
 simp only[Zp];rw[if_pos (by rfl)]
 go_simp
 refine hK.out _ _ ?_ (fun hHeld=>?_)
 ·exact⟨(zpj (by omega)).trans (K4.out.cell x0),(zpj (by omega)).trans (K4.out.cell x1)⟩
 clear hK K;try simp only[Act.put,Zp]
 refine wpAnyH_done (by kernel_rfl) ?_ _
 have B5:Hid (((w4.setCell ⟨r,0,none⟩ (.int .i64 k)).setCell ⟨r,1,none⟩ (.slice A4 n c4)).heap[r]?=some (.cells #[.int .i64 k,.slice A4 n c4] 56 (0,0))):=two_set (K4.out.block Y.out);have K5:Hid (Keep w ((w4.setCell ⟨r,0,none⟩ (.int .i64 k)).setCell ⟨r,1,none⟩ (.slice A4 n c4))):=two_keep (KW.out.trans K4.out) hwr.out
 have R5:Hid (Row w ((w4.setCell ⟨r,0,none⟩ (.int .i64 k)).setCell ⟨r,1,none⟩ (.slice A4 n c4)) A4 n c4 Z):=(R4.out.fr two_fr fun b o e hp hd=>by
  obtain⟨b',o',e',hb',_⟩:=R4.out.new hp;rw[e] at e';have e2:=Option.some.inj e';simp only[Addr.mk.injEq,and_true] at e2;have:=hsz.out
  omega).low KW.out.size
 go_wp2;obtain⟨e0,e1,_⟩:=cel2 B5.out;refine bodyPost_ret (v:=.agg #[.int .i64 k,.slice A4 n c4]) (by simp[results,Tryz.results92,go_sem,e0,e1]) rfl ⟨A4,c4,rfl,R5.out,K5.out⟩
end Go.Proofs.YtcogiogjpbkeaaaGreatDoor.T12
namespace Go.Proofs.YtcogiogjpbkeaaaGreatDoor.T12
open Go.RowKit Go.Sort Go.Lib V12
def flt(c n:Int):Value:=(Base.fault c n).val
def fltC(c n:Int):Value:=if c=0 then .nilIface else flt c n
structure FrS(D:Nat->Prop)(w w':World):Prop where
 fr:Fr D w w'
 int:∀ b o k i,w.cell? ⟨b,o,none⟩=some (.int k i)->w'.cell? ⟨b,o,none⟩=some (.int k i)
theorem FrS.of{D:Nat->Prop}{w w':World}(k:Keep w w'):FrS D w w':=⟨Fr.of k,fun _ _ _ _ h=>k.cell h⟩
theorem FrS.keep{D:Nat->Prop}{a b c:World}(f:FrS D a b)(k:Keep b c):FrS D a c:=⟨f.fr.keep k,fun _ _ _ _ h=>k.cell (f.int _ _ _ _ h)⟩
theorem FrS.after{D:Nat->Prop}{a b c:World}(k:Keep a b)(f:FrS D b c):FrS D a c:=⟨Fr.after k f.fr,fun _ _ _ _ h=>f.int _ _ _ _ (k.cell h)⟩
theorem FrS.rd{D:Nat->Prop}{w w':World}(f:FrS D w w'){A:Option Addr}{n:Nat}{Z:Nat->Int}(g:Rd w A n Z):Rd w' A n Z :=
 ⟨g.small,g.range,fun hn=>by
  obtain⟨b,off,e,hc⟩:=g.adr hn
  exact⟨b,off,e,fun j hj=>f.int _ _ _ _ (hc j hj)⟩⟩
def nget(L:List NodeV)(id:Int):NodeV:=G.get NodeV.k zn L id
section
variable{SI:World->Nat->Int->Nat->(Nat->Prop)->List NodeV->Prop}{w w':World}{d:Nat}{s:Int}{q:Nat}{D:Nat->Prop}{L:List NodeV}
end
end Go.Proofs.YtcogiogjpbkeaaaGreatDoor.T12
