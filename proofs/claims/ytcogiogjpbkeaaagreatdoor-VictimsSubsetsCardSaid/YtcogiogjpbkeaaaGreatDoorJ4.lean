/-
  Pods as values, rows of pods of the call's own; worlds that have only drawn and grown; frames. No condition.
-/
import Derived.Test.YtcogiogjpbkeaaaGreatDoorJ0
import Derived.Test.YtcogiogjpbkeaaaGreatDoorJ3
import Derived.Laws.AppendOwnNone
import Derived.Laws.OwnMore
import Derived.Laws.Rows
import Derived.OwnWalk
import Derived.Deep.DeepAppendRoom
import Derived.Deep.RegionLaw
import Derived.Deep.Cut
import Derived.Shelf.SlSortCmp.KitK
namespace Go.Proofs.YtcogiogjpbkeaaaGreatDoor.T13
open Go.RowKit Go.Sort Go.Lib V12
def I64(x:Int):Prop:=-9223372036854775808<=x/\x<=9223372036854775807
structure zaa where
 k:Int
 p:Int
 f:Bool
 g:Int
 A:Option Addr
 m:Nat
 c:Nat
 Z:Nat->Int
 a:Int
 h:Int
 d:Int
 t:Int
namespace zaa
def cells(x:zaa):List Value:=[.int .i64 x.k,.int .i64 x.p,.bool x.f,.int .i64 x.g,.slice x.A x.m x.c,.int .i64 x.a,.int .i64 x.h,.int .i64 x.d,.int .i64 x.t]
def val(x:zaa):Value:=.agg #[.int .i64 x.k,.int .i64 x.p,.bool x.f,.int .i64 x.g,.slice x.A x.m x.c,.int .i64 x.a,.int .i64 x.h,.int .i64 x.d,.int .i64 x.t]
end zaa
structure zah(w:World)(x:zaa):Prop where
 rd:Rd w x.A x.m x.Z
 nil:x.A=none->x.m=0/\x.c=0
 rng:I64 x.k/\I64 x.p/\I64 x.g/\I64 x.a/\I64 x.h/\I64 x.d/\I64 x.t
theorem zah.keep{w w':World}{x:zaa}(h:zah w x)(k:Keep w w'):zah w' x:=⟨h.rd.keep k,h.nil,h.rng⟩
structure zcr(w:World)(b o:Nat)(x:zaa):Prop where
 e0:w.cell? ⟨b,o,none⟩=some (.int .i64 x.k)
 e1:w.cell? ⟨b,o+1,none⟩=some (.int .i64 x.p)
 e2:w.cell? ⟨b,o+2,none⟩=some (.bool x.f)
 e3:w.cell? ⟨b,o+3,none⟩=some (.int .i64 x.g)
 e4:w.cell? ⟨b,o+4,none⟩=some (.slice x.A x.m x.c)
 e5:w.cell? ⟨b,o+5,none⟩=some (.int .i64 x.a)
 e6:w.cell? ⟨b,o+6,none⟩=some (.int .i64 x.h)
 e7:w.cell? ⟨b,o+7,none⟩=some (.int .i64 x.d)
 e8:w.cell? ⟨b,o+8,none⟩=some (.int .i64 x.t)
theorem zcr.keep{w w':World}{b o:Nat}{x:zaa}(h:zcr w b o x)(k:Keep w w'):zcr w' b o x :=
 ⟨k.cell h.e0,k.cell h.e1,k.cell h.e2,k.cell h.e3,k.cell h.e4,k.cell h.e5,k.cell h.e6,k.cell h.e7,k.cell h.e8⟩
theorem zcr.new(w:World)(x:zaa)(T:TypeId)(cs:Array Value)(h:cs=#[.int .i64 x.k,.int .i64 x.p,.bool x.f,.int .i64 x.g,.slice x.A x.m x.c,.int .i64 x.a,.int .i64 x.h,.int .i64 x.d,.int .i64 x.t]):zcr (w.alloc (.cells cs T)) w.heap.size 0 x:=by
 subst h;constructor<;>simp[World.cell?_alloc_new]
def zaa.at(x:zaa)(A:Option Addr)(c:Nat):zaa:={ x with A:=A,c:=c }
def Gr(w w':World):Prop:=∃ q os,w'=grow (w.drewN q) os
theorem Gr.refl(w:World):Gr w w:=⟨0,#[],by rw[grow_empty];rfl⟩
theorem Gr.trans{a b c:World}(h:Gr a b)(k:Gr b c):Gr a c:=by
 obtain⟨q,os,rfl⟩:=h;obtain⟨r,ot,rfl⟩:=k;exact⟨q+r,os++ot,by show grow (grow ((a.drewN q).drewN r) os) ot=_;rw[grow_grow,World.drewN_drewN]⟩
theorem Gr.alloc{a b:World}(h:Gr a b)(o:Obj):Gr a (b.alloc o):=h.trans ⟨0,#[o],by rw[alloc_eq_grow];rfl⟩
theorem Gr.one(w:World)(o:Obj):Gr w (w.alloc o):=(Gr.refl w).alloc o
theorem Gr.drew{a b:World}(h:Gr a b):Gr a b.drew:=h.trans ⟨1,#[],by rw[grow_empty];rfl⟩
theorem Gr.drewN{a b:World}(h:Gr a b)(q:Nat):Gr a (b.drewN q):=h.trans ⟨q,#[],by rw[grow_empty]⟩
theorem Gr.keep{w w':World}(h:Gr w w'):Keep w w':=by
 obtain⟨q,os,rfl⟩:=h;refine⟨rfl,rfl,rfl,by rw[size_grow];exact Nat.le_add_right _ _,fun k hk=>heap_grow_old _ _ hk⟩
theorem Gr.cell{w w':World}{a:Addr}{v:Value}(h:Gr w w')(hc:w.cell? a=some v):w'.cell? a=some v:=h.keep.cell hc
theorem grows{w:World}{a:Addr}{v:Value}(h:w.cell? a=some v)(n:Nat)(os:Array Obj):(grow (w.drewN n) os).cell? a=some v:=(Gr.keep ⟨n,os,rfl⟩).cell h
structure Fr(D:Nat->Prop)(w w':World):Prop where
 os:w'.os=w.os
 tape:w'.tape=w.tape
 output:w'.output=w.output
 size:w.heap.size<=w'.heap.size
 block:∀ k,k<w.heap.size->¬D k->w'.heap[k]?=w.heap[k]?
theorem Fr.refl(D:Nat->Prop)(w:World):Fr D w w:=⟨rfl,rfl,rfl,Nat.le_refl _,fun _ _ _=>rfl⟩
theorem Fr.of{D:Nat->Prop}{w w':World}(h:Keep w w'):Fr D w w':=⟨h.os,h.tape,h.output,h.size,fun k hk _=>Below.block h k hk⟩
theorem Fr.trans{D D':Nat->Prop}{a b c:World}(h:Fr D a b)(k:Fr D' b c)(hD:∀ i,D' i->D i\/a.heap.size<=i):Fr D a c :=
 ⟨k.os.trans h.os,k.tape.trans h.tape,k.output.trans h.output,Nat.le_trans h.size k.size,fun i hi hn=>(k.block i (Nat.lt_of_lt_of_le hi h.size) (fun hd=>(hD i hd).elim hn (fun h1=>absurd h1 (by omega)))).trans (h.block i hi hn)⟩
theorem Fr.same{D:Nat->Prop}{a b c:World}(h:Fr D a b)(k:Fr D b c):Fr D a c:=h.trans k fun _ h=>Or.inl h
theorem Fr.keep{D:Nat->Prop}{a b c:World}(h:Fr D a b)(k:Keep b c):Fr D a c:=h.same (Fr.of k)
theorem Fr.after{D:Nat->Prop}{a b c:World}(h:Keep a b)(k:Fr D b c):Fr D a c:=(Fr.of h).same k
theorem Fr.low{D:Nat->Prop}{w0 w w':World}(h:Keep w0 w)(k:Fr D w w')(hD:∀ i,D i->w0.heap.size<=i):Keep w0 w' :=
 ⟨k.os.trans h.os,k.tape.trans h.tape,k.output.trans h.output,Nat.le_trans h.size k.size,fun i hi=>(k.block i (Nat.lt_of_lt_of_le hi h.size) (fun hd=>by have:=hD i hd;omega)).trans (Below.block h i hi)⟩
theorem Fr.cell{D:Nat->Prop}{w w':World}(h:Fr D w w'){a:Addr}{v:Value}(hc:w.cell? a=some v)(hn:¬D a.block):w'.cell? a=some v:=by
 rw[World.cell?_of_block (w:=w) (h.block _ (zbl hc) hn)];exact hc
theorem Fr.grown{D:Nat->Prop}{w w':World}{row:Option Nat}(hg:w.grownBy w' row)(hr:∀ g,row=some g->D g\/w.heap.size<=g):Fr D w w' :=
 ⟨hg.os,hg.tape,hg.output,hg.size,fun k hk hn=>hg.block k hk (fun e=>(hr k e.symm).elim hn (fun h=>absurd h (by omega)))⟩
theorem Fr.set{D:Nat->Prop}{a b:World}(h:Fr D a b){p:Addr}(hp:D p.block\/a.heap.size<=p.block)(u:Value):Fr D a (b.setCell p u):=
 ⟨h.os,h.tape,h.output,by rw[show(b.setCell p u).heap.size=b.heap.size by simp];exact h.size,fun k hk hn=>by
  rw[Below.heap_setCell b p u k (fun e=>hp.elim (fun h=>hn (by rw[e];exact h)) (fun h=>absurd h (by omega)))];exact h.block k hk hn⟩
theorem Fr.drewN{D:Nat->Prop}{a b:World}(h:Fr D a b)(q:Nat):Fr D a (b.drewN q):=⟨h.os,h.tape,h.output,h.size,h.block⟩
theorem Fr.drew{D:Nat->Prop}{a b:World}(h:Fr D a b):Fr D a b.drew:=⟨h.os,h.tape,h.output,h.size,h.block⟩
theorem Fr.alloc{D:Nat->Prop}{a b:World}(h:Fr D a b)(o:Obj):Fr D a (b.alloc o):=h.keep (Keep.one _ _)
theorem Fr.less{D E:Nat->Prop}{a b:World}(h:Fr D a b)(hD:∀ i,D i->E i):Fr E a b:=⟨h.os,h.tape,h.output,h.size,fun k hk hn=>h.block k hk fun hd=>hn (hD k hd)⟩
def Typ(w:World)(b:Nat)(T:TypeId):Prop:=∃ cs loc,w.heap[b]?=some (.cells cs T loc)
theorem Typ.lt{w:World}{b:Nat}{T:TypeId}(h:Typ w b T):b<w.heap.size:=by
 obtain⟨cs,loc,e⟩:=h;exact(Array.getElem?_eq_some_iff.1 e).1
theorem Typ.same{w w':World}{b:Nat}{T:TypeId}(h:Typ w b T)(e:w'.heap[b]?=w.heap[b]?):Typ w' b T:=by
 obtain⟨cs,loc,h⟩:=h;exact⟨cs,loc,e.trans h⟩
theorem Typ.keep{w w':World}{b:Nat}{T:TypeId}(h:Typ w b T)(k:Keep w w'):Typ w' b T:=by
 obtain⟨cs,loc,h⟩:=h;exact⟨cs,loc,k.block h⟩
theorem Typ.set{w:World}{b:Nat}{T:TypeId}(h:Typ w b T)(p:Addr)(u:Value):Typ (w.setCell p u) b T:=by
 by_cases e:b=p.block
 ·subst e
  have hlt:=h.lt;obtain⟨cs,loc,h⟩:=h;have h':w.heap[p.block]=.cells cs T loc:=by simpa [Array.getElem?_eq_getElem hlt] using h
  refine⟨if p.spot.isSome then cs else cs.setIfInBounds p.off u,loc,?_⟩
  show(w.heap.modify p.block _)[p.block]?=_
  rw[Array.getElem?_eq_getElem (by simpa using hlt),Array.getElem_modify_self,h']
 ·exact h.same (Below.heap_setCell _ _ _ _ e)
theorem zqt{w:World}{base n z c:Nat}{T:TypeId}{A:Option Addr}{xs:List Value}(h:w.ownsRow base T z (.slice A n c) n xs):∀ b off,A=some ⟨b,off,none⟩->Typ w b T:=by
 intro b off e;subst e;rcases h.2 with ⟨hv,_⟩ | ⟨g,cap,cur,hv,_,k1,_⟩
 ·cases hv
 ·simp only[Value.slice.injEq,Option.some.injEq,Addr.mk.injEq] at hv
  rw[hv.1.1];exact⟨cur,(0,0),k1⟩
structure zai(w:World)(A:Option Addr)(n:Nat)(P:Nat->zaa):Prop where
 small:n<=9223372036854775807
 adr:0<n->∃ b off,A=some ⟨b,off,none⟩/\∀ j,j<n->zcr w b (off+j * 9) (P j)
 is:∀ j,j<n->zah w (P j)
theorem zai.keep{w w':World}{A:Option Addr}{n:Nat}{P:Nat->zaa}(h:zai w A n P)(k:Keep w w'):zai w' A n P :=
 ⟨h.small,fun hn=>by obtain⟨b,off,e,hc⟩:=h.adr hn;exact⟨b,off,e,fun j hj=>(hc j hj).keep k⟩,fun j hj=>(h.is j hj).keep k⟩
theorem zai.nil(w:World)(A:Option Addr)(P:Nat->zaa):zai w A 0 P:=⟨by omega,fun h=>absurd h (Nat.lt_irrefl _),fun _ h=>absurd h (Nat.not_lt_zero _)⟩
theorem zai.congr{w:World}{A:Option Addr}{n:Nat}{P Q:Nat->zaa}(h:zai w A n P)(e:∀ j,j<n->P j=Q j):zai w A n Q :=
 ⟨h.small,fun hn=>by obtain⟨b,off,ea,hc⟩:=h.adr hn;exact⟨b,off,ea,fun j hj=>by rw[<- e j hj];exact hc j hj⟩,fun j hj=>by rw[<- e j hj];exact h.is j hj⟩
theorem zar(b off n cp j:Nat)(hj:j<n)(W:World):(Instr.indexAt 28 (.slice (some ⟨b,off,none⟩) n cp) (.int .i64 j)).run Tryz.prog W=.ok (.pointer (some ⟨b,off+j * 9,none⟩)) W:=by
 go_simp
theorem zan{w:World}{base n z:Nat}{e:TypeId}{v:Value}{xs:List Value}(h:w.ownsRow base e z v n xs):∃ A cap,v=.slice A n cap/\(A=none->n=0/\cap=0):=by
 rcases h.2 with ⟨rfl,rfl⟩ | ⟨g,cap,cur,rfl,_⟩
 ·exact⟨none,0,rfl,fun _=>⟨rfl,rfl⟩⟩
 ·exact⟨_,cap,rfl,fun h=>by cases h⟩
theorem zal{w w':World}{base n:Nat}{e:TypeId}{z:Nat}{v:Value}{xs:List Value}(h:w.ownsRow base e z v n xs)(k:Keep w w'):w'.ownsRow base e z v n xs :=
 h.kept k.grown (Classical.em (v.ownBlock=none))
theorem zbx{w:World}{base base':Nat}{e:TypeId}{size:Nat}{v:Value}{n:Nat}{xs:List Value}(h:w.ownsRow base e size v n xs)(hb:base'<=base):w.ownsRow base' e size v n xs:=by
 rcases h with ⟨h1,h2 | ⟨g,cap,cur,h3,h4,h5⟩⟩
 ·exact⟨h1,.inl h2⟩
 ·exact⟨h1,.inr ⟨g,cap,cur,h3,by omega,h5⟩⟩
theorem zds{w:World}{base n z c:Nat}{e:TypeId}{A:Option Addr}{xs:List Value}(h:w.ownsRow base e z (.slice A n c) n xs):n<=c:=by
 rcases h.2 with ⟨hv,h0⟩ | ⟨_,_,_,hv,_,_,hc,_⟩
 ·omega
 ·simp only[Value.slice.injEq] at hv
  omega
theorem zao{w w':World}{base n z:Nat}{e:TypeId}{v:Value}{xs:List Value}(h:w.ownsRow base e z v n xs)(hs:∀ g,v.ownBlock=some g->w'.heap[g]?=w.heap[g]?):w'.ownsRow base e z v n xs:=by
 rcases h with ⟨h1,h2 | ⟨g,cap,cur,rfl,h4,h5,h6⟩⟩
 ·exact⟨h1,.inl h2⟩
 ·exact⟨h1,.inr ⟨g,cap,cur,rfl,h4,(hs g rfl).trans h5,h6⟩⟩
theorem zad{w a b:World}(k:Keep w a){row:Option Nat}(hg:a.grownBy b row)(hrow:∀ g,row=some g->w.heap.size<=g):Keep w b :=
 Below.grown k hg k.size hrow
theorem zjw(n:Nat)(Z:Nat->Int):∀ u∈zba n Z,u.oneCell'=true:=by
 intro u hu;simp only[zba,List.mem_map] at hu;obtain⟨k,_,rfl⟩:=hu;rfl
theorem zma{w:World}{a:Addr}{n:Nat}{Z:Nat->Int}(h:Rd w (some a) n Z):∀ j u,(zba n Z)[j]?=some u->w.cell? (a.add j)=some u:=by
 intro j u hu;have hj:j<n:=by
  have:=(List.getElem?_eq_some_iff.1 hu).1
  simpa [zba] using this
 obtain⟨b,off,e,hc⟩:=h.adr (by omega)
 obtain rfl:=Option.some.inj e;rw[WideShapes.add_plain,hc j hj]
 simpa [zba,hj] using hu
theorem znj{w:World}{base n cap:Nat}{A:Option Addr}{D:Nat->Int}(h:w.ownsRow base 2 1 (.slice A n cap) n (zba n D))(hn:n<=9223372036854775807)(hr:∀ k,k<n->-9223372036854775808<=D k/\D k<=9223372036854775807):Rd w A n D:=by
 rcases h.2 with ⟨e,rfl⟩ | ⟨g,cap,cur,e,_⟩
 ·exact Rd.nil _ _ _
 ·simp only[Value.slice.injEq] at e
  obtain⟨rfl,_,_⟩:=e;refine⟨hn,hr,fun _=>⟨g,0,rfl,fun j hj=>?_⟩⟩
  have:=h.cells (g:=g) rfl j (.int .i64 (D j)) (by simp[zba,hj])
  rwa [WideShapes.add_plain] at this
theorem Tryz.infoPod:(Tryz.prog.info? 26).map (fun i=>(i.zero,i.size,i.bytes))=some (some (.agg #[.int .i64 0,.int .i64 0,.bool false,.int .i64 0,.slice none 0 0,.int .i64 0,.int .i64 0,.int .i64 0,.int .i64 0]),9,88):=by kernel_rfl
theorem zmn(x:zaa):x.cells.length=9:=rfl
theorem cells_one(x:zaa):∀ u∈x.cells,u.oneCell'=true:=by
 intro u hu;simp only[zaa.cells,List.mem_cons,List.not_mem_nil,or_false] at hu;rcases hu with rfl | rfl | rfl | rfl | rfl | rfl | rfl | rfl | rfl<;>rfl
def zaj(Q:Nat->zaa):Nat->List Value
 | 0=>[]
 | n+1=>zaj Q n++(Q n).cells
theorem zaz(Q:Nat->zaa):∀ n,(zaj Q n).length=n * 9
 | 0=>rfl
 | n+1=>by rw[zaj,List.length_append,zaz Q n,zmn];omega
theorem zet{Q R:Nat->zaa}:∀ n,(∀ j,j<n->Q j=R j)->zaj Q n=zaj R n
 | 0,_=>rfl
 | n+1,h=>by rw[zaj,zaj,zet n (fun j hj=>h j (by omega)),h n (by omega)]
theorem zfe(Q:Nat->zaa):∀ (n j i:Nat),j<n->i<9->(zaj Q n)[j * 9+i]?=(Q j).cells[i]?
 | 0,j,i,h,_=>absurd h (Nat.not_lt_zero _)
 | n+1,j,i,h,hi=>by
   rw[zaj]
   by_cases e:j=n
   ·subst e
    rw[List.getElem?_append_right (by rw[zaz];omega),zaz]
    congr 1
    omega
   ·rw[List.getElem?_append_left (by rw[zaz];omega)]
    exact zfe Q n j i (by omega) hi
def put(Q:Nat->zaa)(n:Nat)(x:zaa):Nat->zaa:=fun j=>if j=n then x else Q j
theorem zat(Q:Nat->zaa)(n:Nat)(x:zaa):put Q n x n=x:=if_pos rfl
theorem zbj(Q:Nat->zaa)(n:Nat)(x:zaa){j:Nat}(h:j≠n):put Q n x j=Q j:=if_neg h
theorem zid(Q:Nat->zaa)(n:Nat)(x:zaa):zaj (put Q n x) (n+1)=zaj Q n++x.cells:=by
 rw[zaj,zat,zet n (fun j hj=>zbj Q n x (by omega))]
structure zcy(x:zaa):Prop where
 small:x.m<=9223372036854775807
 range:∀ k,k<x.m->-9223372036854775808<=x.Z k/\x.Z k<=9223372036854775807
 nil:x.A=none->x.m=0/\x.c=0
 rng:I64 x.k/\I64 x.p/\I64 x.g/\I64 x.a/\I64 x.h/\I64 x.d/\I64 x.t
theorem zah.ok{w:World}{x:zaa}(h:zah w x):zcy x:=⟨h.rd.small,h.rd.range,h.nil,h.rng⟩
def Req(w:World)(base:Nat)(x:zaa):Prop:=w.ownsRow base 2 1 (.slice x.A x.m x.c) x.m (zba x.m x.Z)
theorem Req.is{w:World}{base:Nat}{x:zaa}(h:Req w base x)(o:zcy x):zah w x:=⟨znj h o.small o.range,o.nil,o.rng⟩
theorem zfp{w:World}{base n z:Nat}{e:TypeId}{v:Value}{xs:List Value}(h:w.ownsRow base e z v n xs){g:Nat}(hg:v.ownBlock=some g):∃ cur,w.heap[g]?=some (.cells cur e (0,0)):=by
 rcases h.2 with ⟨rfl,_⟩ | ⟨g',cap,cur,rfl,_,h5,_⟩
 ·simp[Value.ownBlock] at hg
 ·have:g'=g:=by simpa [Value.ownBlock] using hg
  subst this;exact⟨cur,h5⟩
theorem zeo{w:World}{b1 b2 n1 n2 z1 z2:Nat}{e1 e2:TypeId}{v1 v2:Value}{xs1 xs2:List Value}(h1:w.ownsRow b1 e1 z1 v1 n1 xs1)(h2:w.ownsRow b2 e2 z2 v2 n2 xs2)(he:e1≠e2):v1.ownBlock=none\/v1.ownBlock≠v2.ownBlock:=by
 cases hv:v1.ownBlock with
 | none=>exact Or.inl rfl
 | some g =>
   right
   intro e;obtain⟨c1,k1⟩:=zfp h1 hv;obtain⟨c2,k2⟩:=zfp h2 e.symm;rw[k1] at k2
   injection k2 with k2
   injection k2 with _ k2
   exact he k2
structure zas(w:World)(base:Nat)(v:Value)(n:Nat)(Q:Nat->zaa):Prop where
 row:w.ownsRow base 26 9 v n (zaj Q n)
 own:∀ j,j<n->Req w base (Q j)
 ok:∀ j,j<n->zcy (Q j)
theorem zas.keep{w w':World}{base:Nat}{v:Value}{n:Nat}{Q:Nat->zaa}(h:zas w base v n Q)(k:Keep w w'):zas w' base v n Q:=⟨zal h.row k,fun j hj=>zal (h.own j hj) k,h.ok⟩
theorem zas.nil(w:World)(base:Nat)(Q:Nat->zaa):zas w base (.slice none 0 0) 0 Q:=⟨World.ownsRow_nil _ _ _ _,fun _ h=>absurd h (Nat.not_lt_zero _),fun _ h=>absurd h (Nat.not_lt_zero _)⟩
theorem zas.more{w w':World}{base n:Nat}{v v':Value}{Q:Nat->zaa}{x:zaa}(h:zas w base v n Q)(hx:Req w base x)(ho:zcy x)(hr:w'.ownsRow base 26 9 v' (n+1) (zaj Q n++x.cells))(hg:w.grownBy w' v.ownBlock):zas w' base v' (n+1) (put Q n x) where
 row:=by rw[zid];exact hr
 own:=fun j hj=>by
  by_cases e:j=n
  ·subst e;rw[zat];exact World.ownsRow.kept hx hg (zeo hx h.row (by decide))
  ·rw[zbj _ _ _ e]
   have:=h.own j (by omega)
   exact World.ownsRow.kept this hg (zeo this h.row (by decide))
 ok:=fun j hj=>by
  by_cases e:j=n
  ·subst e;rw[zat];exact ho
  ·rw[zbj _ _ _ e];exact h.ok j (by omega)
theorem ziv{w:World}{g o:Nat}{x:zaa}(h:∀ i u,x.cells[i]?=some u->w.cell? ⟨g,o+i,none⟩=some u):zcr w g o x :=
 ⟨h 0 _ rfl,h 1 _ rfl,h 2 _ rfl,h 3 _ rfl,h 4 _ rfl,h 5 _ rfl,h 6 _ rfl,h 7 _ rfl,h 8 _ rfl⟩
theorem zcg{w:World}{base n g cap:Nat}{Q:Nat->zaa}(h:w.ownsRow base 26 9 (.slice (some ⟨g,0,none⟩) n cap) n (zaj Q n)){j:Nat}(hj:j<n):zcr w g (0+j * 9) (Q j):=by
 refine ziv fun i u hu=>?_
 have hi:i<9:=(List.getElem?_eq_some_iff.1 hu).1;rw[Nat.zero_add,h.cellAt (j * 9+i) (by omega),zfe Q n j i hj hi,hu]
theorem zas.rd{w:World}{base n:Nat}{v:Value}{Q:Nat->zaa}(h:zas w base v n Q)(hn:n<=9223372036854775807):∃ A c,v=.slice A n c/\zai w A n Q:=by
 obtain⟨A,c,rfl,h0⟩:=zan h.row;refine⟨A,c,rfl,hn,fun hp=>?_,fun j hj=>(h.own j hj).is (h.ok j hj)⟩
 obtain⟨g,cap,e,_,_⟩:=h.row.form hp;simp only[Value.slice.injEq] at e;obtain⟨rfl,_,rfl⟩:=e;exact⟨g,0,rfl,fun j hj=>zcg h.row hj⟩
def zec(x y:zaa):Prop:=∃ A c,x=y.at A c
theorem zec.refl(x:zaa):zec x x:=⟨x.A,x.c,rfl⟩
theorem zec.trans{x y z:zaa}(h:zec x y)(k:zec y z):zec x z:=by
 obtain⟨A,c,rfl⟩:=h;obtain⟨B,d,rfl⟩:=k;exact⟨A,c,rfl⟩
theorem zec.symm{x y:zaa}(h:zec x y):zec y x:=by
 obtain⟨A,c,rfl⟩:=h;exact⟨y.A,y.c,rfl⟩
def zaf:zaa:=⟨0,0,false,0,none,0,0,fun _=>0,0,0,0,0⟩
theorem zxo:zcy zaf:=⟨by show(0:Nat)<=_;omega,fun _ h=>absurd h (Nat.not_lt_zero _),fun _=>⟨rfl,rfl⟩,by unfold I64 zaf;simp⟩
theorem zby(w:World)(b:Nat):Req w b zaf:=World.ownsRow_nil _ _ _ _
theorem zcb(w:World):zah w zaf:=(zby w 0).is zxo
def lst(Q:Nat->zaa)(n:Nat):List zaa:=(List.range n).map Q
theorem lst_len(Q:Nat->zaa)(n:Nat):(lst Q n).length=n:=by simp[lst]
theorem zaw{Q:Nat->zaa}{n j:Nat}(h:j<n):(lst Q n)[j]?=some (Q j):=by simp[lst,h]
theorem lst_mem{Q:Nat->zaa}{n:Nat}{x:zaa}:x∈lst Q n↔∃ j,j<n/\Q j=x:=by simp[lst]
theorem lst_succ(Q:Nat->zaa)(n:Nat):lst Q (n+1)=lst Q n++[Q n]:=by simp[lst,List.range_succ]
theorem zfb{Q R:Nat->zaa}{n:Nat}(h:∀ j,j<n->Q j=R j):lst Q n=lst R n:=List.map_congr_left fun j hj=>h j (List.mem_range.1 hj)
theorem zib(Q:Nat->zaa)(n:Nat)(x:zaa):lst (put Q n x) (n+1)=lst Q n++[x]:=by
 rw[lst_succ,zat,zfb (R:=Q) fun j hj=>zbj _ _ _ (by omega)]
def nm(x:zaa):zaa:=x.at none 0
theorem zqi{x y:zaa}(h:zec x y):nm x=nm y:=by
 obtain⟨A,c,rfl⟩:=h;rfl
theorem aib{x y:zaa}(h:nm x=nm y):zec x y:=⟨x.A,x.c,by
 unfold nm zaa.at at *;obtain⟨x1,x2,x3,x4,x5,x6,x7,x8,x9,x10,x11,x12⟩:=x;simp only[zaa.mk.injEq] at h;simp only[zaa.mk.injEq]
 simp[h]⟩
theorem zcr.all{w:World}{g o:Nat}{x:zaa}(h:zcr w g o x):∀ i u,x.cells[i]?=some u->w.cell? ⟨g,o+i,none⟩=some u:=by
 intro i u hu
 match i,hu with
 | 0,hu=>rw[<- Option.some.inj hu];exact h.e0
 | 1,hu=>rw[<- Option.some.inj hu];exact h.e1
 | 2,hu=>rw[<- Option.some.inj hu];exact h.e2
 | 3,hu=>rw[<- Option.some.inj hu];exact h.e3
 | 4,hu=>rw[<- Option.some.inj hu];exact h.e4
 | 5,hu=>rw[<- Option.some.inj hu];exact h.e5
 | 6,hu=>rw[<- Option.some.inj hu];exact h.e6
 | 7,hu=>rw[<- Option.some.inj hu];exact h.e7
 | 8,hu=>rw[<- Option.some.inj hu];exact h.e8
 | i+9,hu=>cases hu
theorem zbf(Q:Nat->zaa):∀ n,∀ u∈zaj Q n,u.oneCell'=true
 | 0,u,h=>by cases h
 | n+1,u,h=>by
   rcases List.mem_append.1 h with h | h
   ·exact zbf Q n u h
   ·exact cells_one _ u h
theorem zks(Q:Nat->zaa)(m:Nat):∀ n,zaj Q (m+n)=zaj Q m++zaj (fun t=>Q (m+t)) n
 | 0=>by rw[Nat.add_zero,zaj,List.append_nil]
 | n+1=>by rw[<- Nat.add_assoc,zaj,zks Q m n,zaj,List.append_assoc]
def row(L:List zaa):Nat->zaa:=fun j=>L.getD j zaf
theorem lst_row(L:List zaa):lst (row L) L.length=L:=by
 refine List.ext_getElem? fun j=>?_
 by_cases h:j<L.length
 ·rw[zaw h,List.getElem?_eq_getElem h]
  unfold row;rw[List.getD_eq_getElem?_getD,List.getElem?_eq_getElem h];rfl
 ·rw[List.getElem?_eq_none (by rw[lst_len];omega),List.getElem?_eq_none (by omega)]
def zdq(w:World)(X:Value)(m:Nat)(news:List Value):Prop :=
 (X=.slice none 0 0/\m=0/\news=[])\/∃ ad c,X=.slice (some ad) m c/\news.length=m * 9/\∀ j u,news[j]?=some u->w.cell? (ad.add j)=some u
theorem zbh{W:World}{k:Nat}{e:TypeId}{x:zaa}(h:W.heap[k]?=some (.cells #[.int .i64 x.k,.int .i64 x.p,.bool x.f,.int .i64 x.g,.slice x.A x.m x.c,.int .i64 x.a,.int .i64 x.h,.int .i64 x.d,.int .i64 x.t] e (0,0))):zdq W (.slice (some ⟨k,0,none⟩) 1 1) 1 x.cells:=by
 refine .inr ⟨_,_,rfl,rfl,fun j u hu=>?_⟩
 rw[WideShapes.add_plain,Nat.zero_add,cell_of_row W k j _ _ _ h,List.getElem?_toArray];exact hu
theorem zeu{w:World}{b off i n c:Nat}{Q:Nat->zaa}(h:∀ j,j<n->zcr w b (off+(i+j) * 9) (Q j))(o:Nat)(ho:n=0\/o=off+i * 9):zdq w (.slice (some ⟨b,o,none⟩) n c) n (zaj Q n):=by
 refine .inr ⟨_,_,rfl,zaz _ _,fun j u hu=>?_⟩
 have hj:j<n * 9:=by have:=(List.getElem?_eq_some_iff.1 hu).1;rwa [zaz] at this
 rcases ho with rfl | rfl
 ·omega
 rw[WideShapes.add_plain];have h1:j / 9<n:=by omega
 have h2:j % 9<9:=Nat.mod_lt _ (by omega)
 have hg:=zfe Q n (j / 9) (j % 9) h1 h2;rw[show j / 9 * 9+j % 9=j by omega,hu] at hg
 have:=(h (j / 9) h1).all (j % 9) u hg.symm
 rwa [show off+(i+j / 9) * 9+j % 9=off+i * 9+j by omega] at this
theorem zge{w:World}{A:Option Addr}{n c:Nat}{P:Nat->zaa}(h:zai w A n P)(h0:A=none->n=0/\c=0):zdq w (.slice A n c) n (zaj P n):=by
 cases A with
 | none =>
   obtain⟨rfl,rfl⟩:=h0 rfl;exact .inl ⟨rfl,rfl,rfl⟩
 | some a =>
   by_cases hn:0<n
   ·obtain⟨b,off,e,hc⟩:=h.adr hn
    obtain rfl:=Option.some.inj e;exact zeu (off:=off) (i:=0) (fun j hj=>by rw[Nat.zero_add];exact hc j hj) off (Or.inr (by omega))
   ·obtain rfl:n=0:=by omega
    exact .inr ⟨a,c,rfl,rfl,fun j u hu=>by cases hu⟩
structure TyP(e es:TypeId):Prop where
 info:(Tryz.prog.info? e).map (fun i=>(i.zero,i.size,i.bytes))=some (some (.agg #[.int .i64 0,.int .i64 0,.bool false,.int .i64 0,.slice none 0 0,.int .i64 0,.int .i64 0,.int .i64 0,.int .i64 0]),9,88)
 und:Tryz.prog.underlying es=some (.slice e)
theorem Tryz.tyP13:TyP 26 28:=⟨by kernel_rfl,Tryz.underlying28⟩
section
variable{ops:Array Oper}{rest:List Oper}{o:Oper}{a:Act}{w:World}{K:Act->World->Prop}{Q:Exit->Act->World->Prop}{E:Prop}{e es:TypeId}
theorem zdz(T:TyP e es)(hgd:o.guard=none)(s x:Operand)(ho:o.op=.call { callee:=.builtin .append,args:=#[s,x],argTypes:=#[es,es] })
  (base:Nat) (v:Value) (n:Nat) (xs:List Value) (hs:a.eval s=v) (hown:w.ownsRow base e 9 v n xs) (X:Value) (m:Nat) (news:List Value) (hx:a.eval x=X) (hsrc:zdq w X m news) (h1:∀ u∈news,u.oneCell'=true)
  (hlim:n+m<=1048577) (hbase:base<=w.heap.size) (N:Nat) (hN:n+m=N)
  (h:∀ v' w',w'.ownsRow base e 9 v' N (xs++news)->w.grownBy w' v.ownBlock->wpList Tryz.prog ops Q rest (a.put o.dst v') w'):wpList Tryz.prog ops Q (o :: rest) a w:=by
 subst hN;obtain⟨i0,hi0,hz0,hz1,hz2⟩:=info_parts T.info;rcases hsrc with ⟨rfl,rfl,rfl⟩ | ⟨ad,c,rfl,hl,hc⟩
 ·exact wpList_append_own_none hgd s x es ho base e i0 9 T.und hi0 v n xs hs hown hx (h v w (by rw[List.append_nil];exact hown) ⟨rfl,rfl,rfl,Nat.le_refl _,fun _ _ _=>rfl⟩)
 ·exact wpList_append_own (P:=Tryz.prog) w hgd s x es ho base e i0 _ 9 88 T.und hi0 hz0 hz1 hz2 rfl (by decide) v n xs hs hown ad m c news hx hl hc h1 (by unfold maxLen;omega) (by omega) hbase fun v' w' h2 h3 _=>h v' w' h2 h3
theorem zbi(T:TyP e es)(hgd:o.guard=none)(s x:Operand)(ho:o.op=.call { callee:=.builtin .append,args:=#[s,x],argTypes:=#[es,es] })
  (base:Nat) (v:Value) (n:Nat) (xs:List Value) (hs:a.eval s=v) (hown:w.ownsRow base e 9 v n xs) (X:Value) (m:Nat) (news:List Value) (hx:a.eval x=X) (hsrc:zdq w X m news) (h1:∀ u∈news,u.oneCell'=true)
  (hlim:n+m<=1048577) (hbase:base<=w.heap.size) (N:Nat) (hN:n+m=N)
  (h:∀ v' w',w'.ownsRow base e 9 v' N (xs++news)->w.grownBy w' v.ownBlock->K (a.put o.dst v') w') :
  if Region.wanted o (yielded ops a.tmps)=true then Oper.wp Tryz.prog o a w K Q else E:=by
 have hw:Region.wanted o (yielded ops a.tmps)=true:=by simp[Region.wanted,hgd]
 rw[if_pos hw];subst hN;obtain⟨i0,hi0,hz0,hz1,hz2⟩:=info_parts T.info;rcases hsrc with ⟨rfl,rfl,rfl⟩ | ⟨ad,c,rfl,hl,hc⟩
 ·have hrun:=run_append_owned_none (P:=Tryz.prog) (w:=w) base es o.type e i0 9 T.und hi0 v n xs hown
  have hg:w.grownBy w v.ownBlock:=⟨rfl,rfl,rfl,Nat.le_refl _,fun _ _ _=>rfl⟩
  have:=h v w (by rw[List.append_nil];exact hown) hg
  unfold Oper.wp;simp[execOp,ho,resolve,invoke,builtin,hs,hx,hrun,Result.andThen]
  exact this
 ·exact wp_append_own (P:=Tryz.prog) w s x es ho base e i0 _ 9 88 T.und hi0 hz0 hz1 hz2 rfl (by decide) v n xs hs hown ad m c news hx hl hc h1 (by unfold maxLen;omega) (by omega) hbase fun v' w' h2 h3 _=>h v' w' h2 h3
end
theorem lt_of_block{w:World}{k:Nat}{o:Obj}(h:w.heap[k]?=some o):k<w.heap.size:=(Array.getElem?_eq_some_iff.1 h).1
theorem zch{w:World}{s:Nat}{a0 a1 a2 a3 a4 a5 a6 a7 a8 u:Value}{T:TypeId}(h:w.heap[s]?=some (.cells #[a0,a1,a2,a3,a4,a5,a6,a7,a8] T (0,0))):
  (w.setCell ⟨s,0,none⟩ u).heap[s]?=some (.cells #[u,a1,a2,a3,a4,a5,a6,a7,a8] T (0,0))/\(w.setCell ⟨s,1,none⟩ u).heap[s]?=some (.cells #[a0,u,a2,a3,a4,a5,a6,a7,a8] T (0,0)) /\
  (w.setCell ⟨s,2,none⟩ u).heap[s]?=some (.cells #[a0,a1,u,a3,a4,a5,a6,a7,a8] T (0,0))/\(w.setCell ⟨s,3,none⟩ u).heap[s]?=some (.cells #[a0,a1,a2,u,a4,a5,a6,a7,a8] T (0,0)) /\
  (w.setCell ⟨s,4,none⟩ u).heap[s]?=some (.cells #[a0,a1,a2,a3,u,a5,a6,a7,a8] T (0,0))/\(w.setCell ⟨s,5,none⟩ u).heap[s]?=some (.cells #[a0,a1,a2,a3,a4,u,a6,a7,a8] T (0,0)) /\
  (w.setCell ⟨s,6,none⟩ u).heap[s]?=some (.cells #[a0,a1,a2,a3,a4,a5,u,a7,a8] T (0,0))/\(w.setCell ⟨s,7,none⟩ u).heap[s]?=some (.cells #[a0,a1,a2,a3,a4,a5,a6,u,a8] T (0,0)) /\
  (w.setCell ⟨s,8,none⟩ u).heap[s]?=some (.cells #[a0,a1,a2,a3,a4,a5,a6,a7,u] T (0,0)):=by
 have hlt:=lt_of_block h;have h':w.heap[s]=.cells #[a0,a1,a2,a3,a4,a5,a6,a7,a8] T (0,0):=by simpa [Array.getElem?_eq_getElem hlt] using h
 refine⟨?_,?_,?_,?_,?_,?_,?_,?_,?_⟩
 all_goals
  show(w.heap.modify s _)[s]?=_
  rw[Array.getElem?_eq_getElem (by simpa using hlt),Array.getElem_modify_self,h']
  rfl
def put9(w:World)(s:Nat)(x:zaa):World:=((((((((w.setCell ⟨s,0,none⟩ (.int .i64 x.k)).setCell ⟨s,1,none⟩ (.int .i64 x.p)).setCell ⟨s,2,none⟩ (.bool x.f)).setCell ⟨s,3,none⟩ (.int .i64 x.g)).setCell ⟨s,4,none⟩ (.slice x.A x.m x.c)).setCell ⟨s,5,none⟩ (.int .i64 x.a)).setCell ⟨s,6,none⟩ (.int .i64 x.h)).setCell ⟨s,7,none⟩ (.int .i64 x.d)).setCell ⟨s,8,none⟩ (.int .i64 x.t)
def zac(x:zaa):Array Value:=#[.int .i64 x.k,.int .i64 x.p,.bool x.f,.int .i64 x.g,.slice x.A x.m x.c,.int .i64 x.a,.int .i64 x.h,.int .i64 x.d,.int .i64 x.t]
theorem zcp{w:World}{s:Nat}(x y:zaa){T:TypeId}(h:w.heap[s]?=some (.cells (zac y) T (0,0))):(put9 w s x).heap[s]?=some (.cells (zac x) T (0,0)):=
 (zch (zch (zch (zch (zch (zch (zch (zch (zch h).1).2.1).2.2.1).2.2.2.1).2.2.2.2.1).2.2.2.2.2.1).2.2.2.2.2.2.1).2.2.2.2.2.2.2.1).2.2.2.2.2.2.2.2
theorem zdi{w0 w:World}{s:Nat}(x:zaa)(k:Keep w0 w)(hs:w0.heap.size<=s):Keep w0 (put9 w s x):=
 ((((((((k.set hs _).set hs _).set hs _).set hs _).set hs _).set hs _).set hs _).set hs _).set hs _
theorem zdd{w:World}{s k:Nat}(x:zaa)(h:k≠s):(put9 w s x).heap[k]?=w.heap[k]?:=by
 unfold put9
 repeat rw[Below.heap_setCell _ _ _ _ h]
structure alx(w:World)(s:Nat)(x:zaa):Prop where
 e0:w.cell? ⟨s,0,none⟩=some (.int .i64 x.k)
 e1:w.cell? ⟨s,1,none⟩=some (.int .i64 x.p)
 e2:w.cell? ⟨s,2,none⟩=some (.bool x.f)
 e3:w.cell? ⟨s,3,none⟩=some (.int .i64 x.g)
 e4:w.cell? ⟨s,4,none⟩=some (.slice x.A x.m x.c)
 e5:w.cell? ⟨s,5,none⟩=some (.int .i64 x.a)
 e6:w.cell? ⟨s,6,none⟩=some (.int .i64 x.h)
 e7:w.cell? ⟨s,7,none⟩=some (.int .i64 x.d)
 e8:w.cell? ⟨s,8,none⟩=some (.int .i64 x.t)
 f:∀ i,w.frozen? ⟨s,i,none⟩=false
theorem zae{w:World}{s:Nat}{x:zaa}{T:TypeId}(h:w.heap[s]?=some (.cells (zac x) T (0,0))):alx w s x:=by
 refine⟨?_,?_,?_,?_,?_,?_,?_,?_,?_,fun i=>frozen_of_row w s i _ _ h⟩<;>rw[cell_of_row w s _ _ _ _ h]<;>rfl
theorem zhe{o:Oper}{a:Act}{w:World}{K:Act->World->Prop}{Q:Exit->Act->World->Prop}(s x:Operand)(ho:o.op=.call { callee:=.builtin .append,args:=#[s,x],argTypes:=#[28,28] })
  (base:Nat) (v:Value) (n:Nat) (xs:List Value) (hs:a.eval s=v) (hown:w.ownsRow base 26 9 v n xs) (X:Value) (m:Nat) (news:List Value) (hx:a.eval x=X) (hsrc:zdq w X m news) (h1:∀ u∈news,u.oneCell'=true)
  (hlim:n+m<=1048577) (hbase:base<=w.heap.size) (N:Nat) (hN:n+m=N)
  (h:∀ v' w',w'.ownsRow base 26 9 v' N (xs++news)->w.grownBy w' v.ownBlock->K (a.put o.dst v') w'):Oper.wp Tryz.prog o a w K Q:=by
 subst hN;obtain⟨i0,hi0,hz0,hz1,hz2⟩:=info_parts Tryz.tyP13.info;rcases hsrc with ⟨rfl,rfl,rfl⟩ | ⟨ad,c,rfl,hl,hc⟩
 ·have hrun:=run_append_owned_none (P:=Tryz.prog) (w:=w) base 28 o.type 26 i0 9 Tryz.tyP13.und hi0 v n xs hown
  have hg:w.grownBy w v.ownBlock:=⟨rfl,rfl,rfl,Nat.le_refl _,fun _ _ _=>rfl⟩
  have:=h v w (by rw[List.append_nil];exact hown) hg
  unfold Oper.wp;simp[execOp,ho,resolve,invoke,builtin,hs,hx,hrun,Result.andThen]
  exact this
 ·exact wp_append_own (P:=Tryz.prog) w s x 28 ho base 26 i0 _ 9 88 Tryz.tyP13.und hi0 hz0 hz1 hz2 rfl (by decide) v n xs hs hown ad m c news hx hl hc h1 (by unfold maxLen;omega) (by omega) hbase fun v' w' h2 h3 _=>h v' w' h2 h3
end Go.Proofs.YtcogiogjpbkeaaaGreatDoor.T13
