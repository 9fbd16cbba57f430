/-
  The law's operations, its few, its code; the reference's list behind an operation. Conditions: errors.errorType holds its own; at most 1000 pods.
  The reference's Submit, Change. Conditions: at most 1000 pods.
  The reference's Change. Conditions: at most 1000 pods.
-/
import Derived.Test.YtcogiogjpbkeaaaGreatDoorJ0
import Derived.Test.YtcogiogjpbkeaaaGreatDoorJ9
namespace Go.Proofs.YtcogiogjpbkeaaaGreatDoor.T13
open Go.RowKit Go.Sort Go.Lib V12
structure OpV where
 ev:Int
 x:zaa
 nd:Int
 dl:Int
def OpV.val(o:OpV):Value:=.agg #[.int .i64 o.ev,.int .i64 o.x.k,.int .i64 o.x.p,.bool o.x.f,.int .i64 o.x.g,.slice o.x.A o.x.m o.x.c,.int .i64 o.x.a,.int .i64 o.x.h,.int .i64 o.x.d,.int .i64 o.x.t,.int .i64 o.nd,.int .i64 o.dl]
def OpV.arr(o:OpV):Array Value:=#[.int .i64 o.ev,.int .i64 o.x.k,.int .i64 o.x.p,.bool o.x.f,.int .i64 o.x.g,.slice o.x.A o.x.m o.x.c,.int .i64 o.x.a,.int .i64 o.x.h,.int .i64 o.x.d,.int .i64 o.x.t,.int .i64 o.nd,.int .i64 o.dl]
structure afg(w:World)(o:OpV):Prop where
 e:I64 o.ev
 x:zah w o.x
 n:I64 o.nd
 d:I64 o.dl
theorem afg.keep{w w':World}{o:OpV}(h:afg w o)(k:Keep w w'):afg w' o:=⟨h.e,h.x.keep k,h.n,h.d⟩
structure zmg(w:World)(b o:Nat)(v:OpV):Prop where
 e:w.cell? ⟨b,o,none⟩=some (.int .i64 v.ev)
 x:zcr w b (o+1) v.x
 n:w.cell? ⟨b,o+10,none⟩=some (.int .i64 v.nd)
 d:w.cell? ⟨b,o+11,none⟩=some (.int .i64 v.dl)
theorem zmg.keep{w w':World}{b o:Nat}{v:OpV}(h:zmg w b o v)(k:Keep w w'):zmg w' b o v:=⟨k.cell h.e,h.x.keep k,k.cell h.n,k.cell h.d⟩
theorem zmg.same{w w':World}{b o:Nat}{v:OpV}(h:zmg w b o v)(e:w'.heap[b]?=w.heap[b]?):zmg w' b o v:=⟨zbu h.e e,h.x.same e,zbu h.n e,zbu h.d e⟩
structure RdO(w:World)(A:Option Addr)(n:Nat)(P:Nat->OpV):Prop where
 small:n<=9223372036854775807
 adr:0<n->∃ b off,A=some ⟨b,off,none⟩/\∀ j,j<n->zmg w b (off+j * 12) (P j)
 is:∀ j,j<n->afg w (P j)
theorem RdO.keep{w w':World}{A:Option Addr}{n:Nat}{P:Nat->OpV}(h:RdO w A n P)(k:Keep w w'):RdO w' A n P :=
 ⟨h.small,fun hn=>by
  obtain⟨b,off,e,c⟩:=h.adr hn
  exact⟨b,off,e,fun j hj=>(c j hj).keep k⟩,fun j hj=>(h.is j hj).keep k⟩
def aff(x:zaa):Prop:=aly (fun _=>x) 1
theorem zhx(x:zaa):∃ b,b=true↔aff x:=⟨@decide (aff x) (Classical.propDecidable _),by simp⟩
theorem aff.m{x:zaa}(h:aff x):x.m<=20:=(h.2 0 (by omega)).2.2
theorem zff{w:World}{b:Nat}{x:zaa}{T:TypeId}(h:w.heap[b]?=some (.cells (zac x) T (0,0)))(hx:zah w x):zai w (some ⟨b,0,none⟩) 1 (fun _=>x):=by
 obtain⟨e0,e1,e2,e3,e4,e5,e6,e7,e8,_⟩:=zae h;refine⟨by omega,fun _=>⟨b,0,rfl,fun j hj=>?_⟩,fun _ _=>hx⟩
 obtain rfl:j=0:=by omega
 exact⟨e0,e1,e2,e3,e4,e5,e6,e7,e8⟩
theorem ale{w:World}{X:Nat->Prop}{w1:World}{B:Option Addr}{c n:Nat}{P:Nat->zaa}{L:List zaa}(h:RL w X w1 B c n P)(hL:(lst P n).map nm=L)(s:Int)(x:zaa)(hx:zah w x)(k:Keep w w1)(hn:n<=1000):
  Calls Tryz.prog 56 #[.slice B n c,.int .i64 s,x.val] w1 fun e w'=>∃ B' c' n' P',e=.returned (.tuple #[.slice B' n' c',.int .i64 (zez L s x)])/\Keep w1 w'/\RL w (fun i=>X i\/(w1.heap.size<=i/\i<w'.heap.size)) w' B' c' n' P'/\(lst P' n').map nm=zfs L s x/\(zez L s x=0->∃ t,t<n'/\findN P' x.k n'=(t:Int)/\nm (P' t)=zhi x L.length):=by
 subst hL;have hB:B=none->n=0/\c=0:=fun e=>by
  rcases h.pl with ⟨_,h0⟩ | ⟨g,eg,_⟩
  ·exact h0
  ·rw[e] at eg;cases eg
 refine(ahz B c n P s x w1 h.rd hB hn).mono ?_;rintro e w' ⟨B',c',n',P',he,kk,hp⟩;have hl:((lst P n).map nm).length=n:=by rw[List.length_map,lst_len]
 rcases hp with ⟨h0,rfl,rfl,rfl,rfl⟩ | ⟨h0,rfl,rfl,ho⟩
 ·refine⟨B',c',n',P',he,kk,(h.keep kk).less fun i=>Or.inl,?_,fun h1=>absurd h1 h0⟩
  unfold zfs;rw[if_neg h0]
 ·have hk:x.k∉keys ((lst P n).map nm):=fun hk=>by
   unfold zez at h0;rw[if_pos hk] at h0;exact absurd h0 (by decide)
  have no:∀ t,t<n->(P t).k≠x.k:=fun t ht e=>hk (by
   rw[zbq];unfold keys;rw[<- e]
   exact List.mem_map_of_mem (lst_mem.2 ⟨t,ht,rfl⟩))
  refine⟨B',c',n+1,put P n (alr x n),he,kk,⟨zix ho (by omega) fun j hj=>?_,zds ho,Or.inr ?_,fun j hj=>?_⟩,?_,fun _=>⟨n,by omega,find_at (by rw[zat];rfl) (fun t ht=>by rw[zbj _ _ _ (by omega)];exact no t ht) (by omega),by rw[zat,hl];rfl⟩⟩
  ·by_cases e:j=n
   ·rw[e,zat]
    exact⟨(hx.keep (k.trans kk)).rd,hx.nil,hx.rng.1,hx.rng.2.1,hx.rng.2.2.1,by unfold I64;show _<=(n:Int)/\(n:Int)<=_;omega,by unfold I64;show _<=(1:Int)/\(1:Int)<=_;omega,by unfold I64;show _<=(-1:Int)/\(-1:Int)<=_;omega,by unfold I64;show _<=(-1:Int)/\(-1:Int)<=_;omega⟩
   ·rw[zbj _ _ _ e]
    exact(h.is j (by omega)).keep (k.trans kk)
  ·obtain⟨g,cap,e,_,hb⟩:=ho.form (by omega)
   simp only[Value.slice.injEq] at e;exact⟨g,e.1,Or.inr (ho.lt g (by rw[e.1];rfl))⟩
  ·by_cases e:j=n
   ·rw[e,zat]
    exact⟨hx.rd,hx.nil,hx.rng.1,hx.rng.2.1,hx.rng.2.2.1,by unfold I64;show _<=(n:Int)/\(n:Int)<=_;omega,by unfold I64;show _<=(1:Int)/\(1:Int)<=_;omega,by unfold I64;show _<=(-1:Int)/\(-1:Int)<=_;omega,by unfold I64;show _<=(-1:Int)/\(-1:Int)<=_;omega⟩
   ·rw[zbj _ _ _ e]
    exact h.is j (by omega)
  ·unfold zfs
   rw[if_pos h0,zib,List.map_append,List.map_singleton,hl];rfl
theorem abd{P:Nat->zaa}{n i:Nat}{y:zaa}(hd:∀ t,t<n->t≠i->(P t).k≠(P i).k)(f:zaa->zaa)(hf:f (P i)=y):lst (put P i y) n=(lst P n).map fun z=>if z.k=(P i).k then f z else z:=by
 refine List.ext_getElem? fun j=>?_
 by_cases hj:j<n
 ·rw[zaw hj,List.getElem?_map,zaw hj]
  show some _=some (if (P j).k=(P i).k then f (P j) else P j)
  by_cases e:j=i
  ·rw[e,zat,if_pos rfl,hf]
  ·rw[zbj _ _ _ e,if_neg (hd j hj e)]
 ·rw[List.getElem?_eq_none (by rw[lst_len];omega),List.getElem?_eq_none (by rw[List.length_map,lst_len];omega)]
theorem acn{w:World}{X:Nat->Prop}{w1:World}{B:Option Addr}{c n:Nat}{P:Nat->zaa}{L:List zaa}(h:RL w X w1 B c n P)(hL:(lst P n).map nm=L)(hok:LOk L)(id ev nd dl:Int)(hnd:I64 nd)(hdl:I64 dl)(hn:n<=1000):
  Calls Tryz.prog 101 #[.slice B n c,.int .i64 id,.int .i64 ev,.int .i64 nd,.int .i64 dl] w1 fun e w'=>∃ B' c' n' P',e=.returned (.tuple #[.slice B' n' c',.int .i64 (zca L id ev)])/\Keep w1 w'/\RL w (fun i=>X i\/(w1.heap.size<=i/\i<w'.heap.size)) w' B' c' n' P'/\(lst P' n').map nm=zde L id ev nd dl/\(zca L id ev=0->∃ t,t<n'/\findN P' id n'=(t:Int)/\nm (P' t)=zay (getL L id) ev nd dl):=by
 subst hL;refine(ahp B c n P id ev nd dl w1 h.rd hn hnd hdl).mono ?_;rintro e w' ⟨B',c',P',he,kk,hp⟩;rcases hp with ⟨h0,rfl,rfl,rfl⟩ | ⟨h0,hc,g,i,hi,hk,hm,rfl,hg,rfl,hr⟩
 ·refine⟨B',c',n,P',he,kk,(h.keep kk).less fun i=>Or.inl,?_,fun h1=>absurd h1 h0⟩
  unfold zde;rw[if_neg h0]
 ·have hin:id∈keys ((lst P n).map nm):=by
   rw[zbq];unfold keys;rw[<- hk];exact List.mem_map_of_mem (lst_mem.2 ⟨i,hi,rfl⟩)
  have hget:getL ((lst P n).map nm) id=nm (P i):=by rw[<- zhn,zkl hi hk hm]
  have hdis:∀ t,t<n->t≠i->(P t).k≠(P i).k:=fun t ht hne e=>by
   have hnd:=hok.nod;rw[zbq] at hnd;unfold keys at hnd;refine hne ((List.getElem_inj (h₀:=by rw[List.length_map,lst_len];exact ht) (h₁:=by rw[List.length_map,lst_len];exact hi) hnd).1 ?_)
   rw[List.getElem_map,List.getElem_map];have a1:=zaw (Q:=P) ht;have a2:=zaw (Q:=P) hi;rw[List.getElem?_eq_getElem (by rw[lst_len];exact ht)] at a1
   rw[List.getElem?_eq_getElem (by rw[lst_len];exact hi)] at a2
   rw[Option.some.inj a1,Option.some.inj a2];exact e
  have his:∀ j,j<n->zah w (put P i (zay (P i) ev nd dl) j):=fun j hj=>by
   have h1:=hr.is j hj
   by_cases e:j=i
   ·have h2:=h.is i hi
    rw[e,zat] at h1 ⊢;exact⟨h2.rd,h2.nil,h1.rng⟩
   ·rw[zbj _ _ _ e]
    exact h.is j hj
  refine⟨_,c',n,_,he,kk,⟨hr,hc,Or.inr ⟨g,rfl,Or.inr ⟨hg,?_⟩⟩,his⟩,?_,fun _=>⟨i,hi,find_at (by rw[zat];exact hk) (fun t ht=>by rw[zbj _ _ _ (by omega)];exact hm t ht) hi,by rw[zat,zqh,hget]⟩⟩
  ·obtain⟨b2,off2,e2,c2⟩:=hr.adr (by omega)
   have e3:=Option.some.inj e2;simp only[Addr.mk.injEq,and_true] at e3;rw[e3.1];exact zbl (c2 0 (by omega)).e0
  ·unfold zde
   rw[if_pos h0,abd hdis (fun z=>zay z ev nd dl) rfl,List.map_map,List.map_map]
   refine List.map_congr_left fun z _=>?_
   show nm (if z.k=(P i).k then zay z ev nd dl else z)=if (nm z).k=id then zay (nm z) ev nd dl else nm z
   rw[akq,<- hk]
   split
   ·exact zqh _ _ _ _
   ·rfl
end Go.Proofs.YtcogiogjpbkeaaaGreatDoor.T13
namespace Go.Proofs.YtcogiogjpbkeaaaGreatDoor.T14
open Go.RowKit Go.Sort Go.Lib V12 T13
set_option maxRecDepth 100000 in
set_option maxHeartbeats 8000000 in
theorem zyx{w:World}{X:Nat->Prop}{w1:World}(d:Nat)(A:Option Addr)(n c:Nat)(B:Option Addr)(m e:Nat){P:Nat->zaa}{L:List zaa}(h:RL w X w1 B e m P)(hL:(lst P m).map nm=L)(y:zaa)(hy:zah w y)(k:Keep w w1)(hX:∀ i,X i->i<w1.heap.size)(hn:m<=1000):
  Calls Tryz.prog 29 #[(⟨d,A,n,c,B,m,e⟩:RcV).val,y.val] w1 fun e' w'=>∃ B' c' n' P',e'=.returned (.tuple #[(⟨d,A,n,c,B',n',c'⟩:RcV).val,.int .i64 (sbC L d y),.int .i64 (wrI d y.m y.Z)])/\Keep w1 w'/\RL w (fun i=>X i\/(w1.heap.size<=i/\i<w'.heap.size)) w' B' c' n' P'/\(lst P' n').map nm=sbL L d y/\(sbC L d y=0->∃ t,t<n'/\findN P' y.k n'=(t:Int)/\nm (P' t)=zhi y L.length):=by
 obtain⟨W0,hW0⟩:=Zn (w1.alloc (.cells (⟨d,A,n,c,B,m,e⟩:RcV).arr 30));obtain⟨W1,hW1⟩:=Zn (W0.alloc (.cells (zac y) 26));obtain⟨W,hW⟩:=Zn (W1.alloc (.cells zrc.arr 30));obtain⟨bx,hbx⟩:=Zn (w1.heap.size);obtain⟨by',hby⟩:∃ by',by'=w1.heap.size+1:=⟨_,rfl⟩
 obtain⟨b,hb⟩:=Zn (w1.heap.size+1+1);have s0:W0.heap.size=by':=by rw[hW0,World.size_alloc,hby]
 have s1:W1.heap.size=b:=by rw[hW1,World.size_alloc,s0,hb,hby]
 have KW:Hid (Keep w1 W):=by rw[hW,hW1,hW0];exact((Keep.one _ _).alloc _:Keep w1 _).alloc _
 have BX:Hid (W.heap[bx]?=some (.cells (⟨d,A,n,c,B,m,e⟩:RcV).arr 30 (0,0))):=by show _=_;rw[hW,hW1,hW0,hbx];exact(Keep.one _ _).block ((Keep.one _ _).block (heap_alloc_new _ _))
 have BY:Hid (W.heap[by']?=some (.cells (zac y) 26 (0,0))):=by show _=_;rw[hW,hW1,<- s0];exact(Keep.one _ _).block (heap_alloc_new _ _)
 have BZ:Hid (W.heap[b]?=some (.cells zrc.arr 30 (0,0))):=by show _=_;rw[hW,<- s1];exact heap_alloc_new _ _
 have cW:=Zq (zgz y.A y.m y.c y.Z (d:Int) W (hy.rd.keep (k.trans KW.out)));have cS:=Zq (ale (h.keep KW.out) hL 65536 y hy (k.trans KW.out) hn);have hm:max (d:Int) 0=d:=by omega
 have hb1:decide (0<=(d:Int))=true:=decide_eq_true (by omega)
 have hb2:decide ((d:Int)<0)=false:=decide_eq_false (by omega)
 obtain⟨c0,c1,c2,cf⟩:=zab BX.out;obtain⟨y0,y1,y2,y3,y4,y5,y6,y7,y8,yf⟩:=zae BY.out;obtain⟨z0,z1,z2,zf⟩:=zab BZ.out;obtain⟨r,hr⟩:=Zn (zak y.m y.Z d);rw[<- hr] at cW;have h':=Zq h;have hL':=Zq hL;have hX':=Zq hX;have k':=Zq k;clear h hy hL hX k;unfold zrc at z0 z1 z2
 by_cases hw:0<=r
 ·have e3:Hid (sbC L d y=3/\wrI d y.m y.Z=r/\sbL L d y=L):=by
   unfold sbC wrI sbL;rw[<- hr,if_pos hw,if_pos hw,if_pos hw];exact⟨rfl,rfl,rfl⟩
  have B5:Hid ((zav W b ⟨d,A,n,c,B,m,e⟩).heap[b]?=some (.cells (⟨d,A,n,c,B,m,e⟩:RcV).arr 30 (0,0))):=zce _ zrc BZ.out;have K5:Hid (Keep w1 (zav W b ⟨d,A,n,c,B,m,e⟩)):=zbz _ KW.out (by omega)
  simp only[RcV.arr] at hW0;unfold zac at hW1;simp only[RcV.arr,zrc] at hW;simp only[RcV.val];unfold zaa.val;replace hr:=Zq hr;replace BX:=Zq BX.out;clear y0 y1 y2 y3 y4 y5 y6 y7 y8 yf
  go_enter Tryz.func29,Tryz.ntmps29
  go_wp2_with fail;rw[<- hW0,<- hW1,<- hW,<- hb];try rw[<- hby]
  try rw[<- hbx]
  replace hW0:=Zq hW0;replace hW1:=Zq hW1;replace hW:=Zq hW;replace hb:=Zq hb;replace hby:=Zq hby
  replace hbx:=Zq hbx;replace s0:=Zq s0;replace s1:=Zq s1;refine cW.out.mono ?_;rintro e' w2 ⟨rfl,rfl⟩;go_wp2;obtain⟨e0,e1,e2,_⟩:=zab B5.out;simp only[zav] at *;refine bodyPost_ret (v:=.tuple #[.agg #[.int .i64 d,.slice A n c,.slice B m e],.int .i64 3,.int .i64 r]) (by simp[results,Tryz.results29,go_sem,e0,e1,e2]) rfl ⟨B,e,m,P,?_,K5.out,(h'.out.keep K5.out).less fun _=>Or.inl,?_,fun h=>?_⟩
  ·rw[e3.out.1,e3.out.2.1]
  ·rw[e3.out.2.2];exact hL'.out
  ·rw[e3.out.1] at h;exact absurd h (by decide)
 ·have e3:Hid (sbC L d y=zez L 65536 y/\wrI d y.m y.Z=0/\sbL L d y=zfs L 65536 y):=by
   unfold sbC wrI sbL;rw[<- hr,if_neg hw,if_neg hw,if_neg hw];exact⟨rfl,rfl,rfl⟩
  obtain⟨cd,hcd⟩:=Zn (zez L 65536 y);rw[<- hcd] at cS e3;unfold zaa.val at cS;simp only[RcV.arr] at hW0;unfold zac at hW1;simp only[RcV.arr,zrc] at hW;simp only[RcV.val];unfold zaa.val;replace hr:=Zq hr;replace hcd:=Zq hcd;have c0e:=c0;have c1e:=c1;have c2e:=c2;rw[hW,hW1,hW0] at c0e c1e c2e
  go_enter Tryz.func29,Tryz.ntmps29
  go_wp2_with fail;rw[<- hW0,<- hW1,<- hW,<- hb];try rw[<- hby]
  try rw[<- hbx]
  clear c0e c1e c2e;replace hb:=Zq hb;replace hby:=Zq hby
  replace hbx:=Zq hbx;replace s0:=Zq s0;replace s1:=Zq s1;replace hW0:=Zq hW0;replace hW1:=Zq hW1;replace hW:=Zq hW;refine cW.out.mono ?_;rintro e' w2 ⟨rfl,rfl⟩;go_wp2_with fail;refine cS.out.mono ?_;rintro e' w3 ⟨B',c',n',P',rfl,k3,rl,hl,ht⟩;have X3:=k3.block BX.out;have Z3:=k3.block BZ.out;clear c0 c1 c2 cf z0 z1 z2 zf y0 y1 y2 y3 y4 y5 y6 y7 y8 yf;obtain⟨c0,c1,c2,cf⟩:=zab X3;obtain⟨z0,z1,z2,zf⟩:=zab Z3;unfold zrc at z0 z1 z2;have vb:=hb.out;have vbx:=hbx.out;have hbxz:bx≠b:=by omega
  have Z4:(w3.setCell ⟨bx,2,none⟩ (.slice B' n' c')).heap[b]?=some (.cells zrc.arr 30 (0,0)):=(Below.heap_setCell _ _ _ _ (fun e=>hbxz e.symm)).trans Z3
  have B5:Hid ((zav (w3.setCell ⟨bx,2,none⟩ (.slice B' n' c')) b ⟨d,A,n,c,B',n',c'⟩).heap[b]?=some (.cells (⟨d,A,n,c,B',n',c'⟩:RcV).arr 30 (0,0))):=zce _ zrc Z4;have K5:Hid (Keep w1 (zav (w3.setCell ⟨bx,2,none⟩ (.slice B' n' c')) b ⟨d,A,n,c,B',n',c'⟩)):=zbz _ ((KW.out.trans k3).set (by show w1.heap.size<=bx;omega) _) (by omega)
  have sz5:(zav (w3.setCell ⟨bx,2,none⟩ (.slice B' n' c')) b ⟨d,A,n,c,B',n',c'⟩).heap.size=w3.heap.size:=by rw[zdu];simp
  have sw:w1.heap.size+3<=w2.heap.size:=by
   have:=lt_of_block BZ.out;omega
  have R5:Hid (RL w (fun i=>X i\/(w1.heap.size<=i/\i<(zav (w3.setCell ⟨bx,2,none⟩ (.slice B' n' c')) b ⟨d,A,n,c,B',n',c'⟩).heap.size)) (zav (w3.setCell ⟨bx,2,none⟩ (.slice B' n' c')) b ⟨d,A,n,c,B',n',c'⟩) B' c' n' P'):=by
   refine(rl.same (k'.out.trans K5.out) fun i hi=>?_).less fun i hi=>?_
   ·have hne:i≠bx/\i≠b:=by
     rcases hi with hi | hi
     ·have:=hX'.out i hi
      omega
     ·omega
    rw[zbd _ hne.2,Below.heap_setCell _ _ _ _ hne.1]
   ·rcases hi with hi | hi
    ·exact Or.inl hi
    ·exact Or.inr ⟨by omega,by rw[sz5];exact hi.2⟩
  replace vb:=Zq vb;replace vbx:=Zq vbx;replace X3:=Zq X3;replace Z3:=Zq Z3;replace Z4:=Zq Z4;replace rl:=Zq rl;replace hl:=Zq hl;replace ht:=Zq ht;replace k3:=Zq k3;replace sz5:=Zq sz5;replace sw:=Zq sw;go_wp2;obtain⟨e0,e1,e2,_⟩:=zab B5.out;simp only[zav] at *;refine bodyPost_ret (v:=.tuple #[.agg #[.int .i64 d,.slice A n c,.slice B' n' c'],.int .i64 cd,.int .i64 0]) (by simp[results,Tryz.results29,go_sem,e0,e1,e2]) rfl ⟨B',c',n',P',?_,K5.out,R5.out,?_,fun h=>?_⟩
  ·rw[e3.out.1,e3.out.2.1]
  ·rw[e3.out.2.2];exact hl.out
  ·rw[e3.out.1] at h
   exact ht.out h
end Go.Proofs.YtcogiogjpbkeaaaGreatDoor.T14
namespace Go.Proofs.YtcogiogjpbkeaaaGreatDoor.T14
open Go.RowKit Go.Sort Go.Lib V12 T13
theorem zvd{w w1 W w3:World}{X:Nat->Prop}{bx b:Nat}{d:Int}{A:Option Addr}{n c:Nat}{B':Option Addr}{n' c':Nat}{P':Nat->zaa}(k:Keep w w1)(KW:Keep w1 W)(h1:w1.heap.size<=bx)(h2:w1.heap.size<=b)(hne:bx≠b)(hbx:bx<W.heap.size)(hb:b<W.heap.size)(hX:∀ i,X i->i<w1.heap.size)
  (k3:Keep W w3) (BZ:w3.heap[b]?=some (.cells zrc.arr 30 (0,0))) (rl:RL w (fun i=>X i\/(W.heap.size<=i/\i<w3.heap.size)) w3 B' c' n' P') :
  (zav (w3.setCell ⟨bx,2,none⟩ (.slice B' n' c')) b ⟨d,A,n,c,B',n',c'⟩).heap[b]?=some (.cells (⟨d,A,n,c,B',n',c'⟩:RcV).arr 30 (0,0))/\Keep w1 (zav (w3.setCell ⟨bx,2,none⟩ (.slice B' n' c')) b ⟨d,A,n,c,B',n',c'⟩) /\
  RL w (fun i=>X i\/(w1.heap.size<=i/\i<(zav (w3.setCell ⟨bx,2,none⟩ (.slice B' n' c')) b ⟨d,A,n,c,B',n',c'⟩).heap.size)) (zav (w3.setCell ⟨bx,2,none⟩ (.slice B' n' c')) b ⟨d,A,n,c,B',n',c'⟩) B' c' n' P':=by
 have Z4:(w3.setCell ⟨bx,2,none⟩ (.slice B' n' c')).heap[b]?=some (.cells zrc.arr 30 (0,0)):=(Below.heap_setCell _ _ _ _ (fun e=>hne e.symm)).trans BZ
 have K5:Keep w1 (zav (w3.setCell ⟨bx,2,none⟩ (.slice B' n' c')) b ⟨d,A,n,c,B',n',c'⟩):=zbz _ ((KW.trans k3).set h1 _) h2;have sz5:(zav (w3.setCell ⟨bx,2,none⟩ (.slice B' n' c')) b ⟨d,A,n,c,B',n',c'⟩).heap.size=w3.heap.size:=by rw[zdu];simp
 have s0:=KW.size;refine⟨zce _ zrc Z4,K5,(rl.same (k.trans K5) fun i hi=>?_).less fun i hi=>?_⟩
 ·have hne:i≠bx/\i≠b:=by
   rcases hi with hi | hi
   ·have:=hX i hi
    omega
   ·omega
  rw[zbd _ hne.2,Below.heap_setCell _ _ _ _ hne.1]
 ·rcases hi with hi | hi
  ·exact Or.inl hi
  ·exact Or.inr ⟨by omega,by rw[sz5];exact hi.2⟩
def zis(w w1:World)(X:Nat->Prop)(d:Int)(A:Option Addr)(n c:Nat)(L':List zaa)(cd ix:Int)(id:Int)(z:zaa)(e':Ending)(w':World):Prop :=
 ∃ B' c' n' P',e'=.returned (.tuple #[(⟨d,A,n,c,B',n',c'⟩:RcV).val,.int .i64 cd,.int .i64 ix])/\Keep w1 w'/\RL w (fun i=>X i\/(w1.heap.size<=i/\i<w'.heap.size)) w' B' c' n' P'/\(lst P' n').map nm=L'/\(cd=0->∃ t,t<n'/\findN P' id n'=(t:Int)/\nm (P' t)=z)
set_option maxRecDepth 100000 in
set_option maxHeartbeats 8000000 in
theorem zyw{w:World}{X:Nat->Prop}{w1:World}(d:Int)(A:Option Addr)(n c:Nat)(B:Option Addr)(m e:Nat){P:Nat->zaa}{L:List zaa}(h:RL w X w1 B e m P)(hL:(lst P m).map nm=L)(hok:LOk L)(id ev dl:Int)(hdl:I64 dl)(k:Keep w w1)(hX:∀ i,X i->i<w1.heap.size)(hn:m<=1000):
  Calls Tryz.prog 64 #[(⟨d,A,n,c,B,m,e⟩:RcV).val,.int .i64 id,.int .i64 ev,.int .i64 dl] w1 (zis w w1 X d A n c (cgL L id ev dl) (cgC L id ev) 0 id (zay (getL L id) ev (-1) dl)):=by
 unfold zis;obtain⟨W0,hW0⟩:=Zn (w1.alloc (.cells (⟨d,A,n,c,B,m,e⟩:RcV).arr 30));obtain⟨W,hW⟩:=Zn (W0.alloc (.cells zrc.arr 30));obtain⟨bx,hbx⟩:=Zn (w1.heap.size);obtain⟨b,hb⟩:=Zn (w1.heap.size+1);have s0:W0.heap.size=b:=by rw[hW0,World.size_alloc,hb]
 have KW:Hid (Keep w1 W):=by rw[hW,hW0];exact(Keep.one _ _:Keep w1 _).alloc _
 have BX:Hid (W.heap[bx]?=some (.cells (⟨d,A,n,c,B,m,e⟩:RcV).arr 30 (0,0))):=by show _=_;rw[hW,hW0,hbx];exact(Keep.one _ _).block (heap_alloc_new _ _)
 have BZ:Hid (W.heap[b]?=some (.cells zrc.arr 30 (0,0))):=by show _=_;rw[hW,<- s0];exact heap_alloc_new _ _
 have hR:=h.rd.keep KW.out;have cF:=Zq (zdg B m e P id W hR);have cS:=Zq (acn (h.keep KW.out) hL hok id ev (-1) dl (by unfold I64;omega) hdl hn)
 have hfi:0<=findN P id m↔id∈keys L:=by
  rw[find_iff,<- hL,zbq];refine⟨fun ⟨j,h,e⟩=>?_,fun h=>?_⟩
  ·exact List.mem_map.2 ⟨P j,lst_mem.2 ⟨j,h,rfl⟩,e⟩
  ·obtain⟨p,hp,e⟩:=List.mem_map.1 h
   obtain⟨j,hj,rfl⟩:=lst_mem.1 hp;exact⟨j,hj,e⟩
 obtain⟨c0,c1,c2,cf⟩:=zab BX.out;obtain⟨z0,z1,z2,zf⟩:=zab BZ.out;unfold zrc at z0 z1 z2;simp only at c0 c1 c2;have h':=Zq h;have hL':=Zq hL;have hX':=Zq hX;have k':=Zq k;obtain⟨r,hr⟩:=Zn (findN P id m);rw[<- hr] at cF hfi;replace hr:=Zq hr;simp only[RcV.arr] at hW0;simp only[RcV.arr,zrc] at hW;have c2e:=c2;rw[hW,hW0] at c2e;simp only[RcV.val];have nochg:∀ cd,cgC L id ev=cd->cd≠0->Hid (∃ B' c' n' P',(B'=B/\c'=e/\n'=m)/\Keep w1 (zav W b ⟨d,A,n,c,B,m,e⟩)/\RL w (fun i=>X i\/(w1.heap.size<=i/\i<(zav W b ⟨d,A,n,c,B,m,e⟩).heap.size)) (zav W b ⟨d,A,n,c,B,m,e⟩) B' c' n' P'/\(lst P' n').map nm=cgL L id ev dl/\(cgC L id ev=0->∃ t,t<n'/\findN P' id n'=(t:Int)/\nm (P' t)=zay (getL L id) ev (-1) dl)):=fun cd hcd hne=>by
  have K5:Keep w1 (zav W b ⟨d,A,n,c,B,m,e⟩):=zbz _ KW.out (by omega)
  refine⟨B,e,m,P,⟨rfl,rfl,rfl⟩,K5,(h.keep K5).less fun _=>Or.inl,?_,fun h0=>absurd (hcd.symm.trans h0) hne⟩
  unfold cgL;rw[if_neg (by rw[hcd];exact hne)]
  exact hL
 have B5:Hid ((zav W b ⟨d,A,n,c,B,m,e⟩).heap[b]?=some (.cells (⟨d,A,n,c,B,m,e⟩:RcV).arr 30 (0,0))):=zce _ zrc BZ.out;clear h hL hX k hR
 by_cases hk:id∈keys L
 ·have hr0:=hfi.2 hk
  by_cases he:ev=1\/ev=2
  ·have hc:cgC L id ev=8:=if_pos ⟨hk,he⟩
   have N5:=nochg 8 hc (by decide)
   rw[hc] at N5 ⊢;have hev:decide (ev=1)=true\/(decide (ev=1)=false/\decide (ev=2)=true):=by
    rcases he with rfl | rfl
    ·exact Or.inl (by decide)
    ·exact Or.inr ⟨by decide,by decide⟩
   clear nochg;replace hc:=Zq hc;replace hk:=Zq hk;replace hfi:=Zq hfi;rcases he with rfl | rfl
   all_goals
    go_enter Tryz.func64,Tryz.ntmps64
    go_wp2_with fail;clear c2e;rw[<- hW0,<- hW,<- hb];try rw[<- hbx]
    replace hW0:=Zq hW0;replace hW:=Zq hW;replace hb:=Zq hb;replace hbx:=Zq hbx;replace s0:=Zq s0;refine cF.out.mono ?_;rintro e' w2 ⟨rfl,rfl⟩;go_wp2;obtain⟨e0,e1,e2,_⟩:=zab B5.out;simp only[zav] at *;obtain⟨B',c',n',P',⟨rfl,rfl,rfl⟩,q2,q3,q4,q5⟩:=N5.out;refine bodyPost_ret (v:=.tuple #[.agg #[.int .i64 d,.slice A n c,.slice B' n' c'],.int .i64 8,.int .i64 0]) (by simp[results,Tryz.results64,go_sem,e0,e1,e2]) rfl ⟨B',c',n',P',rfl,q2,q3,q4,q5⟩
  ·have hc:cgC L id ev=zca L id ev:=if_neg fun h=>he h.2
   have h1:¬ev=1:=fun h=>he (Or.inl h)
   have h2:¬ev=2:=fun h=>he (Or.inr h)
   have b1:(ev == 1)=false:=by simp[h1]
   have b2:(ev == 2)=false:=by simp[h2]
   have hg:Hid (cgL L id ev dl=zde L id ev (-1) dl):=by
    show _=_
    unfold cgL zde;rw[hc]
    by_cases h0:zca L id ev=0
    ·simp only[h0,if_true]
    ·simp only[h0,if_false]
   rw[hc];obtain⟨cd,hcd⟩:=Zn (zca L id ev);rw[<- hcd] at cS ⊢;clear nochg;replace hcd:=Zq hcd;replace hc:=Zq hc;replace hk:=Zq hk;replace hfi:=Zq hfi;replace he:=Zq he
   go_enter Tryz.func64,Tryz.ntmps64
   go_wp2_with fail;clear c2e;rw[<- hW0,<- hW,<- hb];try rw[<- hbx]
   replace hW0:=Zq hW0;replace hW:=Zq hW;replace hb:=Zq hb;replace hbx:=Zq hbx;replace s0:=Zq s0;refine cF.out.mono ?_;rintro e' w2 ⟨rfl,rfl⟩;go_wp2_with fail;refine cS.out.mono ?_;rintro e' w3 ⟨B',c',n',P',rfl,k3,rl,hl,ht⟩;have X3:=k3.block BX.out;have Z3:=k3.block BZ.out;clear c0 c1 c2 cf z0 z1 z2 zf;obtain⟨c0,c1,c2,cf⟩:=zab X3;obtain⟨z0,z1,z2,zf⟩:=zab Z3;unfold zrc at z0 z1 z2;simp only at c0 c1 c2;obtain⟨F1,F2,F3⟩:=zvd (d:=d) (A:=A) (n:=n) (c:=c) (bx:=bx) (b:=b) k'.out KW.out (by have:=hbx.out;omega) (by have:=hb.out;omega) (by have:=hb.out;have:=hbx.out;omega) (lt_of_block BX.out) (lt_of_block BZ.out) hX'.out k3 Z3 rl
   have F1:=Zq F1;have F2:=Zq F2;have F3:=Zq F3;have hne:bx≠b:=by have:=hb.out;have:=hbx.out;omega
   replace X3:=Zq X3;replace Z3:=Zq Z3;replace rl:=Zq rl;replace hl:=Zq hl;replace ht:=Zq ht;replace k3:=Zq k3;go_wp2;obtain⟨e0,e1,e2,_⟩:=zab F1.out;simp only[zav] at *;refine bodyPost_ret (v:=.tuple #[.agg #[.int .i64 d,.slice A n c,.slice B' n' c'],.int .i64 cd,.int .i64 0]) (by simp[results,Tryz.results64,go_sem,e0,e1,e2]) rfl ⟨B',c',n',P',rfl,F2.out,F3.out,?_,ht.out⟩
   rw[hg.out];exact hl.out
 ·have hr0:r<0:=by
   have:¬0<=r:=fun h=>hk (hfi.1 h)
   omega
  have hc:cgC L id ev=5:=by
   unfold cgC zca;rw[if_neg fun h=>hk h.1,if_pos hk]
  have N5:=nochg 5 hc (by decide)
  rw[hc] at N5 ⊢;clear nochg;replace hc:=Zq hc;replace hk:=Zq hk;replace hfi:=Zq hfi
  go_enter Tryz.func64,Tryz.ntmps64
  go_wp2_with fail;clear c2e;rw[<- hW0,<- hW,<- hb];try rw[<- hbx]
  replace hW0:=Zq hW0;replace hW:=Zq hW;replace hb:=Zq hb;replace hbx:=Zq hbx;replace s0:=Zq s0;refine cF.out.mono ?_;rintro e' w2 ⟨rfl,rfl⟩;go_wp2;obtain⟨e0,e1,e2,_⟩:=zab B5.out;simp only[zav] at *;obtain⟨B',c',n',P',⟨rfl,rfl,rfl⟩,q2,q3,q4,q5⟩:=N5.out;refine bodyPost_ret (v:=.tuple #[.agg #[.int .i64 d,.slice A n c,.slice B' n' c'],.int .i64 5,.int .i64 0]) (by simp[results,Tryz.results64,go_sem,e0,e1,e2]) rfl ⟨B',c',n',P',rfl,q2,q3,q4,q5⟩
end Go.Proofs.YtcogiogjpbkeaaaGreatDoor.T14
