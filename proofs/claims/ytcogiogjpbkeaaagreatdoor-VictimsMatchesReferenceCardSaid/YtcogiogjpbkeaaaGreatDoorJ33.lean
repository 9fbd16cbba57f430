/-
  The landed store's Apply. No condition.
  The landed cluster: what Bind, Claim and Change leave, between their calls. No walk.
  The landed cluster: the usages behind Bind, Claim, Change; a pod as the result. No walk.
  The landed cluster: Claim. Condition: errors.errorType holds its own.
  The landed cluster: Bind. Condition: errors.errorType holds its own.
  Which phases hold resources. No condition.
-/
import Derived.Test.YtcogiogjpbkeaaaGreatDoorJ0
import Derived.Test.YtcogiogjpbkeaaaGreatDoorJ32
namespace Go.Proofs.YtcogiogjpbkeaaaGreatDoor.T13
open Go.RowKit Go.Sort Go.Lib V12
def ownB(r:zaa)(i:Nat):Prop:=(Value.slice r.A r.m r.c).ownBlock=some i
theorem ajm:∀ {w s q L X w1} (id e nd dl:Int),OSd w s q L X w1->I64 id->I64 e->I64 nd->I64 dl->(∀ y∈L,y.m<=1000)->L.length<=1000 ->
  Calls Tryz.prog 67 #[.pointer (some ⟨q,0,none⟩),.int .i64 id,.int .i64 e,.int .i64 nd,.int .i64 dl] w1 fun e' w'=>∃ r,e'=.returned (.tuple #[r.val,fltC (zca L id e)])/\(zca L id e=0->nm r=zay (getL L id) e nd dl)/\(zca L id e≠0->nm r=zaf)/\zah w' r/\Req w' w1.heap.size r/\OSd w s q (zde L id e nd dl) (fun i=>X i\/ownB r i) w'/\∀ i,X i->w'.heap[i]?=w1.heap[i]?:=by
 rintro w s q L X w1 id e nd dl ⟨t,m,A,c,P,h,hL,k0,hX⟩ hid he hnd hdl hm hl;have hk:=zlx hL
 by_cases h1:id∈keys L
 ·obtain⟨j,hj,rfl⟩:=zqc (by rw[<- hk];exact h1)
  have eg:(getL L (P j).k).h=(P j).h:=by
   rw[<- hL,<- zhn,h.get hj];rfl
  by_cases h2:nx (P j).h e=0
  ·have e8:zca L (P j).k e=8:=by unfold zca;rw[if_neg (not_not_intro h1),eg,if_pos h2]
   refine(zlh h hj e nd dl h2).mono ?_;rintro e' w' ⟨rfl,k⟩;rw[e8];refine⟨zaf,rfl,fun h=>absurd h (by decide),fun _=>rfl,zcb _,zby _ _,?_,fun i hi=>Below.block k i (hX i hi).1⟩
   unfold zde;rw[e8,if_neg (by decide)]
   refine OSd.more ⟨t,m,A,c,P,h,hL,k0,hX⟩ k ?_;intro i h0;exact absurd h0 (by simp[ownB,zaf,Value.ownBlock])
  ·have e0:zca L (P j).k e=0:=by unfold zca;rw[if_neg (not_not_intro h1),eg,if_neg h2]
   have ea:=zqf h hj (nd:=nd) (dl:=dl) h2;rw[hL] at ea;refine(zne h hj e nd dl hnd hdl h2 (m_of hL hm j hj)).mono ?_;rintro e' w' ⟨B,d,rfl,R,ok,S,f⟩;rw[e0];refine⟨(zay (P j) e nd dl).at B d,rfl,fun _=>?_,fun h=>absurd rfl h,R.is ok,R,?_,fun i hi=>f.block i (hX i hi).1 fun h3=>(hX i hi).2 (Or.inr (Or.inr (Or.inr (Or.inl h3))))⟩
   ·rw[<- hL,<- zhn,h.get hj]
    rfl
   ·have hFE:∀ i,FE q t m A c L.length (put P j (zay (P j) e nd dl)) i->FE q t m A c L.length P i:=by
     rintro i (h3 | h3 | h3 | h3 | ⟨i2,hi2,h3⟩)
     ·exact Or.inl h3
     ·exact Or.inr (Or.inl h3)
     ·exact Or.inr (Or.inr (Or.inl h3))
     ·exact Or.inr (Or.inr (Or.inr (Or.inl h3)))
     ·refine Or.inr (Or.inr (Or.inr (Or.inr ⟨i2,hi2,?_⟩)))
      by_cases e3:i2=j
      ·rw[e3,zat] at h3
       rw[e3];exact h3
      ·rw[zbj _ _ _ e3] at h3
       exact h3
    refine⟨t,m,A,c,put P j (zay (P j) e nd dl),by rw[zeg];exact S,by rw[zeg];exact ea.1,Fr.low k0 f fun i hi=>(h.lt i (Or.inr (Or.inr (Or.inr (Or.inl hi))))).1,?_⟩
    rw[zeg];rintro i (hi | hi)
    ·exact⟨Nat.lt_of_lt_of_le (hX i hi).1 f.size,fun hf=>(hX i hi).2 (hFE i hf)⟩
    ·have h3:=R.lt i hi
     exact⟨h3.2,fun hf=>by have:=(h.lt i (hFE i hf)).2;omega⟩
 ·have e5:zca L id e=5:=if_pos h1
  refine(zli h (by rw[<- hk];exact h1) e nd dl).mono ?_
  rintro e' w' ⟨rfl,k⟩;rw[e5];refine⟨zaf,rfl,fun h=>absurd h (by decide),fun _=>rfl,zcb _,zby _ _,?_,fun i hi=>Below.block k i (hX i hi).1⟩
  unfold zde;rw[e5,if_neg (by decide)]
  refine OSd.more ⟨t,m,A,c,P,h,hL,k0,hX⟩ k ?_;intro i h0;exact absurd h0 (by simp[ownB,zaf,Value.ownBlock])
end Go.Proofs.YtcogiogjpbkeaaaGreatDoor.T13
namespace Go.Proofs.YtcogiogjpbkeaaaGreatDoor.T14
open Go.RowKit Go.Sort Go.Lib V12 T13
theorem zvy{n:Nat}{Z:Nat->Int}(h:∀ j,j<n->Amt (Z j)):¬0<=zak n Z (n:Int):=by
 rw[zeb fun j hj=>?_,if_pos rfl]
 ·decide
 ·unfold zbg
  have:=h j hj;unfold Amt at this;exact decide_eq_false (by omega)
structure CsM(w:World)(d q:Nat)(L:List zaa)(X:Nat->Prop)(w1:World)(qn qp:Nat)(N:List T12.NodeV)(Xn Xp:Nat->Prop):Prop where
 blk:w1.heap[q]?=some (.cells #[.pointer (some ⟨qn,0,none⟩),.pointer (some ⟨qp,0,none⟩)] 98 (0,0))
 low:w.heap.size<=q
 on:ON w d 1024 qn N Xn w1
 os:OSd w 65536 qp L Xp w1
 qn':Xn q
 qp':Xp q
 qx:¬X q
 sub:∀ i,X i->Xn i/\Xp i
 cov:∀ i,i<w1.heap.size->Xn i\/Xp i
section
variable{w w1 w2 w3:World}{d q:Nat}{M:List NV}{L:List zaa}{X Z:Nat->Prop}{qn qp:Nat}{N:List T12.NodeV}{Xn Xp:Nat->Prop}
theorem zbw.m(h:zbw w d q M L X w1 qn qp N Xn Xp):CsM w d q L X w1 qn qp N Xn Xp:=⟨h.blk,h.low,h.on,h.os,h.qn',h.qp',h.qx,h.sub,h.cov⟩
theorem CsM.at(h:CsM w d q L X w1 qn qp N Xn Xp)(nds:N.map nvn=M)(use:∀ x∈N,∀ j,j<d->x.U j=zam L x.k j)(ok:Ok d M L):zbw w d q M L X w1 qn qp N Xn Xp:=⟨h.blk,h.low,h.on,h.os,h.qn',h.qp',h.qx,h.sub,h.cov,nds,use,ok⟩
theorem CsM.lt(h:CsM w d q L X w1 qn qp N Xn Xp):∀ i,X i->i<w1.heap.size:=fun i hi=>h.on.lt i (h.sub i hi).1
theorem CsM.keep(h:CsM w d q L X w1 qn qp N Xn Xp)(k:Keep w1 w2):CsM w d q L (fun i=>X i\/zef w1 w2 i) w2 qn qp N (fun i=>Xn i\/zef w1 w2 i) (fun i=>Xp i\/zef w1 w2 i):=by
 have hq:q<w1.heap.size:=lt_of_block h.blk;have kw:=h.on.kp.trans k;refine⟨k.block h.blk,h.low,h.on.grow kw k.size (fun i hi _=>Below.block k i hi) fun _ h=>h,zfy.grow h.os kw k.size (fun i hi _=>Below.block k i hi) fun _ h=>h,Or.inl h.qn',Or.inl h.qp',?_,?_,?_⟩
 ·rintro(h1 | h1)
  ·exact h.qx h1
  ·have:=h1.1
   omega
 ·rintro i (h1 | h1)
  ·exact⟨Or.inl (h.sub i h1).1,Or.inl (h.sub i h1).2⟩
  ·exact⟨Or.inr h1,Or.inr h1⟩
 ·intro i hi
  by_cases h1:i<w1.heap.size
  ·exact(h.cov i h1).imp Or.inl Or.inl
  ·exact Or.inl (Or.inr ⟨by omega,hi⟩)
theorem CsM.nodes{N2:List T12.NodeV}(h:CsM w d q L X w1 qn qp N Xn Xp)(o:ON w d 1024 qn N2 Xn w2)(sx:zbe Xn w1 w2)(hs:w1.heap.size<=w2.heap.size):CsM w d q L X w2 qn qp N2 Xn (fun i=>Xp i\/zef w1 w2 i):=by
 refine⟨(sx q h.qn').trans h.blk,h.low,o,zfy.grow h.os o.kp hs (fun k hk hn=>sx k ((h.cov k hk).resolve_right hn)) fun _ h=>h,h.qn',Or.inl h.qp',h.qx,fun i hi=>⟨(h.sub i hi).1,Or.inl (h.sub i hi).2⟩,fun i hi=>?_⟩
 by_cases h1:i<w1.heap.size
 ·exact(h.cov i h1).imp id Or.inl
 ·exact Or.inr (Or.inr ⟨by omega,hi⟩)
theorem CsM.pods{L2:List zaa}(h:CsM w d q L X w1 qn qp N Xn Xp)(o:OSd w 65536 qp L2 (fun i=>Xp i\/Z i) w2)(sx:zbe Xp w1 w2)(hs:w1.heap.size<=w2.heap.size):CsM w d q L2 X w2 qn qp N (fun i=>Xn i\/zef w1 w2 i) (fun i=>Xp i\/Z i):=by
 refine⟨(sx q h.qp').trans h.blk,h.low,h.on.grow (zfy.kp o) hs (fun k hk hn=>sx k ((h.cov k hk).resolve_left hn)) fun _ h=>h,o,Or.inl h.qn',Or.inl h.qp',h.qx,fun i hi=>⟨Or.inl (h.sub i hi).1,Or.inl (h.sub i hi).2⟩,fun i hi=>?_⟩
 by_cases h1:i<w1.heap.size
 ·exact(h.cov i h1).imp Or.inl Or.inl
 ·exact Or.inl (Or.inr ⟨by omega,hi⟩)
theorem zes(Y:Nat->Prop)(hs:w1.heap.size<w2.heap.size):∃ i,(Y i\/zef w1 w2 i)/\w2.heap.size<=i+1:=⟨w2.heap.size - 1,Or.inr ⟨by omega,by omega⟩,by omega⟩
theorem zyh{Y:Nat->Prop}(h:∃ i,Y i/\w1.heap.size<=i+1)(hs:w1.heap.size<=w2.heap.size):∃ i,(Y i\/zef w1 w2 i)/\w2.heap.size<=i+1:=by
 by_cases h1:w1.heap.size<w2.heap.size
 ·exact zes Y h1
 ·obtain⟨i,h2,h3⟩:=h
  exact⟨i,Or.inl h2,by omega⟩
theorem zvh{L2:List zaa}{s:Int}(o:OSd w s qp L2 (fun i=>Xp i\/Z i) w2)(hl:∃ i,Xp i/\w1.heap.size<=i+1):w1.heap.size<=w2.heap.size:=by
 obtain⟨i,h1,h2⟩:=hl;have:=zfy.lt o i (Or.inl h1);omega
theorem CsM.apply(h:CsM w d q L X w1 qn qp N Xn Xp)(hl:∃ i,Xp i/\w1.heap.size<=i+1)(id e nd dl:Int)(hid:I64 id)(he:I64 e)(hnd:I64 nd)(hdl:I64 dl)(hm:∀ y∈L,y.m<=1000)(hn:L.length<=1000):
  Calls Tryz.prog 67 #[.pointer (some ⟨qp,0,none⟩),.int .i64 id,.int .i64 e,.int .i64 nd,.int .i64 dl] w1 fun e' w'=>∃ r,e'=.returned (.tuple #[r.val,T13.fltC (zca L id e)])/\(zca L id e=0->nm r=zay (getL L id) e nd dl)/\(zca L id e≠0->nm r=zaf)/\zah w' r/\Req w' w1.heap.size r/\(∃ Yn,CsM w d q (zde L id e nd dl) X w' qn qp N Yn (fun i=>Xp i\/ownB r i)/\(∀ i,Xn i->Yn i)/\∀ i,zef w1 w' i->Yn i)/\zbe X w1 w'/\w1.heap.size<=w'.heap.size/\w.heap.size<=w'.heap.size:=by
 refine(ajm id e nd dl h.os hid he hnd hdl hm hn).mono ?_;rintro e' w' ⟨r,h1,h2,h3,h4,h5,o,sx⟩;have hs:=zvh o hl;exact⟨r,h1,h2,h3,h4,h5,⟨_,h.pods o sx hs,fun _ h=>Or.inl h,fun _ h=>Or.inr h⟩,fun i hi=>sx i (h.sub i hi).2,hs,(zfy.kp o).size⟩
theorem zwp{x:T12.NodeV}(hs:T12.NSrt N)(hx:x∈N){U:Nat->Int}:(G.rep T12.NodeV.k N ⟨x.k,x.C,U⟩).map nvn=N.map nvn:=by
 unfold G.rep;rw[List.map_map];refine List.map_congr_left fun y hy=>?_
 show nvn (if y.k=x.k then _ else y)=nvn y
 split
 ·rename_i e
  have e2:y=x:=by
   have a:=G.get_at (z:=T12.zn) hs hy;have b:=G.get_at (z:=T12.zn) hs hx;rw[show T12.NodeV.k y=T12.NodeV.k x from e] at a
   exact a.symm.trans b
  rw[e2];rfl
 ·rfl
theorem zxl{x:T12.NodeV}{U:Nat->Int}{f:Int->Nat->Int}(hu:∀ y∈N,y.k≠x.k->∀ j,j<d->y.U j=f y.k j)(h0:∀ j,j<d->U j=f x.k j):∀ y∈G.rep T12.NodeV.k N ⟨x.k,x.C,U⟩,∀ j,j<d->y.U j=f y.k j:=by
 intro y hy j hj;unfold G.rep at hy;obtain⟨z,hz,rfl⟩:=List.mem_map.1 hy
 by_cases e:z.k=x.k
 ·rw[if_pos (show T12.NodeV.k z=T12.NodeV.k ⟨x.k,x.C,U⟩ from e)]
  exact h0 j hj
 ·rw[if_neg (show ¬T12.NodeV.k z=T12.NodeV.k ⟨x.k,x.C,U⟩ from e)]
  exact hu z hz e j hj
theorem zah.m_of{r:zaa}{y:zaa}(h:nm r=y):r.m=y.m/\r.Z=y.Z/\r.h=y.h/\r.d=y.d/\r.k=y.k:=by rw[<- h];exact⟨rfl,rfl,rfl,rfl,rfl⟩
end
end Go.Proofs.YtcogiogjpbkeaaaGreatDoor.T14
namespace Go.Proofs.YtcogiogjpbkeaaaGreatDoor.T14
open Go.RowKit Go.Sort Go.Lib V12 T13
section
variable{w w1 wc w5:World}{d q:Nat}{M:List NV}{L:List zaa}{X Z:Nat->Prop}{qn qp:Nat}{N:List T12.NodeV}{Xn Xp:Nat->Prop}
theorem abr(id nd e:Int):plC M L d id nd e=if ckC M L id nd e=0 then(if e=1/\zji M L d id nd=false then 10 else 0) else ckC M L id nd e:=by
 unfold plC ckC
 by_cases h1:id∉keys L
 ·rw[if_pos h1,if_pos h1,if_neg (by decide)]
 ·rw[if_neg h1,if_neg h1]
  by_cases h2:nd∉nk M
  ·rw[if_pos h2,if_pos h2,if_neg (by decide)]
  ·rw[if_neg h2,if_neg h2]
   by_cases h3:nx (getL L id).h e=0
   ·rw[if_pos h3,if_pos h3,if_neg (by decide)]
   ·rw[if_neg h3,if_neg h3,if_pos rfl]
theorem zpw{id nd e:Int}(h:ckC M L id nd e=0):id∈keys L/\nd∈nk M/\nx (getL L id).h e≠0:=by
 unfold ckC at h
 by_cases h1:id∉keys L
 ·rw[if_pos h1] at h
  exact absurd h (by decide)
 ·rw[if_neg h1] at h
  by_cases h2:nd∉nk M
  ·rw[if_pos h2] at h
   exact absurd h (by decide)
  ·rw[if_neg h2] at h
   by_cases h3:nx (getL L id).h e=0
   ·rw[if_pos h3] at h
    exact absurd h (by decide)
   ·exact⟨Classical.not_not.1 h1,Classical.not_not.1 h2,h3⟩
theorem zbw.reqs(h:zbw w d q M L X w1 qn qp N Xn Xp){id:Int}(hk:id∈T13.keys L):(getL L id).m=d/\∀ j,j<d->Amt ((getL L id).Z j):=h.ok.req _ (get_some hk).1
theorem zbw.fits(h:zbw w d q M L X w1 qn qp N Xn Xp){id nd:Int}(hk:id∈T13.keys L)(hn:nd∈nk M):T12.chC N d nd d (getL L id).Z false=if zji M L d id nd=false then 10 else 0:=by
 obtain⟨g1,g2,g3⟩:=h.nget hn;have hr:=h.reqs hk;unfold T12.chC;rw[if_neg (not_not_intro (by rw[h.keys];exact hn)),if_neg (zvy hr.2)]
 have e:T12.chOk d (G.get T12.NodeV.k T12.zn N nd) false (getL L id).Z=zji M L d id nd:=by
  have e0:G.get T12.NodeV.k T12.zn N nd=T12.nget N nd:=rfl;rw[e0];unfold T12.chOk zji;rw[Bool.eq_iff_iff,List.all_eq_true,List.all_eq_true];have ee:∀ j,j<d->T12.chU false (T12.nget N nd).U (getL L id).Z j=zam L nd j+(getL L id).Z j/\0<=zam L nd j+(getL L id).Z j/\(T14.nget M nd).C j=(T12.nget N nd).C j:=fun j hj=>by
   have u:=h.use _ g1 j hj;rw[g2] at u;have a:=hr.2 j hj;have l:=zfu (id:=nd) (h.ok.amtL hj);unfold Amt at a;refine⟨?_,by omega,by rw[g3];rfl⟩
   unfold T12.chU;rw[if_neg (by decide),u]
  constructor
  ·intro hh j hj
   have hj2:=List.mem_range.1 hj;have h1:=hh j hj;obtain⟨e1,e2,e3⟩:=ee j hj2;rw[e1,<- e3] at h1;simp only[Bool.and_eq_true,decide_eq_true_eq] at h1;exact decide_eq_true h1.2
  ·intro hh j hj
   have hj2:=List.mem_range.1 hj;have h1:=of_decide_eq_true (hh j hj);obtain⟨e1,e2,e3⟩:=ee j hj2;rw[e1,<- e3];simp only[Bool.and_eq_true,decide_eq_true_eq];exact⟨e2,h1⟩
 rw[e]
 by_cases hf:zji M L d id nd=false
 ·rw[if_pos hf,hf]
  rfl
 ·rw[if_neg hf,if_pos (by simpa using hf)]
theorem zbw.held(h:zbw w d q M L X w1 qn qp N Xn Xp){id nd:Int}(h0:plC M L d id nd 1=0):(T12.chL N d nd d (getL L id).Z false).map nvn=M/\∀ x∈T12.chL N d nd d (getL L id).Z false,∀ j,j<d->x.U j=zam (plL M L d id nd 1) x.k j:=by
 obtain⟨hk,hn,_,hf⟩:=zjs h0;obtain⟨g1,g2,g3⟩:=h.nget hn;have hc:=h.fits hk hn;rw[if_neg (by rw[hf rfl];decide)] at hc
 unfold T12.chL;rw[if_pos hc];have e0:G.get T12.NodeV.k T12.zn N nd=T12.nget N nd:=rfl;rw[e0];obtain⟨x,hx⟩:=Zn (T12.nget N nd);rw[<- hx] at g1 g2 ⊢;subst g2;refine⟨(zwp h.on.srt g1).trans h.nds,zxl (fun y hy hne j hj=>?_) fun j hj=>?_⟩
 ·rw[zjt h.ok.lok (Or.inl rfl) h0,if_neg (fun hh=>hne hh.2.symm),h.use y hy j hj]
  omega
 ·rw[zjt h.ok.lok (Or.inl rfl) h0,if_pos ⟨rfl,rfl⟩,<- h.use x g1 j hj]
  rfl
theorem zbw.freed(h:zbw w d q M L X w1 qn qp N Xn Xp){id dl:Int}(h0:cgC L id 5=0)(hh:(getL L id).h=3\/(getL L id).h=4):T12.chC N d (getL L id).d d (getL L id).Z true=0/\(T12.chL N d (getL L id).d d (getL L id).Z true).map nvn=M/\∀ x∈T12.chL N d (getL L id).d d (getL L id).Z true,∀ j,j<d->x.U j=zam (cgL L id 5 dl) x.k j:=by
 obtain⟨h1,h2,hk⟩:=zmo h0;obtain⟨nd,hnd⟩:=Zn ((getL L id).d);have hn:nd∈nk M:=by rw[hnd];exact h.ok.plc _ (get_some hk).1 (by omega) (by omega)
 rw[<- hnd];obtain⟨g1,g2,g3⟩:=h.nget hn;have hr:=h.reqs hk;have hz:∀ i j,zbm i j (getL L id)=if nd=i then(getL L id).Z j else 0:=fun i j=>by rw[zjl hh,<- hnd]
 have hu:∀ i j,zam (cgL L id 5 dl) i j=zam L i j - if nd=i then(getL L id).Z j else 0:=fun i j=>by rw[zjf h.ok.lok h0,if_pos rfl,hz]
 have hok:=ztw (h.ok) (id:=id) (e:=5) (dl:=dl);have hc:T12.chC N d nd d (getL L id).Z true=0:=by
  unfold T12.chC;rw[if_neg (not_not_intro (by rw[h.keys];exact hn)),if_neg (zvy hr.2),if_pos]
  have e0:G.get T12.NodeV.k T12.zn N nd=T12.nget N nd:=rfl;rw[e0];unfold T12.chOk;rw[List.all_eq_true];intro j hj;have hj2:=List.mem_range.1 hj;have u:=h.use _ g1 j hj2;rw[g2] at u;have a:=hr.2 j hj2;unfold Amt at a;have l:=zfu (id:=nd) (hok.amtL hj2);rw[hu,if_pos rfl] at l;have f:=h.ok.fit _ (ajz hn).1 j hj2;rw[(ajz hn).2,g3] at f;have f2:zam L nd j<=(T12.nget N nd).C j:=f;unfold T12.chU;rw[if_pos rfl,u];simp only[Bool.and_eq_true,decide_eq_true_eq];omega
 refine⟨hc,?_⟩;unfold T12.chL;rw[if_pos hc];have e0:G.get T12.NodeV.k T12.zn N nd=T12.nget N nd:=rfl;rw[e0];obtain⟨x,hx⟩:=Zn (T12.nget N nd);rw[<- hx] at g1 g2 ⊢;replace hnd:=Zq hnd;subst g2;refine⟨(zwp h.on.srt g1).trans h.nds,zxl (fun y hy hne j hj=>?_) fun j hj=>?_⟩
 ·rw[hu,if_neg (fun hh=>hne hh.symm),h.use y hy j hj]
  omega
 ·rw[hu,if_pos rfl,<- h.use x g1 j hj]
  rfl
theorem zgb{L2:List zaa}{b base:Nat}{r:zaa}(KW:Keep w1 wc)(hb:zef w1 wc b)(hw:w.heap.size<=w1.heap.size)(Yb:wc.heap[b]?=some (.cells (zac zaf) 26 (0,0)))(cs:CSd w d q M L2 (fun i=>X i\/zef w1 wc i) w5)(sx:zbe (fun i=>X i\/zef w1 wc i) wc w5)(hX:∀ i,X i->i<w1.heap.size)(hi:zah w5 r)(hr:Req w5 base r)(h1:wc.heap.size<=base):
  w5.heap[b]?=some (.cells (zac zaf) 26 (0,0))/\(put9 w5 b r).heap[b]?=some (.cells (zac r) 26 (0,0))/\zah (put9 w5 b r) r/\Req (put9 w5 b r) w1.heap.size r/\CSd w d q M L2 X (put9 w5 b r)/\zbe X w1 (put9 w5 b r):=by
 have Y5:=(sx b (Or.inr hb)).trans Yb;have hr2:=zwy hr (b:=b) (Nat.lt_of_lt_of_le hb.2 h1) r;refine⟨Y5,zcp _ zaf Y5,hr2.is hi.ok,own_base' hr2 (Nat.le_trans KW.size h1),(cs.put (Or.inr hb) (Nat.le_trans hw hb.1) r).less fun _ h=>Or.inl h,fun i h=>?_⟩
 have h2:=hX i h;have h3:=hb.1;rw[zdd r (by omega),sx i (Or.inl h),Below.block KW i h2]
theorem zke{b:Nat}(cs:CSd w d q M L X w1)(KW:Keep w1 w5)(hb:w1.heap.size<=b)(Yb:w5.heap[b]?=some (.cells (zac zaf) 26 (0,0))):(put9 w5 b zaf).heap[b]?=some (.cells (zac zaf) 26 (0,0))/\CSd w d q M L X (put9 w5 b zaf)/\zbe X w1 (put9 w5 b zaf):=
 have k:=zdi zaf KW hb
 ⟨zcp _ zaf Yb,cs.keep k,fun i hi=>Below.block k i (cs.lt i hi)⟩
end
end Go.Proofs.YtcogiogjpbkeaaaGreatDoor.T14
namespace Go.Proofs.YtcogiogjpbkeaaaGreatDoor.T14
open Go.RowKit Go.Sort Go.Lib V12 T13
section
variable{w w1 w2:World}{d q:Nat}{M:List NV}{L:List zaa}{X Z:Nat->Prop}{qn qp:Nat}{N:List T12.NodeV}{Xn Xp:Nat->Prop}
set_option maxRecDepth 100000 in
set_option maxHeartbeats 8000000 in
theorem zxt(h:zbw w d q M L X w1 qn qp N Xn Xp)(id nd:Int)(hid:I64 id)(hnd:I64 nd)(hl:L.length<=100):Calls Tryz.prog 62 #[.pointer (some ⟨q,0,none⟩),.int .i64 id,.int .i64 nd] w1 fun e w'=>∃ r,e=.returned (.tuple #[r.val,zdb (plC M L d id nd 2) (plI M L id nd)])/\(plC M L d id nd 2=0->nm r=zay (getL L id) 2 nd (-1))/\(plC M L d id nd 2≠0->nm r=zaf)/\zah w' r/\Req w' w1.heap.size r/\CSd w d q M (plL M L d id nd 2) X w'/\zbe X w1 w':=by
 have hw0:=h.kp.size;have hX:=h.lt;obtain⟨W,hW⟩:=Zn (w1.alloc (.cells (zac zaf) 26));have KW:Hid (Keep w1 W):=by rw[hW];exact Keep.one _ _
 obtain⟨b,hb⟩:=Zn (w1.heap.size);have Y:Hid (W.heap[b]?=some (.cells (zac zaf) 26 (0,0))):=by show _=_;rw[hW,hb];exact heap_alloc_new _ _
 have hbW:b<W.heap.size:=lt_of_block Y.out;have cB:Hid (Calls Tryz.prog 54 #[.pointer (some ⟨q,0,none⟩)] W fun e w'=>e=.returned (.agg #[.pointer (some ⟨qn,0,none⟩),.pointer (some ⟨qp,0,none⟩)])/\Keep W w'):=zgw (h.keep KW.out).c2.1 (h.keep KW.out).c2.2
 have YC:Hid (∀ w',Keep W w'->w'.heap[b]?=some (.cells (zac zaf) 26 (0,0))):=fun w' k=>k.block Y.out
 have ZF:Hid (∀ w',Keep W w'->(put9 w' b zaf).heap[b]?=some (.cells (zac zaf) 26 (0,0))/\CSd w d q M L X (put9 w' b zaf)/\zbe X w1 (put9 w' b zaf)):=fun w' k=>zke h.cs (KW.out.trans k) (by omega) (k.block Y.out)
 unfold zac zaf at hW;have cC:Hid (∀ W',Keep W W'->Calls Tryz.prog 65 #[(.agg #[.pointer (some ⟨qn,0,none⟩),.pointer (some ⟨qp,0,none⟩)]),.int .i64 id,.int .i64 nd,.int .i64 2] W' fun e w'=>∃ r,e=.returned (.tuple #[r.val,zdb (ckC M L id nd 2) (plI M L id nd)])/\(ckC M L id nd 2=0->nm r=getL L id)/\zah w' r/\Req w' W'.heap.size r/\Keep W' w'):=fun W' k=>(zrk (h.keep (KW.out.trans k)) id nd 2 hid).mono fun _ _ ⟨r,he,h1,_,h3,h4,h5⟩=>⟨r,he,h1,h3,h4,h5⟩
 obtain⟨cc,hcc⟩:=Zn (ckC M L id nd 2);obtain⟨ci,hci⟩:=Zn (plI M L id nd);rw[<- hcc,<- hci] at cC;have hpc:=abr (M:=M) (L:=L) (d:=d) id nd 2;rw[<- hcc] at hpc;rw[<- hci]
 by_cases hz:cc=0
 ·obtain⟨hk,hnk,hx⟩:=zpw (hcc.symm.trans hz)
  have hzr:=h.reqs hk;rw[if_pos hz] at hpc;have e1:zdb cc ci=.nilIface:=if_pos hz;rw[e1] at cC;have h100:=h.m1000;rw[if_neg fun hh=>absurd hh.1 (by decide)] at hpc
  have happ:zca L id 2=0:=zmb hpc;have hL2:plL M L d id nd 2=zde L id 2 nd (-1):=if_pos hpc;have hok:Ok d M (plL M L d id nd 2):=abu h.ok (Or.inr rfl);have hci0:ci=0:=by rw[hci];exact if_neg fun hh=>hh.2 hnk
  have huse:∀ x∈N,∀ j,j<d->x.U j=zam (plL M L d id nd 2) x.k j:=fun x hx j hj=>by
   rw[zjt h.ok.lok (Or.inr rfl) hpc,if_neg (fun hh=>absurd hh.1 (by decide)),h.use x hx j hj]
   omega
  have cA:Hid (∀ W',Keep W W'->W.heap.size<W'.heap.size->Calls Tryz.prog 67 #[.pointer (some ⟨qp,0,none⟩),.int .i64 id,.int .i64 2,.int .i64 nd,.int .i64 (-1)] W' fun e w5=>∃ r5,e=.returned (.tuple #[r5.val,.nilIface])/\nm r5=zay (getL L id) 2 nd (-1)/\(w5.heap[b]?=some (.cells (zac zaf) 26 (0,0))/\(put9 w5 b r5).heap[b]?=some (.cells (zac r5) 26 (0,0))/\zah (put9 w5 b r5) r5/\Req (put9 w5 b r5) w1.heap.size r5/\CSd w d q M (plL M L d id nd 2) X (put9 w5 b r5)/\zbe X w1 (put9 w5 b r5))):=fun W' k hs=>by
   have kk:=KW.out.trans k;have h2:=h.keep kk;have hsz:w1.heap.size<W'.heap.size:=by have:=KW.out.size;omega
   refine(h2.m.apply (zes _ hsz) id 2 nd (-1) hid (by unfold I64;omega) hnd (by unfold I64;omega) h100 (by omega)).mono ?_
   rintro e w5 ⟨r5,he,h3,_,h5,h6,⟨Yn,h7,_⟩,h8,h9,_⟩;rw[<- hL2] at h7;refine⟨r5,by rw[he];unfold T13.fltC;rw[if_pos happ],h3 happ,zgb kk ⟨by omega,by omega⟩ hw0 (k.block Y.out) (h7.at h.nds huse hok).cs h8 hX h5 h6 (Nat.le_refl _)⟩
  rw[hpc,hci0];have e2:zdb 0 0=.nilIface:=rfl;rw[e2];replace hpc:=Zq hpc;replace hL2:=Zq hL2;replace hcc:=Zq hcc;replace hci:=Zq hci;replace hz:=Zq hz;replace hx:=Zq hx;replace hnk:=Zq hnk;replace hk:=Zq hk;clear e1 e2 h happ huse hok hzr h100 hci0
  go_enter Tryz.func62,Tryz.ntmps62
  go_wp2_with fail;rw[<- hW];try rw[<- hb]
  replace hW:=Zq hW;replace hb:=Zq hb;replace hbW:=Zq hbW;replace hX:=Zq hX;replace hw0:=Zq hw0;refine cB.out.mono ?_;rintro e w2 ⟨rfl,k2⟩;obtain⟨W2,hW2⟩:=Zn (w2.alloc (.cells #[.pointer (some ⟨qn,0,none⟩),.pointer (some ⟨qp,0,none⟩)] 96));obtain⟨b8,hb8⟩:=Zn (w2.heap.size);have K2:Hid (Keep W W2):=by rw[hW2];exact k2.alloc _
  have B8:Hid (W2.heap[b8]?=some (.cells #[.pointer (some ⟨qn,0,none⟩),.pointer (some ⟨qp,0,none⟩)] 96 (0,0))):=by show _=_;rw[hW2,hb8];exact heap_alloc_new _ _
  obtain⟨t0,t1,_⟩:=T12.cel2 B8.out;rw[hW2,hb8] at t0 t1;replace k2:=Zq k2;go_wp2_with fail;rw[<- hW2];try rw[<- hb8]
  replace hW2:=Zq hW2;replace hb8:=Zq hb8;clear t0 t1;refine(cC.out W2 K2.out).mono ?_;rintro e w3 ⟨r,rfl,hn,hi,hr,k3⟩;obtain⟨W3,hW3⟩:=Zn (w3.alloc (.cells (zac r) 26));obtain⟨b9,hb9⟩:=Zn (w3.heap.size);have K23:Hid (Keep W2 W3):=by rw[hW3];exact k3.alloc _
  have KA:Hid (Keep w3 W3):=by rw[hW3];exact Keep.one _ _
  have K3:Hid (Keep W W3):=K2.out.trans K23.out;have B9:Hid (W3.heap[b9]?=some (.cells (zac r) 26 (0,0))):=by show _=_;rw[hW3,hb9];exact heap_alloc_new _ _
  have HI:=Zq (hi.keep KA.out);have u4:=(zae B9.out).e4;obtain⟨t0,t1,_⟩:=T12.cel2 (K23.out.block B8.out);obtain⟨d0,d1,d2,d3,d4,d5,d6,d7,d8,g0⟩:=zae (YC.out W3 K3.out);unfold zaf at d0 d1 d2 d3 d4 d5 d6 d7 d8;unfold zac at hW3;rw[hW3,hb9] at u4;rw[hW3] at t0 t1 d0 d1 d2 d3 d4 d5 d6 d7 d8 g0;replace hn:=Zq hn;replace hi:=Zq hi;replace hr:=Zq hr;replace k3:=Zq k3;unfold zaa.val;go_wp2_with fail;rw[<- hW3];refine(cA.out W3 K3.out (Nat.lt_of_lt_of_le (lt_of_block B9.out |> fun _=>by have:=lt_of_block B8.out;have:=k2.out.size;have:=hb8.out;omega) K23.out.size)).mono ?_
  rintro e w5 ⟨r5,rfl,hn5,F5⟩;replace hn5:=Zq hn5;replace F5:=Zq F5;clear d0 d1 d2 d3 d4 d5 d6 d7 d8 g0 t0 t1 u4;obtain⟨d0,d1,d2,d3,d4,d5,d6,d7,d8,g0⟩:=zae F5.out.1;unfold zaf at d0 d1 d2 d3 d4 d5 d6 d7 d8;unfold zaa.val;go_wp2;obtain⟨_,fb,fi,fr,fc,fx⟩:=F5.out;obtain⟨e0,e1,e2,e3,e4,e5,e6,e7,e8,_⟩:=zae fb;unfold put9 at *;refine bodyPost_ret (v:=.tuple #[.agg #[.int .i64 r5.k,.int .i64 r5.p,.bool r5.f,.int .i64 r5.g,.slice r5.A r5.m r5.c,.int .i64 r5.a,.int .i64 r5.h,.int .i64 r5.d,.int .i64 r5.t],.nilIface]) (by simp[results,Tryz.results62,go_sem,e0,e1,e2,e3,e4,e5,e6,e7,e8]) rfl ⟨r5,rfl,fun _=>hn5.out,fun h=>absurd rfl h,fi,fr,fc,fx⟩
 ·have hne:Hid (cc≠0):=hz
  rw[if_neg hz] at hpc;rw[hpc];have hL2:plL M L d id nd 2=L:=by
   unfold plL;rw[if_neg (by rw[hpc];exact hz)]
  rw[hL2];have e1:zdb cc ci=.iface 148 (.agg #[.int .i64 cc,.int .i64 ci]):=if_neg hz;rw[e1] at cC ⊢;replace hpc:=Zq hpc;replace hL2:=Zq hL2;replace hcc:=Zq hcc;replace hci:=Zq hci;replace hz:=Zq hz;clear e1 h
  go_enter Tryz.func62,Tryz.ntmps62
  go_wp2_with fail;rw[<- hW];try rw[<- hb]
  replace hW:=Zq hW;replace hb:=Zq hb;replace hbW:=Zq hbW;replace hX:=Zq hX;replace hw0:=Zq hw0;refine cB.out.mono ?_;rintro e w2 ⟨rfl,k2⟩;obtain⟨W2,hW2⟩:=Zn (w2.alloc (.cells #[.pointer (some ⟨qn,0,none⟩),.pointer (some ⟨qp,0,none⟩)] 96));obtain⟨b8,hb8⟩:=Zn (w2.heap.size);have K2:Hid (Keep W W2):=by rw[hW2];exact k2.alloc _
  have B8:Hid (W2.heap[b8]?=some (.cells #[.pointer (some ⟨qn,0,none⟩),.pointer (some ⟨qp,0,none⟩)] 96 (0,0))):=by show _=_;rw[hW2,hb8];exact heap_alloc_new _ _
  obtain⟨t0,t1,_⟩:=T12.cel2 B8.out;rw[hW2,hb8] at t0 t1;replace k2:=Zq k2;go_wp2_with fail;rw[<- hW2];try rw[<- hb8]
  replace hW2:=Zq hW2;replace hb8:=Zq hb8;clear t0 t1;refine(cC.out W2 K2.out).mono ?_;rintro e w3 ⟨r,rfl,hn,hi,hr,k3⟩;obtain⟨W3,hW3⟩:=Zn (w3.alloc (.cells (zac r) 26));obtain⟨b9,hb9⟩:=Zn (w3.heap.size);have K23:Hid (Keep W2 W3):=by rw[hW3];exact k3.alloc _
  have KA:Hid (Keep w3 W3):=by rw[hW3];exact Keep.one _ _
  have K3:Hid (Keep W W3):=K2.out.trans K23.out;have B9:Hid (W3.heap[b9]?=some (.cells (zac r) 26 (0,0))):=by show _=_;rw[hW3,hb9];exact heap_alloc_new _ _
  have HI:=Zq (hi.keep KA.out);have u4:=(zae B9.out).e4;obtain⟨t0,t1,_⟩:=T12.cel2 (K23.out.block B8.out);obtain⟨d0,d1,d2,d3,d4,d5,d6,d7,d8,g0⟩:=zae (YC.out W3 K3.out);unfold zaf at d0 d1 d2 d3 d4 d5 d6 d7 d8;unfold zac at hW3;rw[hW3,hb9] at u4;rw[hW3] at t0 t1 d0 d1 d2 d3 d4 d5 d6 d7 d8 g0;replace hn:=Zq hn;replace hi:=Zq hi;replace hr:=Zq hr;replace k3:=Zq k3;unfold zaa.val;go_wp2;rw[<- hW3];obtain⟨z,cs,sx⟩:=ZF.out W3 K3.out;obtain⟨e0,e1,e2,e3,e4,e5,e6,e7,e8,_⟩:=zae z;unfold put9 zaf at *;refine bodyPost_ret (v:=.tuple #[.agg #[.int .i64 0,.int .i64 0,.bool false,.int .i64 0,.slice none 0 0,.int .i64 0,.int .i64 0,.int .i64 0,.int .i64 0],.iface 148 (.agg #[.int .i64 (cc),.int .i64 (ci)])]) (by simp[results,Tryz.results62,go_sem,e0,e1,e2,e3,e4,e5,e6,e7,e8]) rfl ⟨zaf,rfl,fun h=>absurd h (hne.out),fun _=>rfl,zcb _,zby _ _,cs,sx⟩
end
end Go.Proofs.YtcogiogjpbkeaaaGreatDoor.T14
namespace Go.Proofs.YtcogiogjpbkeaaaGreatDoor.T14
open Go.RowKit Go.Sort Go.Lib V12 T13
section
variable{w w1 w2:World}{d q:Nat}{M:List NV}{L:List zaa}{X Z:Nat->Prop}{qn qp:Nat}{N:List T12.NodeV}{Xn Xp:Nat->Prop}
set_option maxRecDepth 100000 in
set_option maxHeartbeats 8000000 in
theorem aae(h:zbw w d q M L X w1 qn qp N Xn Xp)(id nd:Int)(hid:I64 id)(hnd:I64 nd)(hl:L.length<=100):Calls Tryz.prog 32 #[.pointer (some ⟨q,0,none⟩),.int .i64 id,.int .i64 nd] w1 fun e w'=>∃ r,e=.returned (.tuple #[r.val,zdb (plC M L d id nd 1) (plI M L id nd)])/\(plC M L d id nd 1=0->nm r=zay (getL L id) 1 nd (-1))/\(plC M L d id nd 1≠0->nm r=zaf)/\zah w' r/\Req w' w1.heap.size r/\CSd w d q M (plL M L d id nd 1) X w'/\zbe X w1 w':=by
 have hw0:=h.kp.size;have hX:=h.lt;obtain⟨W,hW⟩:=Zn (w1.alloc (.cells (zac zaf) 26));have KW:Hid (Keep w1 W):=by rw[hW];exact Keep.one _ _
 obtain⟨b,hb⟩:=Zn (w1.heap.size);have Y:Hid (W.heap[b]?=some (.cells (zac zaf) 26 (0,0))):=by show _=_;rw[hW,hb];exact heap_alloc_new _ _
 have hbW:b<W.heap.size:=lt_of_block Y.out;have cB:Hid (Calls Tryz.prog 54 #[.pointer (some ⟨q,0,none⟩)] W fun e w'=>e=.returned (.agg #[.pointer (some ⟨qn,0,none⟩),.pointer (some ⟨qp,0,none⟩)])/\Keep W w'):=zgw (h.keep KW.out).c2.1 (h.keep KW.out).c2.2
 have YC:Hid (∀ w',Keep W w'->w'.heap[b]?=some (.cells (zac zaf) 26 (0,0))):=fun w' k=>k.block Y.out
 have ZF:Hid (∀ w',Keep W w'->(put9 w' b zaf).heap[b]?=some (.cells (zac zaf) 26 (0,0))/\CSd w d q M L X (put9 w' b zaf)/\zbe X w1 (put9 w' b zaf)):=fun w' k=>zke h.cs (KW.out.trans k) (by omega) (k.block Y.out)
 unfold zac zaf at hW;have cC:Hid (∀ W',Keep W W'->Calls Tryz.prog 65 #[(.agg #[.pointer (some ⟨qn,0,none⟩),.pointer (some ⟨qp,0,none⟩)]),.int .i64 id,.int .i64 nd,.int .i64 1] W' fun e w'=>∃ r,e=.returned (.tuple #[r.val,zdb (ckC M L id nd 1) (plI M L id nd)])/\(ckC M L id nd 1=0->nm r=getL L id)/\zah w' r/\Req w' W'.heap.size r/\Keep W' w'):=fun W' k=>(zrk (h.keep (KW.out.trans k)) id nd 1 hid).mono fun _ _ ⟨r,he,h1,_,h3,h4,h5⟩=>⟨r,he,h1,h3,h4,h5⟩
 obtain⟨cc,hcc⟩:=Zn (ckC M L id nd 1);obtain⟨ci,hci⟩:=Zn (plI M L id nd);rw[<- hcc,<- hci] at cC;have hpc:=abr (M:=M) (L:=L) (d:=d) id nd 1;rw[<- hcc] at hpc;rw[<- hci]
 by_cases hz:cc=0
 ·have HZ:Hid (cc=0):=hz
  by_cases hf:zji M L d id nd=false
  ·obtain⟨hk,hnk,hx⟩:=zpw (hcc.symm.trans hz)
   have hzr:=h.reqs hk;rw[if_pos hz] at hpc;have e1:zdb cc ci=.nilIface:=if_pos hz;rw[e1] at cC;have h100:=h.m1000;have hci0:ci=0:=by rw[hci];exact if_neg fun hh=>hh.2 hnk
   rw[if_pos ⟨rfl,hf⟩] at hpc;have hL2:plL M L d id nd 1=L:=by
    unfold plL;rw[if_neg (by rw[hpc];decide)]
   rw[hL2,hpc,hci0];have e2:zdb 10 0=.iface 148 (.agg #[.int .i64 10,.int .i64 0]):=rfl;rw[e2];have hne:Hid ((10:Int)≠0):=by show ¬_;decide
   have cH:Hid (∀ W' r,Keep W W'->nm r=getL L id->zah W' r->Calls Tryz.prog 66 #[.pointer (some ⟨qn,0,none⟩),.int .i64 nd,.slice r.A r.m r.c] W' fun e w4=>e=.returned (.iface 148 (.agg #[.int .i64 10,.int .i64 0]))/\(w4.heap[b]?=some (.cells (zac zaf) 26 (0,0))/\(put9 w4 b zaf).heap[b]?=some (.cells (zac zaf) 26 (0,0))/\zah (put9 w4 b zaf) zaf/\Req (put9 w4 b zaf) w1.heap.size zaf/\CSd w d q M L X (put9 w4 b zaf)/\zbe X w1 (put9 w4 b zaf))):=fun W' r k hn hi=>by
    have kk:=KW.out.trans k;have h2:=h.keep kk;obtain⟨em,eZ,_⟩:=zah.m_of hn;have hv:=hi.rd;rw[em,hzr.1,eZ] at hv;rw[em,hzr.1];have fc:=h2.fits hk hnk;rw[if_pos hf] at fc;refine(zwt h2.on nd r.A d r.c (getL L id).Z hv).mono ?_;rintro e w4 ⟨he,o,sx,hs⟩;have el:T12.chL N d nd d (getL L id).Z false=N:=by
     unfold T12.chL;rw[if_neg (by rw[fc];decide)]
    rw[el] at o;have h4:=((h2.m.nodes o sx hs).at h.nds h.use h.ok).cs;have:=k.size;refine⟨by rw[he,fc];rfl,zgb (base:=w4.heap.size) kk ⟨by omega,by omega⟩ hw0 (k.block Y.out) h4 (fun i hi=>sx i (h2.sub i hi).1) hX (zcb _) (zby _ _) hs⟩
   replace hpc:=Zq hpc;replace hL2:=Zq hL2;replace hcc:=Zq hcc;replace hci:=Zq hci;replace hz:=Zq hz;replace hx:=Zq hx;replace hnk:=Zq hnk;replace hk:=Zq hk;replace hf:=Zq hf;clear e1 e2 h hzr h100 hci0
   go_enter Tryz.func32,Tryz.ntmps32
   go_wp2_with fail;rw[<- hW];try rw[<- hb]
   replace hW:=Zq hW;replace hb:=Zq hb;replace hbW:=Zq hbW;replace hX:=Zq hX;replace hw0:=Zq hw0;refine cB.out.mono ?_;rintro e w2 ⟨rfl,k2⟩;obtain⟨W2,hW2⟩:=Zn (w2.alloc (.cells #[.pointer (some ⟨qn,0,none⟩),.pointer (some ⟨qp,0,none⟩)] 96));obtain⟨b8,hb8⟩:=Zn (w2.heap.size);have K2:Hid (Keep W W2):=by rw[hW2];exact k2.alloc _
   have B8:Hid (W2.heap[b8]?=some (.cells #[.pointer (some ⟨qn,0,none⟩),.pointer (some ⟨qp,0,none⟩)] 96 (0,0))):=by show _=_;rw[hW2,hb8];exact heap_alloc_new _ _
   obtain⟨t0,t1,_⟩:=T12.cel2 B8.out;rw[hW2,hb8] at t0 t1;replace k2:=Zq k2;go_wp2_with fail;rw[<- hW2];try rw[<- hb8]
   replace hW2:=Zq hW2;replace hb8:=Zq hb8;clear t0 t1;refine(cC.out W2 K2.out).mono ?_;rintro e w3 ⟨r,rfl,hn,hi,hr,k3⟩;obtain⟨W3,hW3⟩:=Zn (w3.alloc (.cells (zac r) 26));obtain⟨b9,hb9⟩:=Zn (w3.heap.size);have K23:Hid (Keep W2 W3):=by rw[hW3];exact k3.alloc _
   have KA:Hid (Keep w3 W3):=by rw[hW3];exact Keep.one _ _
   have K3:Hid (Keep W W3):=K2.out.trans K23.out;have B9:Hid (W3.heap[b9]?=some (.cells (zac r) 26 (0,0))):=by show _=_;rw[hW3,hb9];exact heap_alloc_new _ _
   have HI:=Zq (hi.keep KA.out);have u4:=(zae B9.out).e4;obtain⟨t0,t1,_⟩:=T12.cel2 (K23.out.block B8.out);obtain⟨d0,d1,d2,d3,d4,d5,d6,d7,d8,g0⟩:=zae (YC.out W3 K3.out);unfold zaf at d0 d1 d2 d3 d4 d5 d6 d7 d8;unfold zac at hW3;rw[hW3,hb9] at u4;rw[hW3] at t0 t1 d0 d1 d2 d3 d4 d5 d6 d7 d8 g0;replace hn:=Zq hn;replace hi:=Zq hi;replace hr:=Zq hr;replace k3:=Zq k3;unfold zaa.val;go_wp2_with fail;rw[<- hW3];refine(cH.out W3 r K3.out (hn.out HZ.out) HI.out).mono ?_;rintro e w4 ⟨rfl,F5⟩;replace F5:=Zq F5;clear d0 d1 d2 d3 d4 d5 d6 d7 d8 g0 t0 t1 u4;obtain⟨d0,d1,d2,d3,d4,d5,d6,d7,d8,g0⟩:=zae F5.out.1;unfold zaf at d0 d1 d2 d3 d4 d5 d6 d7 d8;go_wp2;obtain⟨_,fb,fi,fr,fc,fx⟩:=F5.out;obtain⟨e0,e1,e2,e3,e4,e5,e6,e7,e8,_⟩:=zae fb;unfold put9 zaf at *;refine bodyPost_ret (v:=.tuple #[.agg #[.int .i64 0,.int .i64 0,.bool false,.int .i64 0,.slice none 0 0,.int .i64 0,.int .i64 0,.int .i64 0,.int .i64 0],.iface 148 (.agg #[.int .i64 10,.int .i64 0])]) (by simp[results,Tryz.results32,go_sem,e0,e1,e2,e3,e4,e5,e6,e7,e8]) rfl ⟨zaf,rfl,fun h=>absurd h hne.out,fun _=>rfl,fi,fr,fc,fx⟩
  ·obtain⟨hk,hnk,hx⟩:=zpw (hcc.symm.trans hz)
   have hzr:=h.reqs hk;rw[if_pos hz] at hpc;have e1:zdb cc ci=.nilIface:=if_pos hz;rw[e1] at cC;have h100:=h.m1000;rw[if_neg fun hh=>hf hh.2] at hpc
   have happ:zca L id 1=0:=zmb hpc;have hL2:plL M L d id nd 1=zde L id 1 nd (-1):=if_pos hpc;have hok:Ok d M (plL M L d id nd 1):=abu h.ok (Or.inl rfl);have hci0:ci=0:=by rw[hci];exact if_neg fun hh=>hh.2 hnk
   obtain⟨hds,hus⟩:=h.held hpc;have cH:Hid (∀ W' r,Keep W W'->W.heap.size<W'.heap.size->nm r=getL L id->zah W' r->Calls Tryz.prog 66 #[.pointer (some ⟨qn,0,none⟩),.int .i64 nd,.slice r.A r.m r.c] W' fun e w4=>e=.returned .nilIface/\zbe (fun i=>X i\/zef w1 W' i) W' w4/\(Calls Tryz.prog 67 #[.pointer (some ⟨qp,0,none⟩),.int .i64 id,.int .i64 1,.int .i64 nd,.int .i64 (-1)] w4 fun e w5=>∃ r5,e=.returned (.tuple #[r5.val,.nilIface])/\nm r5=zay (getL L id) 1 nd (-1)/\(w5.heap[b]?=some (.cells (zac zaf) 26 (0,0))/\(put9 w5 b r5).heap[b]?=some (.cells (zac r5) 26 (0,0))/\zah (put9 w5 b r5) r5/\Req (put9 w5 b r5) w1.heap.size r5/\CSd w d q M (plL M L d id nd 1) X (put9 w5 b r5)/\zbe X w1 (put9 w5 b r5)))):=fun W' r k hlt hn hi=>by
    have kk:=KW.out.trans k;have h2:=h.keep kk;obtain⟨em,eZ,_⟩:=zah.m_of hn;have hv:=hi.rd;rw[em,hzr.1,eZ] at hv;rw[em,hzr.1];have fc:=h2.fits hk hnk;rw[if_neg hf] at fc;have hsz:w1.heap.size<W'.heap.size:=by have:=KW.out.size;omega
    refine(zwt h2.on nd r.A d r.c (getL L id).Z hv).mono ?_;rintro e w4 ⟨he,o,sx,hs⟩;have h4:=h2.m.nodes o sx hs;refine⟨by rw[he,fc];rfl,fun i hi=>sx i (h2.sub i hi).1,?_⟩
    refine(h4.apply (zyh (zes _ hsz) hs) id 1 nd (-1) hid (by unfold I64;omega) hnd (by unfold I64;omega) h100 (by omega)).mono ?_
    rintro e w5 ⟨r5,he,h3,_,h5,h6,⟨Yn,h7,_⟩,h8,h9,_⟩;rw[<- hL2] at h7;have:=k.size;exact⟨r5,by rw[he];unfold T13.fltC;rw[if_pos happ],h3 happ,zgb kk ⟨by omega,by omega⟩ hw0 (k.block Y.out) (h7.at hds hus hok).cs (fun i hi=>(h8 i hi).trans (sx i (h2.sub i hi).1)) hX h5 h6 hs⟩
   rw[hpc,hci0];have e2:zdb 0 0=.nilIface:=rfl;rw[e2];have hwb:Hid (∀ W',Keep W W'->w1.heap.size<=W'.heap.size/\w1.heap.size<=W.heap.size):=fun W' k=>⟨Nat.le_trans KW.out.size k.size,KW.out.size⟩
   replace hpc:=Zq hpc;replace hL2:=Zq hL2;replace hcc:=Zq hcc;replace hci:=Zq hci;replace hz:=Zq hz;replace hx:=Zq hx;replace hnk:=Zq hnk;replace hk:=Zq hk;replace hf:=Zq hf;clear e1 e2 h happ hok hzr h100 hci0 hds hus
   go_enter Tryz.func32,Tryz.ntmps32
   go_wp2_with fail;rw[<- hW];try rw[<- hb]
   replace hW:=Zq hW;replace hb:=Zq hb;replace hbW:=Zq hbW;replace hX:=Zq hX;replace hw0:=Zq hw0;refine cB.out.mono ?_;rintro e w2 ⟨rfl,k2⟩;obtain⟨W2,hW2⟩:=Zn (w2.alloc (.cells #[.pointer (some ⟨qn,0,none⟩),.pointer (some ⟨qp,0,none⟩)] 96));obtain⟨b8,hb8⟩:=Zn (w2.heap.size);have K2:Hid (Keep W W2):=by rw[hW2];exact k2.alloc _
   have B8:Hid (W2.heap[b8]?=some (.cells #[.pointer (some ⟨qn,0,none⟩),.pointer (some ⟨qp,0,none⟩)] 96 (0,0))):=by show _=_;rw[hW2,hb8];exact heap_alloc_new _ _
   obtain⟨t0,t1,_⟩:=T12.cel2 B8.out;rw[hW2,hb8] at t0 t1;replace k2:=Zq k2;go_wp2_with fail;rw[<- hW2];try rw[<- hb8]
   replace hW2:=Zq hW2;replace hb8:=Zq hb8;clear t0 t1;refine(cC.out W2 K2.out).mono ?_;rintro e w3 ⟨r,rfl,hn,hi,hr,k3⟩;obtain⟨W3,hW3⟩:=Zn (w3.alloc (.cells (zac r) 26));obtain⟨b9,hb9⟩:=Zn (w3.heap.size);have K23:Hid (Keep W2 W3):=by rw[hW3];exact k3.alloc _
   have KA:Hid (Keep w3 W3):=by rw[hW3];exact Keep.one _ _
   have K3:Hid (Keep W W3):=K2.out.trans K23.out;have B9:Hid (W3.heap[b9]?=some (.cells (zac r) 26 (0,0))):=by show _=_;rw[hW3,hb9];exact heap_alloc_new _ _
   have HI:=Zq (hi.keep KA.out);have u4:=(zae B9.out).e4;obtain⟨t0,t1,_⟩:=T12.cel2 (K23.out.block B8.out);obtain⟨d0,d1,d2,d3,d4,d5,d6,d7,d8,g0⟩:=zae (YC.out W3 K3.out);unfold zaf at d0 d1 d2 d3 d4 d5 d6 d7 d8;unfold zac at hW3;rw[hW3,hb9] at u4;rw[hW3] at t0 t1 d0 d1 d2 d3 d4 d5 d6 d7 d8 g0;replace hn:=Zq hn;replace hi:=Zq hi;replace hr:=Zq hr;replace k3:=Zq k3;unfold zaa.val;go_wp2_with fail;rw[<- hW3];have hlt:W.heap.size<W3.heap.size:=by
    have:=lt_of_block B8.out;have:=k2.out.size;have:=hb8.out;have:=K23.out.size;omega
   refine(cH.out W3 r K3.out hlt (hn.out HZ.out) HI.out).mono ?_;rintro e w4 ⟨rfl,sx4,cA⟩;have q8:=sx4 b8 (Or.inr ⟨by have:=hwb.out W2 K2.out;have:=hb8.out;have:=k2.out.size;omega,Nat.lt_of_lt_of_le (lt_of_block B8.out) K23.out.size⟩)
   have qb:=sx4 b (Or.inr ⟨by have:=hb.out;omega,Nat.lt_of_lt_of_le hbW.out K3.out.size⟩)
   clear d0 d1 d2 d3 d4 d5 d6 d7 d8 g0 t0 t1 u4;obtain⟨t0,t1,_⟩:=T12.cel2 (q8.trans (K23.out.block B8.out));replace sx4:=Zq sx4;replace q8:=Zq q8;replace qb:=Zq qb;replace cA:=Zq cA;go_wp2_with fail;refine cA.out.mono ?_;rintro e w5 ⟨r5,rfl,hn5,F5⟩;replace hn5:=Zq hn5;replace F5:=Zq F5;clear t0 t1;obtain⟨d0,d1,d2,d3,d4,d5,d6,d7,d8,g0⟩:=zae F5.out.1;unfold zaf at d0 d1 d2 d3 d4 d5 d6 d7 d8;unfold zaa.val;go_wp2;obtain⟨_,fb,fi,fr,fc,fx⟩:=F5.out;obtain⟨e0,e1,e2,e3,e4,e5,e6,e7,e8,_⟩:=zae fb;unfold put9 at *;refine bodyPost_ret (v:=.tuple #[.agg #[.int .i64 r5.k,.int .i64 r5.p,.bool r5.f,.int .i64 r5.g,.slice r5.A r5.m r5.c,.int .i64 r5.a,.int .i64 r5.h,.int .i64 r5.d,.int .i64 r5.t],.nilIface]) (by simp[results,Tryz.results32,go_sem,e0,e1,e2,e3,e4,e5,e6,e7,e8]) rfl ⟨r5,rfl,fun _=>hn5.out,fun h=>absurd rfl h,fi,fr,fc,fx⟩
 ·have hne:Hid (cc≠0):=hz
  rw[if_neg hz] at hpc;rw[hpc];have hL2:plL M L d id nd 1=L:=by
   unfold plL;rw[if_neg (by rw[hpc];exact hz)]
  rw[hL2];have e1:zdb cc ci=.iface 148 (.agg #[.int .i64 cc,.int .i64 ci]):=if_neg hz;rw[e1] at cC ⊢;replace hpc:=Zq hpc;replace hL2:=Zq hL2;replace hcc:=Zq hcc;replace hci:=Zq hci;replace hz:=Zq hz;clear e1 h
  go_enter Tryz.func32,Tryz.ntmps32
  go_wp2_with fail;rw[<- hW];try rw[<- hb]
  replace hW:=Zq hW;replace hb:=Zq hb;replace hbW:=Zq hbW;replace hX:=Zq hX;replace hw0:=Zq hw0;refine cB.out.mono ?_;rintro e w2 ⟨rfl,k2⟩;obtain⟨W2,hW2⟩:=Zn (w2.alloc (.cells #[.pointer (some ⟨qn,0,none⟩),.pointer (some ⟨qp,0,none⟩)] 96));obtain⟨b8,hb8⟩:=Zn (w2.heap.size);have K2:Hid (Keep W W2):=by rw[hW2];exact k2.alloc _
  have B8:Hid (W2.heap[b8]?=some (.cells #[.pointer (some ⟨qn,0,none⟩),.pointer (some ⟨qp,0,none⟩)] 96 (0,0))):=by show _=_;rw[hW2,hb8];exact heap_alloc_new _ _
  obtain⟨t0,t1,_⟩:=T12.cel2 B8.out;rw[hW2,hb8] at t0 t1;replace k2:=Zq k2;go_wp2_with fail;rw[<- hW2];try rw[<- hb8]
  replace hW2:=Zq hW2;replace hb8:=Zq hb8;clear t0 t1;refine(cC.out W2 K2.out).mono ?_;rintro e w3 ⟨r,rfl,hn,hi,hr,k3⟩;obtain⟨W3,hW3⟩:=Zn (w3.alloc (.cells (zac r) 26));obtain⟨b9,hb9⟩:=Zn (w3.heap.size);have K23:Hid (Keep W2 W3):=by rw[hW3];exact k3.alloc _
  have KA:Hid (Keep w3 W3):=by rw[hW3];exact Keep.one _ _
  have K3:Hid (Keep W W3):=K2.out.trans K23.out;have B9:Hid (W3.heap[b9]?=some (.cells (zac r) 26 (0,0))):=by show _=_;rw[hW3,hb9];exact heap_alloc_new _ _
  have HI:=Zq (hi.keep KA.out);have u4:=(zae B9.out).e4;obtain⟨t0,t1,_⟩:=T12.cel2 (K23.out.block B8.out);obtain⟨d0,d1,d2,d3,d4,d5,d6,d7,d8,g0⟩:=zae (YC.out W3 K3.out);unfold zaf at d0 d1 d2 d3 d4 d5 d6 d7 d8;unfold zac at hW3;rw[hW3,hb9] at u4;rw[hW3] at t0 t1 d0 d1 d2 d3 d4 d5 d6 d7 d8 g0;replace hn:=Zq hn;replace hi:=Zq hi;replace hr:=Zq hr;replace k3:=Zq k3;unfold zaa.val;go_wp2;rw[<- hW3];obtain⟨z,cs,sx⟩:=ZF.out W3 K3.out;obtain⟨e0,e1,e2,e3,e4,e5,e6,e7,e8,_⟩:=zae z;unfold put9 zaf at *;refine bodyPost_ret (v:=.tuple #[.agg #[.int .i64 0,.int .i64 0,.bool false,.int .i64 0,.slice none 0 0,.int .i64 0,.int .i64 0,.int .i64 0,.int .i64 0],.iface 148 (.agg #[.int .i64 (cc),.int .i64 (ci)])]) (by simp[results,Tryz.results32,go_sem,e0,e1,e2,e3,e4,e5,e6,e7,e8]) rfl ⟨zaf,rfl,fun h=>absurd h (hne.out),fun _=>rfl,zcb _,zby _ _,cs,sx⟩
end
end Go.Proofs.YtcogiogjpbkeaaaGreatDoor.T14
namespace Go.Proofs.YtcogiogjpbkeaaaGreatDoor.T14
open Go.RowKit Go.Sort Go.Lib V12 T13
def hdP(p:Int):Bool:=decide (p=3\/p=4)
theorem zvt(p:Int)(w:World):Calls Tryz.prog 134 #[.int .i64 p] w fun e w'=>(∃ a b,e=.returned (.tuple #[.bool a,.bool (hdP p),.bool b]))/\w=w':=by
 by_cases h2:p=2
 ·subst h2
  go_enter Tryz.func134,Tryz.ntmps134
  go_wp2;go_ret3
  exact⟨⟨_,_,rfl⟩,rfl⟩
 by_cases h1:p=1
 ·subst h1
  go_enter Tryz.func134,Tryz.ntmps134
  go_wp2;go_ret3
  exact⟨⟨_,_,rfl⟩,rfl⟩
 by_cases h3:p=3
 ·subst h3
  go_enter Tryz.func134,Tryz.ntmps134
  go_wp2;go_ret3
  exact⟨⟨_,_,rfl⟩,rfl⟩
 by_cases h4:p=4
 ·subst h4
  go_enter Tryz.func134,Tryz.ntmps134
  go_wp2;go_ret3
  exact⟨⟨_,_,rfl⟩,rfl⟩
 have e3:hdP p=false:=decide_eq_false (by omega)
 rw[e3]
 go_enter Tryz.func134,Tryz.ntmps134
 go_wp2;go_ret3
 exact⟨⟨_,_,rfl⟩,rfl⟩
theorem zkm(p:Int)(w:World):Calls Tryz.prog 103 #[.int .i64 p] w fun e w'=>e=.returned (.bool (hdP p))/\w=w':=by
 have hT:=zvt p w;generalize hdP p=z at *
 go_enter Tryz.func103,Tryz.ntmps103
 go_wp2_with fail;refine hT.mono ?_;rintro e w1 ⟨⟨a,b,rfl⟩,rfl⟩;go_wp2;go_ret
 exact⟨rfl,rfl⟩
end Go.Proofs.YtcogiogjpbkeaaaGreatDoor.T14
