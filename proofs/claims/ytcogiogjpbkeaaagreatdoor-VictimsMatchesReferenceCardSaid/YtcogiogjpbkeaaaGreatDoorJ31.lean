/-
  The landed store is what the laws ask for. Condition: errors.errorType holds its own (where Con says so).
  The landed cluster's memory: a store of nodes and one of pods beside each other. No walk.
  The landed cluster as the laws ask of its memory; what its functions' codes are. No walk.
  errors.Is of a fault at a code, in a program without located errors. No condition.
  The landed cluster: both, Dims, Free, Pods, On, wrong; no cluster. Condition: errors.errorType holds its own (for AddNode, wrong).
-/
import Derived.Test.YtcogiogjpbkeaaaGreatDoorJ0
import Derived.Test.YtcogiogjpbkeaaaGreatDoorJ30
namespace Go.Proofs.YtcogiogjpbkeaaaGreatDoor.T13
open Go.RowKit Go.Sort Go.Lib V12
section
variable{w w1:World}{s:Int}{q:Nat}{L:List zaa}{X:Nat->Prop}
theorem m_of{P:Nat->zaa}(e:(lst P L.length).map nm=L)(h:∀ y∈L,y.m<=1000):∀ j,j<L.length->(P j).m<=1000:=fun j hj =>
 h (nm (P j)) (by rw[<- e];exact List.mem_map_of_mem (lst_mem.2 ⟨j,hj,rfl⟩))
theorem zlx{P:Nat->zaa}(e:(lst P L.length).map nm=L):keys L=keys (lst P L.length):=(congrArg keys e).symm.trans (zbq _)
theorem zhy{f:zaa->Bool}(hf:∀ x,f (nm x)=f x)(M:List zaa):(M.filter f).map nm=(M.map nm).filter f:=by
 rw[List.filter_map]
 congr 1
 refine List.filter_congr fun x _=>?_
 show f x=f (nm x)
 exact(hf x).symm
theorem aka{w':World}{e:Ending}{P:Nat->zaa}{f:zaa->Bool}(hf:∀ x,f (nm x)=f x)(eL:(lst P L.length).map nm=L)(g:Got w w' e ((lst P L.length).filter f)):∃ v S,e=.returned v/\zas w' w.heap.size v (L.filter f).length S/\(lst S (L.filter f).length).map nm=L.filter f/\Keep w w':=by
 obtain⟨v,S,he,h1,h2,h3⟩:=g;have e2:=zhy hf (lst P L.length);rw[eL] at e2;have e3:((lst P L.length).filter f).length=(L.filter f).length:=by rw[<- e2,List.length_map]
 rw[e3] at h1 h2;exact⟨v,S,he,h1,h2.trans e2,h3⟩
theorem acj{r:zaa}{i:Nat}(h:rb r i):(Value.slice r.A r.m r.c).ownBlock=some i:=by
 obtain⟨_,o,e⟩:=h;rw[e];rfl
end
theorem ajd(s:Int)(w w0:World)(X:Nat->Prop)(k:Keep w w0)(hs:I64 s)(hX:∀ i,X i->i<w0.heap.size):Calls Tryz.prog 53 #[.int .i64 s] w0 fun e w'=>∃ q,e=.returned (.pointer (some ⟨q,0,none⟩))/\OSd w s q [] X w'/\Keep w0 w':=by
 refine(aky s w0 hs).mono ?_;rintro e w' ⟨q,t,m,rfl,h,k1⟩;refine⟨q,rfl,⟨t,m,none,0,fun _=>zaf,⟨h.hq,h.tb,zas.nil _ _ _,Nat.le_trans k.size h.bq,Nat.le_trans k.size h.bt,Nat.le_trans k.size h.bm,h.lk⟩,rfl,k.trans k1,fun i hi=>⟨Nat.lt_of_lt_of_le (hX i hi) k1.size,fun hF=>?_⟩⟩,k1⟩
 have:=(h.lt i hF).1;have:=hX i hi;omega
theorem zfy:Con OSd where
 kp:=by
  rintro w s q L X w1 ⟨t,m,A,c,P,h,hL,k0,hX⟩;exact k0
 keep:=fun o k=>o.keep k
 more:=fun o k hZ=>o.more k hZ
 less:=fun o hZ=>o.less hZ
 write:=fun o k hs f=>o.write k hs f
 grow:=fun o k hs f hZ=>o.grow k hs f hZ
 lt:=by
  rintro w s q L X w1 ⟨t,m,A,c,P,h,hL,k0,hX⟩ i hi;exact(hX i hi).1
 ok:=by
  rintro w s q L X w1 ⟨t,m,A,c,P,h,hL,k0,hX⟩;rw[<- hL];exact h.lk
 new:=fun s w w0 k hs=>ajd s w w0 _ k hs fun _ h=>h.elim
 submit:=by
  rintro w s q L X w1 x ⟨t,m,A,c,P,h,hL,k0,hX⟩ hg hx hm hl;have hk:=zlx hL
  by_cases h1:x.k∈keys L
  ·have e:zez L s x=6:=if_pos h1
   refine(zlk h hg x 6 (zxq h (by rw[<- hk];exact h1) _)).mono ?_
   rintro e' w' ⟨rfl,k⟩;rw[e];refine⟨zaf,rfl,fun h=>absurd h (by decide),fun _=>rfl,zcb _,zby _ _,?_,fun i hi=>Below.block k i (hX i hi).1⟩
   unfold zfs;rw[e,if_neg (by decide)]
   refine OSd.more ⟨t,m,A,c,P,h,hL,k0,hX⟩ k ?_;rintro i ⟨h0,_⟩;exact absurd h0 (Nat.lt_irrefl 0)
  ·by_cases h2:s<=L.length
   ·have e:zez L s x=7:=by unfold zez;rw[if_neg h1,if_pos h2]
    refine(zlk h hg x 7 (ztr h (by rw[<- hk];exact h1) h2 _)).mono ?_
    rintro e' w' ⟨rfl,k⟩;rw[e];refine⟨zaf,rfl,fun h=>absurd h (by decide),fun _=>rfl,zcb _,zby _ _,?_,fun i hi=>Below.block k i (hX i hi).1⟩
    unfold zfs;rw[e,if_neg (by decide)]
    refine OSd.more ⟨t,m,A,c,P,h,hL,k0,hX⟩ k ?_;rintro i ⟨h0,_⟩;exact absurd h0 (Nat.lt_irrefl 0)
   ·have e:zez L s x=0:=by unfold zez;rw[if_neg h1,if_neg h2]
    refine(zqk h x hx hm hl (by rw[<- hk];exact h1) (by omega) k0.size).mono ?_
    rintro e' w' ⟨B,d,B2,d2,z,A',c',rfl,ok,R,hz,S,hF,f⟩;rw[e];have hlen:(L++[zhi x L.length]).length=L.length+1:=by rw[List.length_append];rfl
    refine⟨sbV x B2 d2 L.length,rfl,fun _=>rfl,fun h=>absurd rfl h,R.is ok,zbx R hz,?_,fun i hi=>f.block i (hX i hi).1 (hX i hi).2⟩
    unfold zfs;rw[if_pos e];refine⟨t,m,A',c',put P L.length (sbV x B d L.length),by rw[hlen];exact S,?_,Fr.low k0 f fun i hi=>(h.lt i hi).1,?_⟩
    ·rw[hlen,zwo (akr x B d L.length),hL]
    ·rw[hlen]
     rintro i (hi | hi)
     ·refine⟨Nat.lt_of_lt_of_le (hX i hi).1 f.size,fun hf=>?_⟩
      rcases(hF i hf).1 with h3 | h3
      ·exact(hX i hi).2 h3
      ·have:=(hX i hi).1
       omega
     ·have h3:=R.lt i (acj hi)
      exact⟨h3.2,fun hf=>by have:=(hF i hf).2;omega⟩
 apply:=by
  rintro w s q L X w1 id e nd dl ⟨t,m,A,c,P,h,hL,k0,hX⟩ hg hid he hnd hdl hm hl;have hk:=zlx hL
  by_cases h1:id∈keys L
  ·obtain⟨j,hj,rfl⟩:=zqc (by rw[<- hk];exact h1)
   have eg:(getL L (P j).k).h=(P j).h:=by
    rw[<- hL,<- zhn,h.get hj];rfl
   by_cases h2:nx (P j).h e=0
   ·have e8:zca L (P j).k e=8:=by unfold zca;rw[if_neg (not_not_intro h1),eg,if_pos h2]
    refine(zlh h hj e nd dl h2).mono ?_;rintro e' w' ⟨rfl,k⟩;rw[e8];refine⟨zaf,rfl,fun h=>absurd h (by decide),fun _=>rfl,zcb _,zby _ _,?_,fun i hi=>Below.block k i (hX i hi).1⟩
    unfold zde;rw[e8,if_neg (by decide)]
    refine OSd.more ⟨t,m,A,c,P,h,hL,k0,hX⟩ k ?_;rintro i ⟨h0,_⟩;exact absurd h0 (Nat.lt_irrefl 0)
   ·have e0:zca L (P j).k e=0:=by unfold zca;rw[if_neg (not_not_intro h1),eg,if_neg h2]
    have ea:=zqf h hj (nd:=nd) (dl:=dl) h2;rw[hL] at ea;refine(zne h hj e nd dl hnd hdl h2 (m_of hL hm j hj)).mono ?_;rintro e' w' ⟨B,d,rfl,R,ok,S,f⟩;rw[e0];refine⟨(zay (P j) e nd dl).at B d,rfl,fun _=>?_,fun h=>absurd rfl h,R.is ok,R,?_,fun i hi=>f.block i (hX i hi).1 fun h3=>(hX i hi).2 (Or.inr (Or.inr (Or.inr (Or.inl h3))))⟩
    ·rw[<- hL,<- zhn,h.get hj]
     rfl
    ·have hFE:∀ i,FE q t m A c L.length (put P j (zay (P j) e nd dl)) i->FE q t m A c L.length P i:=by
      rintro i (h3 | h3 | h3 | h3 | ⟨i2,hi2,h3⟩)
      ·exact Or.inl h3
      ·exact Or.inr (Or.inl h3)
      ·exact Or.inr (Or.inr (Or.inl h3))
      ·exact Or.inr (Or.inr (Or.inr (Or.inl h3)))
      ·refine Or.inr (Or.inr (Or.inr (Or.inr ⟨i2,hi2,?_⟩)))
       by_cases e3:i2=j
       ·rw[e3,zat] at h3
        rw[e3];exact h3
       ·rw[zbj _ _ _ e3] at h3
        exact h3
     refine⟨t,m,A,c,put P j (zay (P j) e nd dl),by rw[zeg];exact S,by rw[zeg];exact ea.1,Fr.low k0 f fun i hi=>(h.lt i (Or.inr (Or.inr (Or.inr (Or.inl hi))))).1,?_⟩
     rw[zeg];rintro i (hi | hi)
     ·exact⟨Nat.lt_of_lt_of_le (hX i hi).1 f.size,fun hf=>(hX i hi).2 (hFE i hf)⟩
     ·have h3:=R.lt i (acj hi)
      exact⟨h3.2,fun hf=>by have:=(h.lt i (hFE i hf)).2;omega⟩
  ·have e5:zca L id e=5:=if_pos h1
   refine(zli h (by rw[<- hk];exact h1) e nd dl).mono ?_
   rintro e' w' ⟨rfl,k⟩;rw[e5];refine⟨zaf,rfl,fun h=>absurd h (by decide),fun _=>rfl,zcb _,zby _ _,?_,fun i hi=>Below.block k i (hX i hi).1⟩
   unfold zde;rw[e5,if_neg (by decide)]
   refine OSd.more ⟨t,m,A,c,P,h,hL,k0,hX⟩ k ?_;rintro i ⟨h0,_⟩;exact absurd h0 (Nat.lt_irrefl 0)
 get:=by
  rintro w s q L X w1 id ⟨t,m,A,c,P,h,hL,k0,hX⟩ hid hm;have hk:=zlx hL
  by_cases h1:id∈keys L
  ·rw[decide_eq_true h1]
   obtain⟨j,hj,rfl⟩:=zqc (by rw[<- hk];exact h1)
   refine(abq h hj (m_of hL hm j hj)).mono ?_;rintro e' w' ⟨B,d,rfl,R,ok,k⟩;refine⟨_,rfl,?_,R.is ok,R,k⟩;rw[<- hL,<- zhn,h.get hj];rfl
  ·rw[decide_eq_false h1,zjk h1]
   refine(zyp h (by rw[<- hk];exact h1)).mono ?_
   rintro e' w' ⟨rfl,k⟩;exact⟨zaf,rfl,rfl,zcb _,zby _ _,k⟩
 on:=by
  rintro w s q L X w1 nd ⟨t,m,A,c,P,h,hL,k0,hX⟩ hm hl;exact(abv h hl (m_of hL hm) nd).mono fun _ _ g=>aka (fun _=>rfl) hL g
 submitNil:=fun x w _ _=>(zql x w).mono fun _ _ ⟨he,k⟩=>⟨zaf,he,rfl,k⟩
end Go.Proofs.YtcogiogjpbkeaaaGreatDoor.T13
namespace Go.Proofs.YtcogiogjpbkeaaaGreatDoor.T14
open Go.RowKit Go.Sort Go.Lib V12 T13
def nvn(x:T12.NodeV):NV:=⟨x.k,x.C⟩
def zef(w1 w2:World)(i:Nat):Prop:=w1.heap.size<=i/\i<w2.heap.size
structure zbw(w:World)(d q:Nat)(M:List NV)(L:List zaa)(X:Nat->Prop)(w1:World)(qn qp:Nat)(N:List T12.NodeV)(Xn Xp:Nat->Prop):Prop where
 blk:w1.heap[q]?=some (.cells #[.pointer (some ⟨qn,0,none⟩),.pointer (some ⟨qp,0,none⟩)] 98 (0,0))
 low:w.heap.size<=q
 on:ON w d 1024 qn N Xn w1
 os:OSd w 65536 qp L Xp w1
 qn':Xn q
 qp':Xp q
 qx:¬X q
 sub:∀ i,X i->Xn i/\Xp i
 cov:∀ i,i<w1.heap.size->Xn i\/Xp i
 nds:N.map nvn=M
 use:∀ x∈N,∀ j,j<d->x.U j=zam L x.k j
 ok:Ok d M L
def CSd:zbn:=fun w d q M L X w1=>∃ qn qp N Xn Xp,zbw w d q M L X w1 qn qp N Xn Xp
section
variable{w w1 w2:World}{d q:Nat}{M:List NV}{L:List zaa}{X Z:Nat->Prop}{qn qp:Nat}{N:List T12.NodeV}{Xn Xp:Nat->Prop}
theorem zbw.kp(h:zbw w d q M L X w1 qn qp N Xn Xp):Keep w w1:=h.on.kp
theorem zbw.lt(h:zbw w d q M L X w1 qn qp N Xn Xp):∀ i,X i->i<w1.heap.size:=fun i hi=>h.on.lt i (h.sub i hi).1
theorem zbw.d64(h:zbw w d q M L X w1 qn qp N Xn Xp):d<=64:=h.on.d64
theorem zbw.m1000(h:zbw w d q M L X w1 qn qp N Xn Xp):∀ y∈L,y.m<=1000:=fun y hy=>by
 have h1:=(h.ok.req y hy).1;have h2:=h.d64;omega
theorem zbw.c2(h:zbw w d q M L X w1 qn qp N Xn Xp):w1.cell? ⟨q,0,none⟩=some (.pointer (some ⟨qn,0,none⟩))/\w1.cell? ⟨q,1,none⟩=some (.pointer (some ⟨qp,0,none⟩)):=by
 obtain⟨a,b,_⟩:=T12.cel2 h.blk;exact⟨a,b⟩
theorem zbw.keys(h:zbw w d q M L X w1 qn qp N Xn Xp):T12.nkeys N=nk M:=by
 rw[<- h.nds];exact(G.map_keys (ka:=T12.NodeV.k) (kb:=NV.k) (f:=nvn) (fun _=>rfl) N).symm
theorem zbw.grow(h:zbw w d q M L X w1 qn qp N Xn Xp)(kw:Keep w w2)(hs:w1.heap.size<=w2.heap.size)(f:∀ k,k<w1.heap.size->¬X k->w2.heap[k]?=w1.heap[k]?)(hZ:∀ i,Z i->w1.heap.size<=i/\i<w2.heap.size):zbw w d q M L (fun i=>X i\/Z i) w2 qn qp N (fun i=>Xn i\/zef w1 w2 i) (fun i=>Xp i\/zef w1 w2 i):=by
 have hq:q<w1.heap.size:=lt_of_block h.blk;refine⟨(f q hq h.qx).trans h.blk,h.low,h.on.grow kw hs (fun k hk hn=>f k hk fun hx=>hn (h.sub k hx).1) fun _ h=>h,zfy.grow h.os kw hs (fun k hk hn=>f k hk fun hx=>hn (h.sub k hx).2) fun _ h=>h,Or.inl h.qn',Or.inl h.qp',?_,?_,?_,h.nds,h.use,h.ok⟩
 ·rintro(h1 | h1)
  ·exact h.qx h1
  ·have:=(hZ q h1).1
   omega
 ·rintro i (h1 | h1)
  ·exact⟨Or.inl (h.sub i h1).1,Or.inl (h.sub i h1).2⟩
  ·exact⟨Or.inr (hZ i h1),Or.inr (hZ i h1)⟩
 ·intro i hi
  by_cases h1:i<w1.heap.size
  ·exact(h.cov i h1).imp Or.inl Or.inl
  ·exact Or.inl (Or.inr ⟨by omega,hi⟩)
theorem zbw.less(h:zbw w d q M L X w1 qn qp N Xn Xp)(hZ:∀ i,Z i->X i):zbw w d q M L Z w1 qn qp N Xn Xp :=
 ⟨h.blk,h.low,h.on,h.os,h.qn',h.qp',fun hz=>h.qx (hZ q hz),fun i hi=>h.sub i (hZ i hi),h.cov,h.nds,h.use,h.ok⟩
theorem zbw.keep(h:zbw w d q M L X w1 qn qp N Xn Xp)(k:Keep w1 w2):zbw w d q M L (fun i=>X i\/zef w1 w2 i) w2 qn qp N (fun i=>Xn i\/zef w1 w2 i) (fun i=>Xp i\/zef w1 w2 i):=
 h.grow (h.kp.trans k) k.size (fun i hi _=>Below.block k i hi) fun _ h=>h
theorem zbw.nodes{N2:List T12.NodeV}{M2:List NV}(h:zbw w d q M L X w1 qn qp N Xn Xp)(o:ON w d 1024 qn N2 Xn w2)(sx:zbe Xn w1 w2)(hs:w1.heap.size<=w2.heap.size)(nds:N2.map nvn=M2)(use:∀ x∈N2,∀ j,j<d->x.U j=zam L x.k j)(ok:Ok d M2 L):zbw w d q M2 L X w2 qn qp N2 Xn (fun i=>Xp i\/zef w1 w2 i):=by
 have hq:q<w1.heap.size:=lt_of_block h.blk;refine⟨(sx q h.qn').trans h.blk,h.low,o,zfy.grow h.os o.kp hs (fun k hk hn=>sx k ((h.cov k hk).resolve_right hn)) fun _ h=>h,h.qn',Or.inl h.qp',h.qx,fun i hi=>⟨(h.sub i hi).1,Or.inl (h.sub i hi).2⟩,fun i hi=>?_,nds,use,ok⟩
 by_cases h1:i<w1.heap.size
 ·exact(h.cov i h1).imp id Or.inl
 ·exact Or.inr (Or.inr ⟨by omega,hi⟩)
theorem zbw.pods{L2:List zaa}{r:zaa}(h:zbw w d q M L X w1 qn qp N Xn Xp)(o:OSd w 65536 qp L2 (fun i=>Xp i\/rb r i) w2)(sx:zbe Xp w1 w2)(hs:w1.heap.size<=w2.heap.size)(use:∀ x∈N,∀ j,j<d->x.U j=zam L2 x.k j)(ok:Ok d M L2):zbw w d q M L2 X w2 qn qp N (fun i=>Xn i\/zef w1 w2 i) (fun i=>Xp i\/rb r i):=by
 refine⟨(sx q h.qp').trans h.blk,h.low,h.on.grow (zfy.kp o) hs (fun k hk hn=>sx k ((h.cov k hk).resolve_left hn)) fun _ h=>h,o,Or.inl h.qn',Or.inl h.qp',h.qx,fun i hi=>⟨Or.inl (h.sub i hi).1,Or.inl (h.sub i hi).2⟩,fun i hi=>?_,h.nds,use,ok⟩
 by_cases h1:i<w1.heap.size
 ·exact(h.cov i h1).imp Or.inl Or.inl
 ·exact Or.inl (Or.inr ⟨by omega,hi⟩)
theorem zzf{L2:List zaa}{r:zaa}{s:Int}(o:OSd w s qp L2 (fun i=>Xp i\/rb r i) w2)(hl:∃ i,Xp i/\w1.heap.size<=i+1):w1.heap.size<=w2.heap.size:=by
 obtain⟨i,h1,h2⟩:=hl;have:=zfy.lt o i (Or.inl h1);omega
theorem zbw.nget(h:zbw w d q M L X w1 qn qp N Xn Xp){id:Int}(hk:id∈nk M):T12.nget N id∈N/\(T12.nget N id).k=id/\T14.nget M id=nvn (T12.nget N id):=by
 have hk2:id∈T12.nkeys N:=by rw[h.keys];exact hk
 obtain⟨a,b⟩:=G.get_some (key:=T12.NodeV.k) (z:=T12.zn) hk2;exact⟨a,b,by rw[<- h.nds];exact(G.map_get (ka:=T12.NodeV.k) (kb:=NV.k) (f:=nvn) (fun _=>rfl) T12.zn N id).symm⟩
end
end Go.Proofs.YtcogiogjpbkeaaaGreatDoor.T14
namespace Go.Proofs.YtcogiogjpbkeaaaGreatDoor.T14
open Go.RowKit Go.Sort Go.Lib V12 T13
section
variable{w w1 w2:World}{d q:Nat}{M:List NV}{L:List zaa}{X Z:Nat->Prop}{qn qp:Nat}{N:List T12.NodeV}{Xn Xp:Nat->Prop}
theorem zbw.cs(h:zbw w d q M L X w1 qn qp N Xn Xp):CSd w d q M L X w1:=⟨qn,qp,N,Xn,Xp,h⟩
theorem CSd.kp(h:CSd w d q M L X w1):Keep w w1:=by
 obtain⟨qn,qp,N,Xn,Xp,h⟩:=h;exact h.kp
theorem CSd.less(h:CSd w d q M L X w1)(hZ:∀ i,Z i->X i):CSd w d q M L Z w1:=by
 obtain⟨qn,qp,N,Xn,Xp,h⟩:=h;exact(h.less hZ).cs
theorem CSd.more(h:CSd w d q M L X w1)(k:Keep w1 w2)(hZ:∀ i,Z i->w1.heap.size<=i/\i<w2.heap.size):CSd w d q M L (fun i=>X i\/Z i) w2:=by
 obtain⟨qn,qp,N,Xn,Xp,h⟩:=h;exact(h.grow (h.kp.trans k) k.size (fun i hi _=>Below.block k i hi) hZ).cs
theorem CSd.keep(h:CSd w d q M L X w1)(k:Keep w1 w2):CSd w d q M L X w2 :=
 (h.more (Z:=fun _=>False) k fun _ h=>h.elim).less fun _ h=>Or.inl h
theorem CSd.write(h:CSd w d q M L X w1)(kw:Keep w w2)(hs:w1.heap.size<=w2.heap.size)(f:∀ k,k<w1.heap.size->¬X k->w2.heap[k]?=w1.heap[k]?):CSd w d q M L X w2:=by
 obtain⟨qn,qp,N,Xn,Xp,h⟩:=h;exact((h.grow (Z:=fun _=>False) kw hs f fun _ h=>h.elim).cs).less fun _ h=>Or.inl h
theorem CSd.lt(h:CSd w d q M L X w1):∀ i,X i->i<w1.heap.size:=by
 obtain⟨qn,qp,N,Xn,Xp,h⟩:=h;exact h.lt
theorem CSd.ok(h:CSd w d q M L X w1):Ok d M L:=by
 obtain⟨qn,qp,N,Xn,Xp,h⟩:=h;exact h.ok
theorem CSd.put(h:CSd w d q M L X w1){b:Nat}(hb:X b)(hw:w.heap.size<=b)(x:zaa):CSd w d q M L X (put9 w1 b x):=
 h.write (zdi x h.kp hw) (by unfold put9;simp) fun k _ hn=>zdd x fun e=>hn (by rw[e];exact hb)
theorem zbw.len(h:zbw w d q M L X w1 qn qp N Xn Xp):N.length=M.length:=by rw[<- h.nds,List.length_map]
theorem zbw.adc(h:zbw w d q M L X w1 qn qp N Xn Xp)(k:Int)(n:Nat)(Y:Nat->Int):T12.addC N d 1024 k n Y=adC M d k n Y:=by
 have e:=h.keys;have l:=h.len;unfold T12.addC adC;rw[e]
 by_cases h1:0<=zak n Y d
 ·rw[if_pos h1,if_pos h1]
 ·rw[if_neg h1,if_neg h1]
  by_cases h2:k∈nk M
  ·rw[if_pos h2,if_pos h2]
  ·rw[if_neg h2,if_neg h2]
   by_cases h3:1024<=M.length
   ·rw[if_pos h3,if_pos (by omega)]
   ·rw[if_neg h3,if_neg (by omega)]
theorem zbw.added(h:zbw w d q M L X w1 qn qp N Xn Xp)(k:Int)(n:Nat)(Y:Nat->Int):(T12.addL N d 1024 k n Y).map nvn=adL M d k n Y/\∀ x∈T12.addL N d 1024 k n Y,∀ j,j<d->x.U j=zam L x.k j:=by
 unfold T12.addL adL;rw[h.adc]
 by_cases h1:adC M d k n Y=0
 ·rw[if_pos h1,if_pos h1]
  refine⟨?_,fun x hx j hj=>?_⟩
  ·rw[G.map_ins (ka:=T12.NodeV.k) (kb:=NV.k) (f:=nvn) (fun _=>rfl),h.nds]
   rfl
  ·rcases G.ins_mem.1 hx with rfl | hx
   ·exact(h.ok.free (zmj h1).2 j).symm
   ·exact h.use x hx j hj
 ·rw[if_neg h1,if_neg h1]
  exact⟨h.nds,h.use⟩
end
end Go.Proofs.YtcogiogjpbkeaaaGreatDoor.T14
namespace Go.Proofs.YtcogiogjpbkeaaaGreatDoor.T14
open Go.RowKit Go.Extern.Stop Go.Stop Go.Extern
set_option maxRecDepth 100000 in
set_option maxHeartbeats 4000000 in
theorem amm(c n y:Int)(b:Bool)(hb:(c == y)=b)(w:World):
  Calls Tryz.prog 131 #[.iface 148 (.agg #[.int .i64 c,.int .i64 n]),.iface 103 (.int .i64 y),.bool true] w fun e w'=>e=.returned (.bool b)/\Keep w w':=by
 have q1:∀ W,(binOp .eql 60 (.iface 103 (.int .i64 c)) (.iface 103 (.int .i64 y))).run Tryz.prog W=.ok (.bool b) W:=fun W=>by rw[Tryz.eqCode,hb]
 have q2:=fun x n:Int=>Tryz.neFaultCode (.agg #[.int .i64 x,.int .i64 n]) (.int .i64 y)
 have n2:=Tryz.noIsFault;have n3:=Tryz.noIsCode;have u2:=Tryz.unFault;have u3:=Tryz.noUnCode;have v3:=Tryz.noUnsCode;have m2:=Tryz.mUnFault;clear hb
 go_enter Tryz.func131,Tryz.ntmps131
 go_wp2;refine wp_loop_rounds 2 ?_;rw[rounds_succ];go_wp2_with (go_at_call 188;refine(zkb _ _ _).mono ?_;rintro e w9 ⟨rfl,hk3⟩;replace hk3:=Zq hk3;unfold Base.val)
 rw[rounds_succ];cases b
 ·go_wp2
  go_ret
  exact⟨rfl,hk3.out⟩
 ·go_wp2
  go_ret
  exact⟨rfl,hk3.out⟩
theorem alz(c n y:Int)(w:World):
  Calls Tryz.prog 95 #[.iface 148 (.agg #[.int .i64 c,.int .i64 n]),.iface 103 (.int .i64 y)] w fun e w'=>e=.returned (.bool (c == y))/\Keep w w' :=
 ama _ _ _ _ w (fun w'=>Keep w w') (fun W=>Tryz.rTypeOfCode _ W) (fun W=>Tryz.cmpCode W) _ (amm c n y _ rfl w)
end Go.Proofs.YtcogiogjpbkeaaaGreatDoor.T14
namespace Go.Proofs.YtcogiogjpbkeaaaGreatDoor.T14
open Go.RowKit Go.Sort Go.Lib V12 T13
set_option maxRecDepth 100000 in
set_option maxHeartbeats 4000000 in
theorem zgw{w:World}{q qn qp:Nat}(c0:w.cell? ⟨q,0,none⟩=some (.pointer (some ⟨qn,0,none⟩)))(c1:w.cell? ⟨q,1,none⟩=some (.pointer (some ⟨qp,0,none⟩))):Calls Tryz.prog 54 #[.pointer (some ⟨q,0,none⟩)] w fun e w'=>e=.returned (.agg #[.pointer (some ⟨qn,0,none⟩),.pointer (some ⟨qp,0,none⟩)])/\Keep w w':=by
 have ZZ:(w.alloc (.cells #[.pointer (some ⟨qn,0,none⟩),.pointer (some ⟨qp,0,none⟩)] 96)).heap[w.heap.size]?=some (.cells #[.pointer (some ⟨qn,0,none⟩),.pointer (some ⟨qp,0,none⟩)] 96 (0,0)):=heap_alloc_new _ _;replace ZZ:=Zq ZZ;have ZO:(w.alloc (.cells #[.pointer none,.pointer none] 96)).heap[w.heap.size]?=some (.cells #[.pointer none,.pointer none] 96 (0,0)):=heap_alloc_new _ _;obtain⟨y0,y1,yf⟩:=T12.cel2 ZO;replace ZO:=Zq ZO;have d0:=(Keep.one w (.cells #[.pointer none,.pointer none] 96)).cell c0;have d1:=(Keep.one w (.cells #[.pointer none,.pointer none] 96)).cell c1
 go_enter Tryz.func54,Tryz.ntmps54
 go_wp2;obtain⟨z0,z1,_⟩:=T12.cel2 ZZ.out;refine bodyPost_ret (v:=.agg #[.pointer (some ⟨qn,0,none⟩),.pointer (some ⟨qp,0,none⟩)]) (by simp[results,Tryz.results54,go_sem,z0,z1]) rfl ⟨rfl,Keep.one _ _⟩
set_option maxRecDepth 100000 in
set_option maxHeartbeats 4000000 in
theorem zrg(w:World):Calls Tryz.prog 54 #[.pointer none] w fun e w'=>e=.returned (.agg #[.pointer none,.pointer none])/\Keep w w':=by
 have ZZ:(w.alloc (.cells #[.pointer none,.pointer none] 96)).heap[w.heap.size]?=some (.cells #[.pointer none,.pointer none] 96 (0,0)):=heap_alloc_new _ _;replace ZZ:=Zq ZZ;have ZO:(w.alloc (.cells #[.pointer none,.pointer none] 96)).heap[w.heap.size]?=some (.cells #[.pointer none,.pointer none] 96 (0,0)):=heap_alloc_new _ _;obtain⟨y0,y1,yf⟩:=T12.cel2 ZO;replace ZO:=Zq ZO
 go_enter Tryz.func54,Tryz.ntmps54
 go_wp2;obtain⟨z0,z1,_⟩:=T12.cel2 ZZ.out;refine bodyPost_ret (v:=.agg #[.pointer none,.pointer none]) (by simp[results,Tryz.results54,go_sem,z0,z1]) rfl ⟨rfl,Keep.one _ _⟩
section
variable{w w1 w2:World}{d q:Nat}{M:List NV}{L:List zaa}{X Z:Nat->Prop}{qn qp:Nat}{N:List T12.NodeV}{Xn Xp:Nat->Prop}
set_option maxRecDepth 100000 in
set_option maxHeartbeats 4000000 in
theorem zri(h:zbw w d q M L X w1 qn qp N Xn Xp):Calls Tryz.prog 59 #[.pointer (some ⟨q,0,none⟩)] w1 fun e w'=>e=.returned (.int .i64 d)/\Keep w1 w':=by
 have hB:=Zq (zgw h.c2.1 h.c2.2);have hP:Hid (∀ W,Keep w1 W->Calls Tryz.prog 96 #[.pointer (some ⟨qn,0,none⟩)] W fun e w'=>e=.returned (.int .i64 d)/\Keep w1 w'):=fun W k=>(ahl (h.keep k).on).mono fun _ _ ⟨he,k2⟩=>⟨he,k.trans k2⟩
 replace h:=Zq h;have fs0:∀ W,(Instr.field 96 (.agg #[.pointer (some ⟨qn,0,none⟩),.pointer (some ⟨qp,0,none⟩)]) 0).run Tryz.prog W=.ok (.agg #[.pointer (some ⟨qn,0,none⟩)]) W:=fun _=>by kernel_rfl
 have fs1:∀ W,(Instr.field 96 (.agg #[.pointer (some ⟨qn,0,none⟩),.pointer (some ⟨qp,0,none⟩)]) 1).run Tryz.prog W=.ok (.agg #[.pointer (some ⟨qp,0,none⟩)]) W:=fun _=>by kernel_rfl
 have fn0:∀ W,(Instr.field 90 (.agg #[.pointer (some ⟨qn,0,none⟩)]) 0).run Tryz.prog W=.ok (.pointer (some ⟨qn,0,none⟩)) W:=fun _=>by kernel_rfl
 have fp0:∀ W,(Instr.field 94 (.agg #[.pointer (some ⟨qp,0,none⟩)]) 0).run Tryz.prog W=.ok (.pointer (some ⟨qp,0,none⟩)) W:=fun _=>by kernel_rfl
 go_enter Tryz.func59,Tryz.ntmps59
 go_wp2_with fail;refine hB.out.mono ?_;rintro e w2 ⟨rfl,k2⟩;replace k2:=Zq k2;go_wp2_with fail;refine(hP.out w2 k2.out).mono ?_;rintro e w3 ⟨rfl,k3⟩;replace k3:=Zq k3;go_wp2;go_ret
 exact⟨rfl,k3.out⟩
set_option maxRecDepth 100000 in
set_option maxHeartbeats 4000000 in
theorem ajt(h:zbw w d q M L X w1 qn qp N Xn Xp)(nd:Int)(hl:L.length<=100):Calls Tryz.prog 36 #[.pointer (some ⟨q,0,none⟩),.int .i64 nd] w1 fun e w'=>∃ v S,e=.returned v/\zas w' w1.heap.size v (L.filter (onB nd)).length S/\(T13.lst S (L.filter (onB nd)).length).map nm=L.filter (onB nd)/\Keep w1 w':=by
 have hB:=Zq (zgw h.c2.1 h.c2.2);have hP:Hid (∀ W,Keep w1 W->Calls Tryz.prog 73 #[.pointer (some ⟨qp,0,none⟩),.int .i64 nd] W fun e w'=>∃ v S,e=.returned v/\zas w' w1.heap.size v (L.filter (onB nd)).length S/\(T13.lst S (L.filter (onB nd)).length).map nm=L.filter (onB nd)/\Keep w1 w'):=fun W k=>(zfy.on nd (h.keep k).os h.m1000 (by omega)).mono fun _ _ ⟨v,S,he,h1,h2,h3⟩=>⟨v,S,he,h1.base k.size,h2,k.trans h3⟩
 replace h:=Zq h;have fs0:∀ W,(Instr.field 96 (.agg #[.pointer (some ⟨qn,0,none⟩),.pointer (some ⟨qp,0,none⟩)]) 0).run Tryz.prog W=.ok (.agg #[.pointer (some ⟨qn,0,none⟩)]) W:=fun _=>by kernel_rfl
 have fs1:∀ W,(Instr.field 96 (.agg #[.pointer (some ⟨qn,0,none⟩),.pointer (some ⟨qp,0,none⟩)]) 1).run Tryz.prog W=.ok (.agg #[.pointer (some ⟨qp,0,none⟩)]) W:=fun _=>by kernel_rfl
 have fn0:∀ W,(Instr.field 90 (.agg #[.pointer (some ⟨qn,0,none⟩)]) 0).run Tryz.prog W=.ok (.pointer (some ⟨qn,0,none⟩)) W:=fun _=>by kernel_rfl
 have fp0:∀ W,(Instr.field 94 (.agg #[.pointer (some ⟨qp,0,none⟩)]) 0).run Tryz.prog W=.ok (.pointer (some ⟨qp,0,none⟩)) W:=fun _=>by kernel_rfl
 go_enter Tryz.func36,Tryz.ntmps36
 go_wp2_with fail;refine hB.out.mono ?_;rintro e w2 ⟨rfl,k2⟩;replace k2:=Zq k2;go_wp2_with fail;refine(hP.out w2 k2.out).mono ?_;rintro e w3 ⟨v,S,rfl,h1,h2,h3⟩;replace h1:=Zq h1;replace h2:=Zq h2;replace h3:=Zq h3;go_wp2;go_ret
 exact⟨v,S,rfl,h1.out,h2.out,h3.out⟩
end
set_option maxRecDepth 100000 in
set_option maxHeartbeats 4000000 in
theorem zny(A:Option Addr)(n c d:Nat)(Y:Nat->Int)(w:World)(hg:zbk w)(hv:Rd w A n Y)(nilA:A=none->n=0/\c=0)(hd:d<=64):Calls Tryz.prog 58 #[.slice A n c,.int .i64 d] w fun e w'=>e=.returned (if 0<=zak n Y d then flt 3 (zak n Y d) else .nilIface)/\Keep w w':=by
 have hN:=Zq (abm d 0 w w (fun _=>False) (Keep.refl w) hd (by omega) (by unfold I64;omega) (fun _ h=>h.elim))
 obtain⟨cc,hcc⟩:=Zn (T12.addC [] d 0 0 n Y);obtain⟨ci,hci⟩:=Zn (T12.addI d n Y);have cc3:cc=if 0<=zak n Y d then 3 else 7:=by
  rw[hcc];unfold T12.addC
  split
  ·rfl
  ·rw[if_neg (by unfold T12.nkeys;unfold G.keys;simp),if_pos (by simp)]
 have hA:Hid (∀ W p,ON w d 0 p [] (fun _=>False) W->Keep w W->Calls Tryz.prog 55 #[.pointer (some ⟨p,0,none⟩),.agg #[.int .i64 0,.slice A n c]] W fun e w'=>e=.returned (.iface 148 (.agg #[.int .i64 cc,.int .i64 ci]))/\Keep w w'):=fun W p o k=>(abl o (hg.keep k) 0 A n c Y (hv.keep k) nilA (by unfold I64;omega)).mono fun _ _ ⟨he,o2,_,_⟩=>⟨by
  rw[he,<- hcc,<- hci];unfold zdb;rw[if_neg (by rw[cc3];split<;>decide)]
  rfl,o2.kp⟩
 have hI:=Zq (fun W=>alz cc ci 3 W)
 by_cases hw:0<=zak n Y d
 ·rw[if_pos hw] at cc3 ⊢
  have ci3:ci=zak n Y d:=by rw[hci];exact if_pos hw
  rw[<- ci3];unfold flt Base.val;subst cc3;clear hcc hci ci3 hw hv nilA hd
  go_enter Tryz.func58,Tryz.ntmps58
  go_wp2_with fail;refine hN.out.mono ?_;rintro e w2 ⟨p,rfl,o,k2,_⟩;replace k2:=Zq k2;replace o:=Zq o;go_wp2_with fail;refine(hA.out w2 p o.out k2.out).mono ?_;rintro e w3 ⟨rfl,k3⟩;replace k3:=Zq k3;go_wp2_with fail;refine(hI.out _).mono ?_;rintro e w4 ⟨rfl,k4⟩;replace k4:=Zq k4;go_wp2;go_ret
  exact⟨rfl,k3.out.trans k4.out⟩
 ·rw[if_neg hw] at cc3 ⊢
  subst cc3;clear hcc hci hw hv nilA hd
  go_enter Tryz.func58,Tryz.ntmps58
  go_wp2_with fail;refine hN.out.mono ?_;rintro e w2 ⟨p,rfl,o,k2,_⟩;replace k2:=Zq k2;replace o:=Zq o;go_wp2_with fail;refine(hA.out w2 p o.out k2.out).mono ?_;rintro e w3 ⟨rfl,k3⟩;replace k3:=Zq k3;go_wp2_with fail;refine(hI.out _).mono ?_;rintro e w4 ⟨rfl,k4⟩;replace k4:=Zq k4;go_wp2;go_ret
  exact⟨rfl,k3.out.trans k4.out⟩
end Go.Proofs.YtcogiogjpbkeaaaGreatDoor.T14
