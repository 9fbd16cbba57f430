/-
  A pod written into an element of a row; a row cut short; the end of a row cleared. No condition, no walk.
  slices.IndexFunc and slices.DeleteFunc over a row of pods of the call's own. Condition: at most 1048576 pods.
  slices.Equal, Index and Contains at slices of ints. No condition.
  What the laws of victims want beside the contracts. No condition, no walk.
-/
import Derived.Test.YtcogiogjpbkeaaaGreatDoorJ0
import Derived.Test.YtcogiogjpbkeaaaGreatDoorJ28
import Derived.Lib.SliceRun
import Derived.Test.YtcogiogjpbkeaaaGreatDoorJ20
namespace Go.Proofs.YtcogiogjpbkeaaaGreatDoor.T13
open Go.RowKit Go.Sort Go.Lib V12
def zhg(w:World)(g o:Nat)(x:zaa):World:=((((((((w.setCell ⟨g,o,none⟩ (.int .i64 x.k)).setCell ⟨g,o+1,none⟩ (.int .i64 x.p)).setCell ⟨g,o+2,none⟩ (.bool x.f)).setCell ⟨g,o+3,none⟩ (.int .i64 x.g)).setCell ⟨g,o+4,none⟩ (.slice x.A x.m x.c)).setCell ⟨g,o+5,none⟩ (.int .i64 x.a)).setCell ⟨g,o+6,none⟩ (.int .i64 x.h)).setCell ⟨g,o+7,none⟩ (.int .i64 x.d)).setCell ⟨g,o+8,none⟩ (.int .i64 x.t)
theorem zll{w:World}{g o k:Nat}(x:zaa)(h:k≠g):(zhg w g o x).heap[k]?=w.heap[k]?:=by
 unfold zhg
 iterate 9 rw[Below.heap_setCell _ _ _ _ (show k≠_ from h)]
theorem row_step{w:World}{b0 g c n j i:Nat}{P:Nat->zaa}{x y:zaa}{u:Value}(h:w.ownsRow b0 26 9 (.slice (some ⟨g,0,none⟩) n c) n (zaj (put P j y) n))(hj:j<n)(hi:i<9)(hx:x.cells=y.cells.set i u):(w.setCell ⟨g,j * 9+i,none⟩ u).ownsRow b0 26 9 (.slice (some ⟨g,0,none⟩) n c) n (zaj (put P j x) n):=by
 have e:=zow (P:=put P j y) hj hi (x:=x) (u:=u) (by rw[zat];exact hx)
 rw[zkt] at e;rw[e];exact(h.stored (j * 9+i) u).1
theorem abz(P:Nat->zaa)(j:Nat):put P j (P j)=P:=by
 funext t
 by_cases e:t=j
 ·rw[e,zat]
 ·rw[zbj _ _ _ e]
theorem ahx{w:World}{b0 g c n j:Nat}{P:Nat->zaa}(h:w.ownsRow b0 26 9 (.slice (some ⟨g,0,none⟩) n c) n (zaj P n))(hj:j<n)(x:zaa):(zhg w g (j * 9) x).ownsRow b0 26 9 (.slice (some ⟨g,0,none⟩) n c) n (zaj (put P j x) n):=by
 have h0:w.ownsRow b0 26 9 (.slice (some ⟨g,0,none⟩) n c) n (zaj (put P j (P j)) n):=by rw[abz];exact h
 obtain⟨y,hy⟩:=Zn (P j);rw[<- hy] at h0;have a0:=row_step (x:={ y with k:=x.k }) (u:=.int .i64 x.k) (i:=0) h0 hj (by omega) rfl
 have a1:=row_step (x:={ y with k:=x.k,p:=x.p }) (u:=.int .i64 x.p) (i:=1) a0 hj (by omega) rfl
 have a2:=row_step (x:={ y with k:=x.k,p:=x.p,f:=x.f }) (u:=.bool x.f) (i:=2) a1 hj (by omega) rfl
 have a3:=row_step (x:={ y with k:=x.k,p:=x.p,f:=x.f,g:=x.g }) (u:=.int .i64 x.g) (i:=3) a2 hj (by omega) rfl
 have a4:=row_step (x:={ y with k:=x.k,p:=x.p,f:=x.f,g:=x.g,A:=x.A,m:=x.m,c:=x.c }) (u:=.slice x.A x.m x.c) (i:=4) a3 hj (by omega) rfl
 have a5:=row_step (x:={ y with k:=x.k,p:=x.p,f:=x.f,g:=x.g,A:=x.A,m:=x.m,c:=x.c,a:=x.a }) (u:=.int .i64 x.a) (i:=5) a4 hj (by omega) rfl
 have a6:=row_step (x:={ y with k:=x.k,p:=x.p,f:=x.f,g:=x.g,A:=x.A,m:=x.m,c:=x.c,a:=x.a,h:=x.h }) (u:=.int .i64 x.h) (i:=6) a5 hj (by omega) rfl
 have a7:=row_step (x:={ y with k:=x.k,p:=x.p,f:=x.f,g:=x.g,A:=x.A,m:=x.m,c:=x.c,a:=x.a,h:=x.h,d:=x.d }) (u:=.int .i64 x.d) (i:=7) a6 hj (by omega) rfl
 exact row_step (x:=x) (u:=.int .i64 x.t) (i:=8) a7 hj (by omega) rfl
theorem acx{w:World}{b0 g c n:Nat}{xs:List Value}(h:w.ownsRow b0 26 9 (.slice (some ⟨g,0,none⟩) n c) n xs):∀ i,w.frozen? ⟨g,i,none⟩=false:=by
 obtain⟨cur,hc⟩:=zfp h rfl;intro i;exact frozen_of_row w g i _ _ hc
theorem zsv{w:World}{base b2 g o n c:Nat}{x y:zaa}{xs:List Value}(h:Req w base y)(hr:w.ownsRow b2 26 9 (.slice (some ⟨g,0,none⟩) n c) n xs):Req (zhg w g o x) base y :=
 zao h fun k hk=>zll x fun e=>by
  subst e;rcases zeo h hr (by decide) with h1 | h1
  ·rw[h1] at hk;cases hk
  ·exact h1 (hk.trans rfl)
theorem zas.put9{w:World}{base g c n:Nat}{P:Nat->zaa}(h:zas w base (.slice (some ⟨g,0,none⟩) n c) n P){j:Nat}(hj:j<n){x:zaa}(hx:Req w base x)(ho:zcy x):zas (zhg w g (j * 9) x) base (.slice (some ⟨g,0,none⟩) n c) n (put P j x) where
 row:=ahx h.row hj x
 own:=fun t ht=>by
  by_cases e:t=j
  ·rw[e,zat];exact zsv hx h.row
  ·rw[zbj _ _ _ e];exact zsv (h.own t ht) h.row
 ok:=fun t ht=>by
  by_cases e:t=j
  ·rw[e,zat];exact ho
  ·rw[zbj _ _ _ e];exact h.ok t ht
theorem znf(Q:Nat->zaa)(i:Nat):∀ n,i<=n->(zaj Q n).take (i * 9)=zaj Q i
 | 0,h=>by
   obtain rfl:i=0:=by omega
   rfl
 | n+1,h=>by
   by_cases e:i=n+1
   ·rw[e,List.take_of_length_le (by rw[zaz];omega)]
   ·rw[zaj,List.take_append_of_le_length (by rw[zaz];omega)]
    exact znf Q i n (by omega)
theorem zas.short{w:World}{base g c n i:Nat}{Q:Nat->zaa}(h:zas w base (.slice (some ⟨g,0,none⟩) n c) n Q)(hi:i<=n):zas w base (.slice (some ⟨g,0,none⟩) i c) i Q:=by
 refine⟨?_,fun j hj=>h.own j (by omega),fun j hj=>h.ok j (by omega)⟩
 rcases h.row.2 with ⟨e,_⟩ | ⟨g',cap,cur,e,h1,h2,h3,h4,h5,h6⟩
 ·cases e
 ·cases e
  refine⟨zaz _ _,.inr ⟨_,_,cur,rfl,h1,h2,by omega,h4,h5,?_⟩⟩
  rw[<- znf Q i n hi,<- h6,List.take_take,Nat.min_eq_left (by omega)]
theorem zas.congr{w:World}{base n:Nat}{v:Value}{P Q:Nat->zaa}(h:zas w base v n P)(e:∀ j,j<n->P j=Q j):zas w base v n Q :=
 ⟨by rw[<- zet n e];exact h.row,fun j hj=>by rw[<- e j hj];exact h.own j hj,fun j hj=>by rw[<- e j hj];exact h.ok j hj⟩
def rep:Nat->List Value
 | 0=>[]
 | m+1=>zaf.cells++rep m
theorem znm:∀ n,(Builtin.zeroCells zaf.val.cells n).toList=rep n
 | 0=>by simp[Builtin.zeroCells,rep]
 | n+1=>by
   have e:=znm n;unfold Builtin.zeroCells at e ⊢;have hz:zaf.val.cells.size=9:=rfl;rw[hz] at e ⊢;rw[Array.toList_map,Array.toList_range] at e ⊢;rw[show(n+1) * 9=9+n * 9 by omega,List.range_add,List.map_append,rep]
   congr 1
   rw[<- e,List.map_map];refine List.map_congr_left fun i _=>?_
   show zaf.val.cells[(9+i) % 9]! = _
   rw[show(9+i) % 9=i % 9 by omega]
theorem zsq{w:World}{g o:Nat}(x:zaa):Fr (fun k=>k=g) w (zhg w g o x):=by
 unfold zhg;exact((((((((((Fr.refl (fun k=>k=g) w).set (Or.inl rfl) _).set (Or.inl rfl) _).set (Or.inl rfl) _).set (Or.inl rfl) _).set (Or.inl rfl) _).set (Or.inl rfl) _).set (Or.inl rfl) _).set (Or.inl rfl) _).set (Or.inl rfl) _)
theorem zvg(w:World)(g o:Nat)(x:zaa)(r:List Value):w.setCells g o (x.cells++r)=(zhg w g o x).setCells g (o+9) r:=by
 simp only[zaa.cells,List.cons_append,List.nil_append,World.setCells,zhg,Nat.add_assoc,Nat.reduceAdd]
theorem zld{base g c n:Nat}:∀ (m i:Nat) {w:World} {P:Nat->zaa},zas w base (.slice (some ⟨g,0,none⟩) n c) n P->i+m<=n ->
  zas (w.setCells g (i * 9) (rep m)) base (.slice (some ⟨g,0,none⟩) n c) n (fun t=>if i<=t/\t<i+m then zaf else P t)/\(∀ k,k≠g->(w.setCells g (i * 9) (rep m)).heap[k]?=w.heap[k]?)/\Fr (fun k=>k=g) w (w.setCells g (i * 9) (rep m))
 | 0,i,w,P,h,_=>by
   have e:w.setCells g (i * 9) (rep 0)=w:=rfl;rw[e];exact⟨h.congr fun j _=>by rw[if_neg (by omega)],fun _ _=>rfl,Fr.refl _ _⟩
 | m+1,i,w,P,h,hm=>by
   have e:w.setCells g (i * 9) (rep (m+1))=(zhg w g (i * 9) zaf).setCells g ((i+1) * 9) (rep m):=by
    rw[show(i+1) * 9=i * 9+9 by omega,rep,zvg]
   obtain⟨h1,h2,h3⟩:=zld m (i+1) (h.put9 (j:=i) (by omega) (zby w base) zxo) (by omega)
   rw[e];refine⟨h1.congr fun j _=>?_,fun k hk=>(h2 k hk).trans (zll _ hk),(zsq zaf).same h3⟩
   by_cases e1:j=i
   ·rw[e1,zat,if_neg (by omega),if_pos (by omega)]
   ·rw[zbj _ _ _ e1]
    by_cases e2:i+1<=j/\j<i+1+m
    ·rw[if_pos e2,if_pos (by omega)]
    ·rw[if_neg e2,if_neg (by omega)]
theorem znq{w:World}{base g c n i:Nat}{P:Nat->zaa}(h:zas w base (.slice (some ⟨g,0,none⟩) n c) n P)(hi:i<n)(d:Nat)(ty:TypeId):
  (Builtin.clear_ #[28] ty #[.slice (some ⟨g,i * 9,none⟩) (n - i) d]).run Tryz.prog w=.ok (.tuple #[]) (w.setCells g (i * 9) (rep (n - i))):=by
 have hl:(rep (n - i)).length=(n - i) * 9:=by
  rw[<- znm];simp[Builtin.zeroCells,show zaf.val.cells.size=9 from rfl]
 have hst:=run_storeCells_cells (P:=Tryz.prog) g (i * 9) (rep (n - i)) 0 w (fun j hj=>by
   rw[Nat.add_zero,h.row.cellAt _ (by rw[hl] at hj;omega),List.getElem?_eq_getElem (by rw[zaz];rw[hl] at hj;omega)]
   rfl) (fun j _=>h.row.frozenAt _) (fun v hv=>by
   have:∀ m,∀ v∈rep m,v.oneCell'=true:=fun m=>by
    induction m with
    | zero=>intro v hv;cases hv
    | succ m ih =>
      intro v hv;rcases List.mem_append.1 hv with hv | hv
      ·exact List.all_eq_true.1 (show(zaf.cells.all fun u=>u.oneCell')=true from rfl) v hv
      ·exact ih v hv
   exact this _ v hv)
 rw[Nat.add_zero] at hst;have hz:=znm (n - i);obtain⟨m,hm⟩:∃ m,n - i=m+1:=⟨n - i - 1,by omega⟩
 rw[hm] at hst hz ⊢;have hz2:(Builtin.zeroCells (Value.agg #[.int .i64 0,.int .i64 0,.bool false,.int .i64 0,.slice none 0 0,.int .i64 0,.int .i64 0,.int .i64 0,.int .i64 0]).cells (m+1)).toList=rep (m+1):=hz;simp[Builtin.clear_,run_underlying Tryz.underlying28,hz2,hst]
end Go.Proofs.YtcogiogjpbkeaaaGreatDoor.T13
namespace Go.Proofs.YtcogiogjpbkeaaaGreatDoor.T15
open Go.RowKit Go.Sort Go.Lib V12 T13 T14
structure Df(w:World)(df:Nat)(caps:Array Value)(g:Option Nat)(n:Nat)(Q:Nat->zaa)(f:zaa->Bool):Prop where
 en:∀ args w,(callFunc df args).run Tryz.prog w=.ok (.enter df args) w
 k:∀ W':World,(∀ i,i<w.heap.size->g≠some i->W'.heap[i]?=w.heap[i]?)->∀ x∈T13.lst Q n,Calls Tryz.prog df (#[x.val]++caps) W' fun e W''=>e=.returned (.bool (f x))/\Keep W' W''
theorem Df.later{w w1:World}{df:Nat}{caps:Array Value}{g:Option Nat}{n:Nat}{Q:Nat->zaa}{f:zaa->Bool}(h:Df w df caps g n Q f)(k:Keep w w1):Df w1 df caps g n Q f :=
 ⟨h.en,fun W' hW x hx=>h.k W' (fun i hi hn=>(hW i (Nat.lt_of_lt_of_le hi k.size) hn).trans (Below.block k i hi)) x hx⟩
set_option maxRecDepth 100000 in
set_option maxHeartbeats 4000000 in
theorem aig{w:World}{base n:Nat}{v:Value}{Q:Nat->zaa}(hR:zas w base v n Q)(hn:n<=1048576){df:Nat}{caps:Array Value}{f:zaa->Bool}(K:Df w df caps v.ownBlock n Q f):
  Calls Tryz.prog 72 #[v,.func (.func df) #[] caps] w fun e w'=>∃ r:Int,e=.returned (.int .i64 r)/\Keep w w'/\((r = -1/\∀ t,t<n->f (Q t)=false)\/∃ j,j<n/\r=(j:Int)/\f (Q j)=true/\∀ t,t<j->f (Q t)=false):=by
 obtain⟨A,c,rfl,hP⟩:=hR.rd (by omega)
 have eg:=K.en;replace K:=Zq K;replace hP:=Zq hP;clear hR
 go_enter Tryz.func72,Tryz.ntmps72
 go_wp2
 go_loopg [5,8] n (fun gx _ s8 wr=>∃ j:Nat,j<=n/\gx=n - j/\s8=.int .i64 j/\Hid (Keep w wr)/\Hid (∀ t,t<j->f (Q t)=false))
 case atStart=>exact⟨0,Nat.zero_le _,rfl,rfl,Keep.refl _,fun t h=>absurd h (Nat.not_lt_zero _)⟩
 case round =>
  obtain⟨j,hj,rfl,rfl,K1,NO⟩:=hrel
  by_cases hlt:j<n
  ·have R2:=hP.out.keep K1.out
   obtain⟨b,off,hA,ca⟩:=R2.adr (by omega)
   subst hA;have q1:=zar b off n c j hlt;have X:=ca j hlt;clear ca;have hc:=Zq ((K.out.later K1.out).k wr (fun _ _ _=>rfl) (Q j) (lst_mem.2 ⟨j,hlt,rfl⟩))
   obtain⟨x,hx⟩:=Zn (Q j);rw[<- hx] at X hc;have x0:=X.e0;have x1:=X.e1;have x2:=X.e2;have x3:=X.e3;have x4:=X.e4;have x5:=X.e5;have x6:=X.e6;have x7:=X.e7;have x8:=X.e8;clear X;obtain⟨r,hr⟩:=Zn (f x);rw[<- hr] at hc;rw[hx] at hr;replace hr:=Zq hr;replace hx:=Zq hx;replace R2:=Zq R2;unfold zaa.val at hc;go_wp2_with fail;refine hc.out.mono ?_;rintro e w1 ⟨rfl,k1⟩;replace k1:=Zq k1;cases r with
   | true =>
     go_wp2;go_ret
     exact⟨j,rfl,K1.out.trans k1.out,Or.inr ⟨j,hlt,rfl,hr.out.symm,NO.out⟩⟩
   | false =>
     have K2:Hid (Keep w w1):=K1.out.trans k1.out;have NO2:Hid (∀ t,t<j+1->f (Q t)=false):=fun t ht=>by
      by_cases e:t=j
      ·rw[e];exact hr.out.symm
      ·exact NO.out t (by omega)
     go_wp2;go_roundg (n - (j+1))
     case measure=>omega
     case rel=>exact⟨j+1,hlt,rfl,by go_num,K2,NO2⟩
  ·obtain rfl:j=n:=by omega
   go_wp2;go_ret
   exact⟨-1,rfl,K1.out,Or.inl ⟨rfl,NO.out⟩⟩
theorem agd{S Q:Nat->zaa}{f:zaa->Bool}{i j:Nat}(h:T13.lst S i=(T13.lst Q j).filter fun x=>!f x)(hf:f (Q j)=false):T13.lst (put S i (Q j)) (i+1)=(T13.lst Q (j+1)).filter fun x=>!f x:=by
 rw[zib,h,lst_succ,List.filter_append,List.filter_cons,if_pos (by rw[hf];rfl),List.filter_nil]
theorem zrx{Q:Nat->zaa}{f:zaa->Bool}{j:Nat}{l:List zaa}(h:l=(T13.lst Q j).filter fun x=>!f x)(hf:f (Q j)=true):l=(T13.lst Q (j+1)).filter fun x=>!f x:=by
 rw[h,lst_succ,List.filter_append,List.filter_cons,if_neg (by rw[hf];decide),List.filter_nil,List.append_nil]
theorem zwg{Q:Nat->zaa}{f:zaa->Bool}{j:Nat}(h:∀ t,t<j->f (Q t)=false):T13.lst Q j=(T13.lst Q j).filter fun x=>!f x:=by
 refine(List.filter_eq_self.2 fun x hx=>?_).symm
 obtain⟨t,ht,rfl⟩:=lst_mem.1 hx;rw[h t ht];rfl
set_option maxRecDepth 100000 in
set_option maxHeartbeats 8000000 in
theorem zxc{w:World}{base n:Nat}{v:Value}{Q:Nat->zaa}(hR:zas w base v n Q)(hn:n<=1048576){df:Nat}{caps:Array Value}{f:zaa->Bool}(K:Df w df caps v.ownBlock n Q f):
  Calls Tryz.prog 35 #[v,.func (.func df) #[] caps] w fun e w'=>∃ v' S,e=.returned v'/\zas w' base v' ((T13.lst Q n).filter fun x=>!f x).length S/\T13.lst S ((T13.lst Q n).filter fun x=>!f x).length=(T13.lst Q n).filter (fun x=>!f x)/\Fr (fun k=>v.ownBlock=some k) w w':=by
 obtain⟨A,c,hv,hP⟩:=hR.rd (by omega)
 subst hv;have eg:=K.en;have cI:=Zq (aig hR hn K);replace K:=Zq K;replace hR:=Zq hR;replace hP:=Zq hP
 go_enter Tryz.func35,Tryz.ntmps35
 go_wp2_with fail;refine cI.out.mono ?_;rintro e w1 ⟨r,rfl,K1,⟨rfl,NO⟩ | ⟨j0,hj0,rfl,YE,NO⟩⟩
 ·have e1:=zwg NO
  have e2:((T13.lst Q n).filter fun x=>!f x).length=n:=by rw[<- e1,lst_len]
  replace e1:=Zq e1;go_wp2;go_ret
  exact⟨_,Q,rfl,by rw[e2];exact hR.out.keep K1,by rw[e2];exact e1.out,Fr.of K1⟩
 ·obtain⟨g,cap,ev,_⟩:=hR.out.row.form (by omega)
  simp only[Value.slice.injEq] at ev;obtain⟨rfl,_,rfl⟩:=ev;have hcap:Hid ((n:Int)<=(c:Int)):=by have:=zds hR.out.row;show _<=_;omega
  have R1:=Zq (hR.out.keep K1);have F1:Hid (Fr (fun k=>k=g) w w1):=Fr.of K1
  have D:Hid (Df w df caps (some g) n Q f):=K.out;have E0:Hid (T13.lst Q j0=(T13.lst Q (j0+1)).filter fun x=>!f x):=zrx (zwg NO) YE
  have hne1:((j0:Int)== -1)=false:=beq_eq_false_iff_ne.2 (by omega)
  clear K hP cI;replace YE:=Zq YE;replace NO:=Zq NO;replace K1:=Zq K1;go_wp2
  go_loopg [5,6,7] (n - (j0+1)) (fun gx s5 s6 _ wr=>∃ (i j:Nat) (S:Nat->zaa),i<j/\j<=n/\gx=n - j/\s5=.int .i64 i/\s6=.int .i64 j/\Hid (zas wr base (.slice (some ⟨g,0,none⟩) n c) n S)/\Hid (Fr (fun k=>k=g) w wr)/\Hid (T13.lst S i=(T13.lst Q j).filter fun x=>!f x)/\Hid (∀ t,j<=t->t<n->S t=Q t))
  case atStart=>exact⟨j0,j0+1,Q,Nat.lt_succ_self _,hj0,rfl,rfl,by go_num,R1.out,F1.out,E0.out,fun _ _ _=>rfl⟩
  case round =>
   clear R1 F1 E0 hne1;obtain⟨i,j,S,hij,hj,rfl,rfl,rfl,RS,FS,ES,TS⟩:=hrel
   by_cases hlt:j<n
   ·have q1:=zar g 0 n c j hlt
    have q2:=zar g 0 n c i (by omega)
    have V:=zcg RS.out.row hlt;have eS:=TS.out j (Nat.le_refl _) hlt;obtain⟨x,hx⟩:=Zn (S j);rw[<- hx] at V eS;rw[Nat.zero_add] at q1 q2 V;have rqx:Hid (Req wr base x):=by rw[hx];exact RS.out.own j hlt
    have okx:Hid (zcy x):=by rw[hx];exact RS.out.ok j hlt
    obtain⟨b,hb⟩:=Zn (wr.heap.size);obtain⟨W1,hW1⟩:=Zn (wr.alloc (.cells (zac x) 26));have k1:Hid (Keep wr W1):=by rw[hW1];exact Keep.one _ _
    have B1:Hid (W1.heap[b]?=some (.cells (zac x) 26 (0,0))):=by show _=_;rw[hW1,hb];exact heap_alloc_new _ _
    have hc:=Zq (D.out.k W1 (fun k hk hn=>(Below.block k1.out k (Nat.lt_of_lt_of_le hk FS.out.size)).trans (FS.out.block k hk fun e=>hn (by rw[e]))) x (lst_mem.2 ⟨j,hlt,eS.symm⟩))
    obtain⟨r,hr⟩:=Zn (f x);rw[<- hr] at hc;rw[eS] at hr;unfold zaa.val at hc;replace hr:=Zq hr;replace hx:=Zq hx;replace eS:=Zq eS;have x0:=V.e0;have x1:=V.e1;have x2:=V.e2;have x3:=V.e3;have x4:=V.e4;have x5:=V.e5;have x6:=V.e6;have x7:=V.e7;have x8:=V.e8;clear V;have C1:=zae B1.out;have c0:=C1.e0;have c1:=C1.e1;have c2:=C1.e2;have c3:=C1.e3;have c4:=C1.e4;have c5:=C1.e5;have c6:=C1.e6;have c7:=C1.e7;have c8:=C1.e8;clear C1;rw[hW1,hb] at c0 c1 c2 c3 c4 c5 c6 c7 c8;unfold zac at hW1;unfold zac at c0 c1 c2 c3 c4 c5 c6 c7 c8;go_wp2_with fail;rw[<- hW1];try rw[<- hb]
    refine hc.out.mono ?_;rintro e w2 ⟨rfl,k2⟩;clear x0 x1 x2 x3 x4 x5 x6 x7 x8 c0 c1 c2 c3 c4 c5 c6 c7 c8 hc;replace hW1:=Zq hW1;replace hb:=Zq hb;have k12:Hid (Keep wr w2):=k1.out.trans k2;have R2:=Zq (RS.out.keep k12.out);have F2:Hid (Fr (fun k=>k=g) w w2):=FS.out.keep k12.out
    have C2:=zae (Keep.block k2 B1.out);replace k2:=Zq k2;cases r with
    | true =>
      have E2:Hid (T13.lst S i=(T13.lst Q (j+1)).filter fun x=>!f x):=zrx ES.out hr.out.symm
      have T2:Hid (∀ t,j+1<=t->t<n->S t=Q t):=fun t h1 h2=>TS.out t (by omega) h2
      clear C2;go_wp2;go_roundg (n - (j+1))
      case measure=>omega
      case rel=>exact⟨i,j+1,S,by omega,hlt,rfl,rfl,by go_num,R2,F2,E2,T2⟩
    | false =>
      have E2:Hid (T13.lst (put S i x) (i+1)=(T13.lst Q (j+1)).filter fun x=>!f x):=by show _=_;rw[eS.out];exact agd ES.out hr.out.symm
      have T2:Hid (∀ t,j+1<=t->t<n->put S i x t=Q t):=fun t h1 h2=>by rw[zbj _ _ _ (by omega)];exact TS.out t (by omega) h2
      obtain⟨W3,hW3⟩:=Zn (zhg w2 g (i * 9) x);have R3:Hid (zas W3 base (.slice (some ⟨g,0,none⟩) n c) n (put S i x)):=by
       rw[hW3];exact R2.out.put9 (by omega) (zal rqx.out k12.out) okx.out
      have F3:Hid (Fr (fun k=>k=g) w W3):=by
       rw[hW3];exact F2.out.same (zsq x)
      have V:=zcg R2.out.row (show i<n by omega)
      rw[Nat.zero_add] at V;have y0:=V.e0;have y1:=V.e1;have y2:=V.e2;have y3:=V.e3;have y4:=V.e4;have y5:=V.e5;have y6:=V.e6;have y7:=V.e7;have y8:=V.e8;clear V;have yf:=acx R2.out.row;have c0:=C2.e0;have c1:=C2.e1;have c2:=C2.e2;have c3:=C2.e3;have c4:=C2.e4;have c5:=C2.e5;have c6:=C2.e6;have c7:=C2.e7;have c8:=C2.e8;clear C2;unfold zhg at hW3;go_wp2;rw[<- hW3];replace hW3:=Zq hW3;clear y0 y1 y2 y3 y4 y5 y6 y7 y8 yf c0 c1 c2 c3 c4 c5 c6 c7 c8;go_roundg (n - (j+1))
      case measure=>omega
      case rel=>exact⟨i+1,j+1,put S i x,by omega,hlt,rfl,by go_num,by go_num,R3,F3,E2,T2⟩
   ·obtain rfl:j=n:=by omega
    have hcl:=fun d ty=>znq RS.out (i:=i) hij d ty
    obtain⟨r1,r2,r3⟩:=zld (j - i) i RS.out (by omega)
    have r4:=r1.short (show i<=j by omega)
    obtain⟨W,hW⟩:=Zn (wr.setCells g (i * 9) (rep (j - i)));rw[<- hW] at r3 r4 hcl;have fin:Hid (∃ S,zas W base (.slice (some ⟨g,0,none⟩) i c) ((T13.lst Q j).filter fun x=>!f x).length S/\T13.lst S ((T13.lst Q j).filter fun x=>!f x).length=(T13.lst Q j).filter (fun x=>!f x)/\Fr (fun k=>some g=some k) w W):=by
     have e2:((T13.lst Q j).filter fun x=>!f x).length=i:=by rw[<- ES.out,lst_len]
     refine⟨_,by rw[e2];exact r4,?_,(FS.out.same r3).less fun k hk=>by rw[hk]⟩
     rw[e2,<- ES.out];exact zfb fun t ht=>if_neg (by omega)
    clear r1 r2 r3 r4;replace hW:=Zq hW;have hc1:=hcap.out;have hij2:(i:Int)<=(j:Int):=by omega
    go_wp2;go_ret
    obtain⟨S',h2,h3,h4⟩:=fin.out;exact⟨_,S',rfl,h2,h3,h4⟩
end Go.Proofs.YtcogiogjpbkeaaaGreatDoor.T15
namespace Go.Proofs.YtcogiogjpbkeaaaGreatDoor.T17
open Go.RowKit Go.Sort Go.Lib V12 T13 T14 T15 T16
theorem ajv(A B:Option Addr)(n m c d:Nat)(Z Y:Nat->Int)(w:World)(h:n≠m):
  Calls Tryz.prog 22 #[.slice A n c,.slice B m d] w fun e w'=>e=.returned (.bool (zfq n Z m Y))/\zbb w w':=by
 go_enter Tryz.func22,Tryz.ntmps22
 go_wp2;go_ret
 exact⟨zsx (aic h).symm,zbb.refl _⟩
set_option maxHeartbeats 400000 in
theorem aju(A B:Option Addr)(n c d:Nat)(Z Y:Nat->Int)(w:World)(hA:Rd w A n Z)(hB:Rd w B n Y):
  Calls Tryz.prog 22 #[.slice A n c,.slice B n d] w fun e w'=>e=.returned (.bool (zfq n Z n Y))/\zbb w w':=by
 have hn:=hA.small
 go_enter Tryz.func22,Tryz.ntmps22
 go_wp2
 go_loopg [13] n (fun g i wr=>∃ k:Nat,k<=n/\g=n - k/\i=.int .i64 k/\zbb w wr/\Aside (∀ j,j<k->Z j=Y j))
 case atStart=>exact⟨0,Nat.zero_le _,rfl,rfl,zbb.refl _,fun _ h=>absurd h (Nat.not_lt_zero _)⟩
 case round =>
  obtain⟨k,hk,rfl,rfl,hd,hall⟩:=hrel
  by_cases hlt:k<n
  ·obtain⟨b,off,rfl,ca⟩:=(hA.below hd.below).adr (by omega)
   obtain⟨b',off',rfl,cb⟩:=(hB.below hd.below).adr (by omega)
   have g0:=ca k hlt;have g1:=cb k hlt;clear ca cb hA hB
   by_cases hz:Z k=Y k
   ·have hzb:(Z k != Y k)=false:=by simp[hz]
    have hz:Hid (Z k=Y k):=hz;go_wp2
    go_quiet (fail)
    go_wp2;go_roundg (n - (k+1))
    case measure=>omega
    case rel=>exact⟨k+1,hlt,rfl,by go_num,hd.drewN _,fun j hj=>by
     rcases Nat.lt_succ_iff_lt_or_eq.1 hj with h | rfl
     ·exact hall.out j h
     ·exact hz⟩
   ·have hzb:(Z k != Y k)=true:=by simp[hz]
    go_wp2
    go_quiet (fail)
    go_wp2;go_ret
    exact⟨zsx (adm hlt (by omega)).symm,hd.drewN _⟩
  ·obtain rfl:k=n:=by omega
   go_wp2;go_ret
   exact⟨zsx (adn rfl hall.out).symm,hd⟩
theorem afy(A B:Option Addr)(n m c d:Nat)(Z Y:Nat->Int)(w:World)(hA:Rd w A n Z)(hB:Rd w B m Y):
  Calls Tryz.prog 22 #[.slice A n c,.slice B m d] w fun e w'=>e=.returned (.bool (zfq n Z m Y))/\zbb w w':=by
 by_cases h:n=m
 ·subst h;exact aju A B n c d Z Y w hA hB
 ·exact ajv A B n m c d Z Y w h
set_option maxHeartbeats 400000 in
def aiy(n:Nat)(Z:Nat->Int)(x r:Int):Prop:=(r = -1/\∀ j,j<n->Z j≠x)\/∃ j:Nat,j<n/\r=(j:Int)/\Z j=x/\∀ i,i<j->Z i≠x
set_option maxHeartbeats 400000 in
theorem agl(A:Option Addr)(n c:Nat)(Z:Nat->Int)(x:Int)(w:World)(hA:Rd w A n Z):Calls Tryz.prog 51 #[.slice A n c,.int .i64 x] w fun e w'=>∃ r:Int,e=.returned (.int .i64 r)/\aiy n Z x r/\Keep w w':=by
 have hn:=hA.small;have HA:=Zq hA;clear hA
 go_enter Tryz.func51,Tryz.ntmps51
 go_wp2
 go_loopg [5,8] n (fun gx _ s8 wr=>∃ k:Nat,k<=n/\gx=n - k/\s8=.int .i64 k/\Hid (Keep w wr)/\Hid (∀ j,j<k->Z j≠x))
 case atStart=>exact⟨0,Nat.zero_le _,rfl,rfl,Keep.refl _,fun _ h=>absurd h (Nat.not_lt_zero _)⟩
 case round =>
  obtain⟨k,hk,rfl,rfl,KR,NO⟩:=hrel
  by_cases hlt:k<n
  ·obtain⟨b,off,rfl,ca⟩:=(HA.out.keep KR.out).adr (by omega)
   have c0:=ca k hlt;clear ca
   by_cases hz:Z k=x
   ·have hzb:(x == Z k)=true:=by simp[hz]
    have hz2:Hid (Z k=x):=hz;clear hz;go_wp2;go_ret
    exact⟨k,rfl,Or.inr ⟨k,hlt,rfl,hz2.out,NO.out⟩,KR.out⟩
   ·have hzb:(x == Z k)=false:=by simp[Ne.symm hz]
    have NO2:Hid (∀ j,j<k+1->Z j≠x):=fun j hj=>by
     rcases Nat.lt_succ_iff_lt_or_eq.1 hj with h | rfl
     ·exact NO.out j h
     ·exact hz
    clear hz;go_wp2;go_roundg (n - (k+1))
    case measure=>omega
    case rel=>exact⟨k+1,hlt,rfl,by go_num,KR.out,NO2.out⟩
  ·obtain rfl:k=n:=by omega
   go_wp2;go_ret
   exact⟨-1,rfl,Or.inl ⟨rfl,NO.out⟩,KR.out⟩
set_option maxHeartbeats 400000 in
theorem aaj(A:Option Addr)(n c:Nat)(Z:Nat->Int)(x:Int)(w:World)(hA:Rd w A n Z)(b:Bool)(hb:b=true↔∃ j,j<n/\Z j=x):Calls Tryz.prog 25 #[.slice A n c,.int .i64 x] w fun e w'=>e=.returned (.bool b)/\Keep w w':=by
 have hI:=Zq (agl A n c Z x w hA);replace hA:=Zq hA;have fin:Hid (∀ r:Int,aiy n Z x r->decide (0<=r)=b):=fun r h=>by
  rcases h with ⟨rfl,hn⟩ | ⟨j,hj,rfl,hz,_⟩
  ·cases b with
   | false=>rfl
   | true =>
     obtain⟨j,hj,e⟩:=hb.1 rfl;exact absurd e (hn j hj)
  ·rw[hb.2 ⟨j,hj,hz⟩]
   exact decide_eq_true (by omega)
 replace hb:=Zq hb
 go_enter Tryz.func25,Tryz.ntmps25
 go_wp2_with fail;refine hI.out.mono ?_;rintro e w1 ⟨r,rfl,hr,k⟩;have hd:=fin.out r hr;replace hr:=Zq hr;replace k:=Zq k;go_wp2;go_ret
 exact⟨rfl,k.out⟩
theorem zrq{w:World}{v:Value}{l:List Int}(h:zbv w v l)(x:Int):Calls Tryz.prog 25 #[v,.int .i64 x] w fun e w'=>e=.returned (.bool (decide (x∈l)))/\Keep w w':=by
 obtain⟨A,c,rfl,hr,_⟩:=h;refine aaj A l.length c (zax l) x w hr _ ?_;rw[decide_eq_true_iff];constructor
 ·intro h
  obtain⟨j,hj,e⟩:=zei h;exact⟨j,hj,e⟩
 ·rintro⟨j,hj,rfl⟩
  exact zdo hj
end Go.Proofs.YtcogiogjpbkeaaaGreatDoor.T17
namespace Go.Proofs.YtcogiogjpbkeaaaGreatDoor.T18
open Go.RowKit Go.Sort Go.Lib V12 T13 T14 T15 T16 T17
theorem u16_wf{x:Int}(h:(Lit.int .u16 x).wf=true):0<=x/\x<=65535:=by
 simp[Lit.wf,IntKind.min,IntKind.max,IntKind.signed,IntKind.bits] at h
 simpa using h
theorem zun{w:World}{v u:Value}{l:List Int}(h:zbv w v l)(k:zbv w u l):Calls Tryz.prog 22 #[v,u] w fun e w'=>e=.returned (.bool true)/\Keep w w':=by
 obtain⟨A,c,rfl,h2,_⟩:=h;obtain⟨B,d,rfl,k2,_⟩:=k;refine(afy A B l.length l.length c d (zax l) (zax l) w h2 k2).mono ?_;rintro e w' ⟨rfl,k⟩;exact⟨by rw[zzc],k.keep⟩
def zgh(kz:Nat->Int)(j:Nat)(R:List Int):Prop:=R.length<=j/\(∀ z∈R,∃ t,t<j/\kz t=z)/\(R.length=j\/∃ i,i<j/\∀ z∈R,∃ t,t<j/\t≠i/\kz t=z)
theorem zgh.nil(kz:Nat->Int):zgh kz 0 []:=⟨Nat.le_refl _,(fun z h=>by cases h),Or.inl rfl⟩
theorem zgh.take{kz:Nat->Int}{j:Nat}{R:List Int}(h:zgh kz j R):zgh kz (j+1) (R++[kz j]):=by
 obtain⟨h1,h2,h3⟩:=h;refine⟨by rw[List.length_append];show R.length+1<=_;omega,fun z hz=>?_,?_⟩
 ·rcases List.mem_append.1 hz with hz | hz
  ·obtain⟨t,ht,e⟩:=h2 z hz
   exact⟨t,by omega,e⟩
  ·exact⟨j,by omega,(List.mem_singleton.1 hz).symm⟩
 ·rcases h3 with h3 | ⟨i,hi,h3⟩
  ·left
   rw[List.length_append,h3];rfl
  ·right
   refine⟨i,by omega,fun z hz=>?_⟩
   rcases List.mem_append.1 hz with hz | hz
   ·obtain⟨t,ht,hti,e⟩:=h3 z hz
    exact⟨t,by omega,hti,e⟩
   ·exact⟨j,by omega,by omega,(List.mem_singleton.1 hz).symm⟩
theorem zgh.skip{kz:Nat->Int}{j:Nat}{R:List Int}(h:zgh kz j R):zgh kz (j+1) R:=by
 obtain⟨h1,h2,h3⟩:=h;refine⟨by omega,fun z hz=>?_,Or.inr ?_⟩
 ·obtain⟨t,ht,e⟩:=h2 z hz
  exact⟨t,by omega,e⟩
 ·rcases h3 with h3 | ⟨i,hi,h3⟩
  ·refine⟨j,by omega,fun z hz=>?_⟩
   obtain⟨t,ht,e⟩:=h2 z hz;exact⟨t,by omega,by omega,e⟩
  ·refine⟨i,by omega,fun z hz=>?_⟩
   obtain⟨t,ht,hti,e⟩:=h3 z hz;exact⟨t,by omega,hti,e⟩
theorem zpx{K:List Int}{t i:Nat}(ht:t<K.length)(h:t≠i):zax K t∈K.take i++K.drop (i+1):=by
 rw[List.mem_append]
 by_cases e:t<i
 ·left
  have:(K.take i)[t]?=some (zax K t):=by rw[List.getElem?_take,if_pos e];exact zhp ht
  exact List.mem_of_getElem? this
 ·right
  have:(K.drop (i+1))[t - (i+1)]?=some (zax K t):=by rw[List.getElem?_drop,show i+1+(t - (i+1))=t by omega];exact zhp ht
  exact List.mem_of_getElem? this
theorem znb{P:Nat->zaa}{n t:Nat}{l:List zaa}(h:keys (T13.lst P n)=keys l)(ht:t<n):zax (keys l) t=(P t).k:=by
 rw[<- h];unfold zax;rw[List.getD_eq_getElem?_getD];simp[keys,T13.lst,ht]
section
variable{p:zaa}{nd:Int}{M:List NV}{L:List zaa}{d:Nat}
theorem ztm:(zct p nd M L d).Sublist (zbr p nd L):=by
 obtain⟨s,h1,h2⟩:=zmd (p:=p) (nd:=nd) (M:=M) (L:=L) (d:=d) (zbr p nd L) [];unfold zct;rw[h2];exact h1
theorem zqv{y:zaa}(h:y∈zct p nd M L d):y.p<p.p/\y.h=3/\y.d=nd:=by
 have h1:=(List.mem_filter.1 ((zdj _).mem_iff.1 (ztm.subset h))).2;have h2:=of_decide_eq_true h1;exact⟨h2.2.2,h2.2.1,h2.1⟩
theorem zqu:(zct p nd M L d).length<=L.length:=Nat.le_trans ztm.length_le (zia p nd L)
theorem zxm(ok:Ok d M L){i:Nat}(hi:i<(zct p nd M L d).length):zdn p nd M L d (zci (keys ((zct p nd M L d).take i++(zct p nd M L d).drop (i+1))))=false:=by
 have h:=zqx (p:=p) (nd:=nd) ok (zbr p nd L) [] (zct p nd M L d) rfl ((zct p nd M L d).take i) ((zct p nd M L d).drop (i+1)) ((zct p nd M L d)[i]) (by rw[<- List.drop_eq_getElem_cons hi,List.take_append_drop])
 exact h
theorem zsc(l:List zaa)(i:Nat):keys (l.take i++l.drop (i+1))=(keys l).take i++(keys l).drop (i+1):=by
 unfold keys;rw[List.map_append,List.map_take,List.map_drop]
theorem ztl(ok:Ok d M L)(h:zek p nd M L d=true):zgn (zdn p nd M L d) (keys (zct p nd M L d))=true:=by
 refine zqg ?_ fun i hi=>?_
 ·exact zkc (zbr p nd L) [] h
 ·rw[<- zsc]
  exact zxm ok (by rw[zdf] at hi;exact hi)
theorem alu(ok:Ok d M L)(h:zek p nd M L d=true):decide ((zct p nd M L d).length=0)=zdn p nd M L d no:=by
 have h2:=aiu (p:=p) (nd:=nd) ok (zbr p nd L) h;rw[Bool.eq_iff_iff,decide_eq_true_iff,List.length_eq_zero_iff];exact h2
theorem aew(ok:Ok d M L){R:List Int}{i:Nat}(hi:i<(zct p nd M L d).length)(h:∀ z∈R,z∈keys ((zct p nd M L d).take i++(zct p nd M L d).drop (i+1))):zdn p nd M L d (zci R)=false:=by
 cases hc:zdn p nd M L d (zci R) with
 | false=>rfl
 | true =>
   have h1:=zkk ok (O:=zci R) (O':=zci (keys ((zct p nd M L d).take i++(zct p nd M L d).drop (i+1)))) (fun k hk=>decide_eq_true (h k (of_decide_eq_true hk))) hc
   have h2:=zxm (p:=p) (nd:=nd) ok hi;unfold zdn at h2;rw[h1] at h2;cases h2
end
end Go.Proofs.YtcogiogjpbkeaaaGreatDoor.T18
