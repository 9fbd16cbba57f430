/-
  Package rank's Sort over T13's pods (as RowP6 KSort6). Conditions as there.
  Package rank's Sort of pods with no ID twice: the one list in order. Conditions: at most 1000 pods, requests of at most 1000 amounts.
  Package rank's Lower over T13's pods (as Lower6). Conditions as there.
-/
import Derived.Test.YtcogiogjpbkeaaaGreatDoorJ0
import Derived.Test.YtcogiogjpbkeaaaGreatDoorJ38
import Derived.Test.YtcogiogjpbkeaaaGreatDoorJ20
namespace Go.Proofs.YtcogiogjpbkeaaaGreatDoor.K18
open Go.RowKit Go.Sort Go.Lib Go.Shelf V12 T13
theorem zpg{enc:Nat->List Value}{k:Nat}{w0 W:World}{blk off:Nat}{dk:Array Nat}(h:SWK enc k w0 blk off dk W):w0.grownBy W (some blk):=by
 obtain⟨m,os,rfl⟩:=h;unfold sortWorldK;refine⟨rfl,rfl,rfl,by rw[size_grow,size_putRowK];exact Nat.le_add_right _ _,fun j hj hne=>?_⟩
 rw[heap_grow_old _ _ (by rw[size_putRowK];exact hj)]
 unfold putRowK putRow mapBlock;have:j≠blk:=fun e=>hne (by rw[e])
 rw[Array.getElem?_modify,if_neg (fun e=>this e.symm)]
 rfl
def zmq(Q:Nat->zaa):Nat->List Value:=fun t=>(Q t).cells
theorem zyb(Q:Nat->zaa)(n t:Nat)(h:t<n * 9):(flatK (zmq Q) 9 (Array.range n))[t]! = (zaj Q n)[t]!:=by
 rw[get_flatK _ _ _ _ (by simpa using h)]
 have h1:t / 9<n:=by omega
 have h2:t % 9<9:=Nat.mod_lt _ (by omega)
 have e:(Array.range n)[t / 9]! = t / 9:=by rw[getElem!_pos _ _ (by simpa using h1)];simp
 rw[e];have hg:=zfe Q n (t / 9) (t % 9) h1 h2;rw[show t / 9 * 9+t % 9=t by omega] at hg
 show(Q (t / 9)).cells[t % 9]! = _
 rw[List.getElem!_eq_getElem?_getD,List.getElem!_eq_getElem?_getD,hg]
theorem rowp_holds{w:World}{base g n cap:Nat}{Q:Nat->zaa}(h:zas w base (.slice (some ⟨g,0,none⟩) n cap) n Q):HoldsK (zmq Q) 9 w g 0 (Array.range n):=by
 intro t ht;rw[size_flatK,Array.size_range] at ht;rw[Nat.zero_add,zyb Q n t ht];refine⟨?_,h.row.frozenAt t⟩;rw[h.row.cellAt t ht,List.getElem!_eq_getElem?_getD];have:t<(zaj Q n).length:=by rw[zaz];exact ht
 rw[List.getElem?_eq_getElem this];rfl
theorem zye{w:World}{g:Nat}{Q:Nat->zaa}{dk:Array Nat}(h:HoldsK (zmq Q) 9 w g 0 dk){j:Nat}(hj:j<dk.size):zcr w g (0+j * 9) (Q dk[j]!):=by
 refine ziv fun i u hu=>?_
 have hi:i<9:=(List.getElem?_eq_some_iff.1 hu).1;rw[(h.cell hj hi).1];show some ((Q dk[j]!).cells[i]!)=_
 rw[List.getElem!_eq_getElem?_getD,hu];rfl
def cfP(P:Nat->zaa)(s t:Nat):Int:=cmpP (P s) (P t)
theorem cmpP_neg(x y:zaa):cmpP x y<0↔(y.p<x.p\/(y.p=x.p/\(x.a<y.a\/(x.a=y.a/\x.k<y.k)))):=by
 unfold cmpP or3 zkh
 repeat' split
 all_goals omega
theorem aag(P:Nat->zaa):SWO (ltOf (cfP P)) where
 irrefl:=fun x=>by
  unfold ltOf cfP;rw[decide_eq_false_iff_not,cmpP_neg];omega
 trans:=fun x y z h1 h2=>by
  unfold ltOf cfP at *;rw[decide_eq_true_eq,cmpP_neg] at *;omega
 ntrans:=fun x y z h1 h2=>by
  unfold ltOf cfP at *;rw[decide_eq_false_iff_not,cmpP_neg] at *;omega
theorem ags(Q:Nat->zaa)(b1 b2 b3 g size:Nat)(w:World)(K:Keys w b1 b2 b3)(h1:b1≠g)(h2:b2≠g)(h3:b3≠g):CmpLays Tryz.prog 118 (zmv b1 b2 b3) (zmq Q) 9 (cfP Q) g 0 size w:=by
 intro m os dk _ x y;have hk:Keys (sortWorldK (zmq Q) 9 w g 0 m dk os) b1 b2 b3:=by
  have hb:=zpg (⟨m,os,rfl⟩:SWK (zmq Q) 9 w g 0 dk (sortWorldK (zmq Q) 9 w g 0 m dk os));have c:∀ b v,b≠g->w.cell? ⟨b,0,none⟩=some v->(sortWorldK (zmq Q) 9 w g 0 m dk os).cell? ⟨b,0,none⟩=some v:=fun b v hb1 hc=>by
   have hlt:=zbl hc;rw[World.cell?_of_block (a:=⟨b,0,none⟩) (hb.block b hlt (fun e=>hb1 (Option.some.inj e)))]
   exact hc
  exact⟨c b1 _ h1 K.c1,c b2 _ h2 K.c2,c b3 _ h3 K.c3⟩
 have h:=ztz b1 b2 b3 (Q x) (Q y) _ hk;exact h
set_option maxHeartbeats 2000000 in
theorem znu(Q:Nat->zaa)(b1 b2 b3 g n cap:Nat)(w:World)(K:Keys w b1 b2 b3)(h1:b1≠g)(h2:b2≠g)(h3:b3≠g)(hg:g<w.heap.size)(hn:n<=1048576)(hH:HoldsK (zmq Q) 9 w g 0 (Array.range n)):
  Calls Tryz.prog 75 #[.slice (some ⟨g,0,none⟩) n cap,zxu b1 b2 b3] w fun e w'=>e=.returned (.tuple #[])/\∃ dk:Array Nat,SWK (zmq Q) 9 w g 0 dk w'/\PermIn 0 n (Array.range n) dk/\SortedIn (loS (ltOf (cfP Q))) 0 n dk:=by
 have hs:(Array.range n).size=n:=Array.size_range;have hc:=zvk Tryz.sly Tryz.ins (zmq Q) (cfP Q) 118 (zmv b1 b2 b3) (aag Q) g 0 cap (Array.range n) w (enters_of Tryz.func118 (by kernel_rfl) rfl) (ags Q b1 b2 b3 g _ w K h1 h2 h3) ⟨fun _=>rfl,fun x=>cells_one (Q x),hH,hg⟩ (by omega)
  (fun p hp=>by rw[hs] at hp;rw[getElem!_pos _ _ (by simpa using hp)];simp)
 rw[hs] at hc;unfold zxu;generalize zmv b1 b2 b3=cb at hc ⊢;replace hc:=Zq hc
 go_enter Tryz.func75,Tryz.ntmps75
 go_wp2_with (go_at_call 114;refine hc.out.mono ?_;rintro e w1 ⟨rfl,dk,S1,p1,s1⟩)
 go_end0
 exact⟨rfl,dk,S1,p1,s1⟩
structure Sorted(w w':World)(P:Nat->zaa)(n:Nat)(v:Value):Prop where
 keep:Keep w w'
 at_:∃ g,v=.slice (some ⟨g,0,none⟩) n n/\w.heap.size<=g/\g<w'.heap.size/\(∀ t,t<n * 9->w'.frozen? ⟨g,t,none⟩=false) /\
  ∃ (S:Nat->zaa) (dk:Array Nat),zai w' (some ⟨g,0,none⟩) n S/\(∀ j,j<n->∃ base,Req w' base (S j)/\zcy (S j)/\(Value.slice (S j).A (S j).m (S j).c).ownBlock≠some g)/\PermIn 0 n (Array.range n) dk/\SortedIn (loS (ltOf (cfP P))) 0 n dk/\∀ j,j<n->zec (S j) (P dk[j]!)
theorem zrm{x y z u:zaa}(h:zec x y)(k:zec z u):cmpP x z=cmpP y u:=by
 obtain⟨A,c,rfl⟩:=h;obtain⟨B,d,rfl⟩:=k;rfl
set_option maxRecDepth 100000 in
set_option maxHeartbeats 8000000 in
theorem ksort_fn(A:Option Addr)(n c:Nat)(P:Nat->zaa)(w:World)(hR:zai w A n P)(hn:n<=1048576)(hm:∀ j,j<n->(P j).m<=1048576):
  Calls Tryz.prog 38 #[.slice A n c] w fun e w'=>∃ v,e=.returned v/\Sorted w w' P n v:=by
 replace hR:=Zq hR;replace hm:=Zq hm;obtain⟨i0,hi0,hz0,hz1,hz2⟩:=info_parts Tryz.infoPod;obtain⟨wm,hmk,hown,hgm⟩:=Go.run_makeSlice_owned (P:=Tryz.prog) (w:=w) w.heap.size 28 26 i0 _ 9 Tryz.underlying28 hi0 hz0 hz1 .i64 .i64 n (by omega) (by rw[hz2];omega) (by unfold maxLen;omega) (Nat.le_refl _)
 have km:Keep w wm:=zad (Keep.refl w) hgm (fun g h=>by cases h)
 obtain⟨g,hg⟩:=Zn (w.heap.size);rw[<- hg] at hmk hown;have r0:Hid (zas wm g (.slice (some ⟨g,0,none⟩) 0 n) 0 P):=⟨hown,fun _ h=>absurd h (Nat.not_lt_zero _),fun _ h=>absurd h (Nat.not_lt_zero _)⟩
 have hsz:=km.size;rw[<- hg] at hsz;replace hg:=Zq hg;replace km:=Zq km;replace hgm:=Zq hgm;replace hown:=Zq hown
 go_enter Tryz.func38,Tryz.ntmps38
 go_wp2
 go_loopg [3,11] n (fun gx s3 s11 wr=>∃ (j:Nat) (Q:Nat->zaa),j<=n/\gx=n - j/\s11=.int .i64 j/\s3=.slice (some ⟨g,0,none⟩) j n/\Hid (Keep w wr)/\Hid (zas wr g (.slice (some ⟨g,0,none⟩) j n) j Q)/\Hid (∀ t,t<j->zec (Q t) (P t)))
 case atStart=>exact⟨0,P,Nat.zero_le _,rfl,rfl,rfl,km,r0,fun t ht=>absurd ht (Nat.not_lt_zero _)⟩
 case round =>
  clear r0 hgm hown hmk hsz;obtain⟨j,Q,hj,rfl,rfl,rfl,G,RW,SV⟩:=hrel;have R2:=Zq (hR.out.keep G.out)
  by_cases hlt:j<n
  ·obtain⟨b,off,hA,ca⟩:=R2.out.adr (by omega)
   subst hA;have q1:=zar b off n c j hlt;have X:=ca j hlt;have Xi:=R2.out.is j hlt;have hxm:=hm.out j hlt;clear ca;obtain⟨x,hx⟩:=Zn (P j);rw[<- hx] at X Xi hxm;replace hx:=Zq hx;replace Xi:=Zq Xi;have x0:=X.e0;have x1:=X.e1;have x2:=X.e2;have x3:=X.e3;have x4:=X.e4;have x5:=X.e5;have x6:=X.e6;have x7:=X.e7;have x8:=X.e8;clear X;have hk:∀ W:World,zah W x->Calls Tryz.prog 74 #[.agg #[.int .i64 x.k,.int .i64 x.p,.bool x.f,.int .i64 x.g,.slice x.A x.m x.c,.int .i64 x.a,.int .i64 x.h,.int .i64 x.d,.int .i64 x.t]] W fun e w'=>∃ A c,e=.returned (.agg #[.int .i64 x.k,.int .i64 x.p,.bool x.f,.int .i64 x.g,.slice A x.m c,.int .i64 x.a,.int .i64 x.h,.int .i64 x.d,.int .i64 x.t])/\Keep W w'/\zah w' (x.at A c)/\w'.ownsRow W.heap.size 2 1 (.slice A x.m c) x.m (zba x.m x.Z):=fun W h=>zor x W h hxm
   replace hk:=Zq hk;go_wp2_with fail;refine(hk.out _ (Xi.out.keep (Keep.one _ _))).mono ?_;rintro e w1 ⟨A',c',rfl,k1,is1,rq1⟩;have RW1:=Zq (RW.out.keep ((Keep.one _ _).trans k1));have G1:=Zq (G.out.trans ((Keep.one _ _).trans k1));have hg1:g<=w1.heap.size:=by rw[hg.out];exact G1.out.size
   have rq2:Hid (Req w1 g (x.at A' c')):=zbx rq1 (by
    have:=G.out.size;rw[World.size_alloc];have:=hg.out
    omega)
   have ok2:=Zq is1.ok;replace is1:=Zq is1;replace rq1:=Zq rq1;replace k1:=Zq k1;clear x0 x1 x2 x3 x4 x5 x6 x7 x8 q1 Xi R2;have N1:Hid (∀ o:Obj,∀ i u,(x.at A' c').cells[i]?=some u->o=.cells #[.int .i64 x.k,.int .i64 x.p,.bool x.f,.int .i64 x.g,.slice A' x.m c',.int .i64 x.a,.int .i64 x.h,.int .i64 x.d,.int .i64 x.t] 26->(w1.alloc o).cell? ((⟨w1.heap.size,0,none⟩:Addr).add i)=some u):=by
    intro o i u hu ho;subst ho;rw[WideShapes.add_plain,Nat.zero_add,World.cell?_alloc_new,<- hu,List.getElem?_toArray];rfl
   go_wp2_with (at_builtin;refine wpList_append_own_spare _ rfl _ _ 28 rfl g 26 i0 9 Tryz.underlying28 hi0 hz1 g j n (zaj Q j) (by simp[Act.eval]) ((RW1.out.keep (Keep.one _ _)).row) ⟨w1.heap.size,0,none⟩ 1 1 (x.at A' c').cells (by simp[Act.eval]) (by rw[zmn]) (fun i u hu=>N1.out _ i u hu rfl) (cells_one _) (by omega) ?_;intro w2 hr2 hg2)
   have RW2:Hid (zas w2 g (.slice (some ⟨g,0,none⟩) (j+1) n) (j+1) (put Q j (x.at A' c'))):=(RW1.out.keep (Keep.one _ _)).more (zal rq2.out (Keep.one _ _)) ok2.out hr2 hg2
   have G2:Hid (Keep w w2):=zad (G1.out.trans (Keep.one _ _)) hg2 (fun q hq=>by
    have:=hg.out;simp at hq
    omega)
   replace hr2:=Zq hr2;replace hg2:=Zq hg2;go_roundg (n - (j+1))
   case measure=>omega
   case rel =>
    refine⟨j+1,put Q j (x.at A' c'),hlt,rfl,by go_num,rfl,G2,RW2,fun t ht=>?_⟩
    by_cases e:t=j
    ·subst e
     rw[zat,<- hx.out];exact⟨A',c',rfl⟩
    ·rw[zbj _ _ _ e]
     exact SV.out t (by omega)
  ·obtain rfl:j=n:=by omega
   go_wp2_with fail;refine(abo wr).mono ?_;rintro e w1 ⟨b1,b2,b3,rfl,K1,h1,n1,n2,n3⟩;have hgs:g<wr.heap.size:=(RW.out.row.lt g rfl).2;have RW1:=Zq (RW.out.keep h1.keep);have hH:=rowp_holds RW1.out;have hgs1:g<w1.heap.size:=Nat.lt_of_lt_of_le hgs h1.keep.size;have hc:=znu Q b1 b2 b3 g j j w1 K1 (by omega) (by omega) (by omega) hgs1 hn hH
   have G1:=Zq (G.out.trans h1.keep);have hfz:Hid (∀ t,t<j * 9->w1.frozen? ⟨g,t,none⟩=false):=fun t ht=>RW1.out.row.frozenAt t
   unfold zxu zmv at hc;unfold zxu zmv;replace hc:=Zq hc;replace hH:=Zq hH;replace K1:=Zq K1;replace h1:=Zq h1;replace n1:=Zq n1;replace n2:=Zq n2;replace n3:=Zq n3;go_wp2_with fail;refine hc.out.mono ?_;rintro e w2 ⟨rfl,dk,S2,p2,s2⟩;have hgr:=Zq (zpg S2);have hdk:dk.size=j:=by rw[p2.1,Array.size_range]
   have hH2:=Zq (S2.holds hgs1 hH.out (by rw[hdk,Array.size_range]))
   have hle:=hgr.out.size;replace S2:=Zq S2;replace p2:=Zq p2;replace s2:=Zq s2;go_wp2;go_ret
   have hin:∀ t,t<j->dk[t]! < j:=fun t ht=>permIn_all (Array.range j) dk 0 j (fun v=>v<j) (by simp) p2.out (fun i _ hi=>by rw[getElem!_pos _ _ (by simpa using hi)];simpa using hi) t (Nat.zero_le _) ht
   have hq:∀ t,t<j->Req w2 g (Q t)/\(Value.slice (Q t).A (Q t).m (Q t).c).ownBlock≠some g:=fun t ht=>by
    have r:=RW1.out.own t ht;have ap:=zeo r RW1.out.row (by decide)
    have ne:(Value.slice (Q t).A (Q t).m (Q t).c).ownBlock≠some g:=by
     rcases ap with h | h
     ·rw[h];simp
     ·exact h
    exact⟨World.ownsRow.kept r hgr.out (Or.inr ne),ne⟩
   refine⟨_,rfl,zad G1.out hgr.out (fun q hq=>by have:=hg.out;simp at hq;omega),g,rfl,by rw[<- hg.out];exact Nat.le_refl _,by omega,fun t ht=>?_,fun t=>Q dk[t]!,dk,⟨by omega,fun _=>⟨g,0,rfl,fun t ht=>zye hH2.out (by omega)⟩,fun t ht=>(hq _ (hin t ht)).1.is (RW1.out.ok _ (hin t ht))⟩,fun t ht=>⟨g,(hq _ (hin t ht)).1,RW1.out.ok _ (hin t ht),(hq _ (hin t ht)).2⟩,p2.out,?_,fun t ht=>SV.out _ (hin t ht)⟩
   ·have:=(hH2.out t (by rw[size_flatK,hdk];exact ht)).2
    rwa [Nat.zero_add] at this
   ·intro s t h1 h2 h3
    have:=s2.out s t h1 h2 h3;have e:∀ s t,s<j->t<j->loS (ltOf (cfP Q)) s t=loS (ltOf (cfP P)) s t:=fun s t hs ht=>by
     have e1:cfP Q s t=cfP P s t:=zrm (SV.out s hs) (SV.out t ht);have e2:cfP Q t s=cfP P t s:=zrm (SV.out t ht) (SV.out s hs);unfold loS ltOf;rw[e1,e2]
    rwa [e _ _ (hin t h3) (hin s (by omega))] at this
end Go.Proofs.YtcogiogjpbkeaaaGreatDoor.K18
namespace Go.Proofs.YtcogiogjpbkeaaaGreatDoor.T18
open Go.RowKit Go.Sort Go.Lib V12 T13 T14 T15 T16 T17
theorem znw{d:Array Nat}{n t:Nat}(hs:d.size=n)(ht:t<n):d.toList[t]?=some d[t]!:=by
 rw[Array.getElem?_toList,getElem!_pos d t (by omega),Array.getElem?_eq_getElem (by omega)]
theorem afv{n:Nat}{d:Array Nat}(h:PermIn 0 n (Array.range n) d):d.size=n/\d.toList.Perm (List.range n):=by
 have hs:d.size=n:=by rw[h.1,Array.size_range]
 refine⟨hs,?_⟩;have h2:=h.2.2;rw[Array.extract_eq_self_of_le (by omega),Array.extract_eq_self_of_le (by simp),Array.toList_range] at h2
 exact h2
theorem aah{x y:zaa}:K18.cmpP x y<0↔zeh x y=true:=by
 unfold zeh;rw[K18.cmpP_neg,decide_eq_true_iff];constructor<;>intro h<;>omega
theorem zyg(A:Option Addr)(n c:Nat)(P:Nat->zaa)(w:World)(hR:zai w A n P)(hn:n<=1000)(hm:∀ j,j<n->(P j).m<=1000){l:List zaa}(hl:(T13.lst P n).map nm=l)(hu:(keys l).Nodup):
  Calls Tryz.prog 38 #[.slice A n c] w fun e w'=>∃ v,e=.returned v/\zcu w' v (zht l)/\(∀ g,v.ownBlock=some g->w.heap.size<=g)/\Keep w w':=by
 refine(K18.ksort_fn A n c P w hR (by omega) (fun j hj=>Nat.le_trans (hm j hj) (by omega))).mono ?_
 rintro e w' ⟨v,rfl,⟨k,g,rfl,hg,_,_,S,dk,RS,_,pm,so,sv⟩⟩;obtain⟨hs,pl⟩:=afv pm;have hln:l.length=n:=by rw[<- hl,List.length_map,lst_len]
 have lt_n:∀ t,t<n->dk[t]! < n:=fun t ht=>by
  have h1:=List.mem_of_getElem? (znw hs ht);exact List.mem_range.1 (pl.mem_iff.1 h1)
 have eK:(T13.lst S n).map nm=dk.toList.map fun i=>nm (P i):=by
  refine List.ext_getElem? fun t=>?_
  rw[List.getElem?_map,List.getElem?_map]
  by_cases ht:t<n
  ·rw[zaw ht,znw hs ht,Option.map_some,Option.map_some,zqi (sv t ht)]
  ·rw[List.getElem?_eq_none (by rw[lst_len];omega),List.getElem?_eq_none (by rw[Array.length_toList];omega)]
   rfl
 have eP:((T13.lst S n).map nm).Perm l:=by
  rw[eK,<- hl];have h:=pl.map fun i=>nm (P i)
  refine h.trans ?_;unfold T13.lst;rw[List.map_map];exact List.Perm.refl _
 have hnk:(keys ((T13.lst S n).map nm)).Nodup:=(List.Perm.nodup_iff (eP.map _)).2 hu;have eS:zmh ((T13.lst S n).map nm):=by
  refine List.pairwise_iff_getElem.2 fun s t hs1 ht1 hst=>?_
  have hs2:s<n:=by rw[List.length_map,lst_len] at hs1;exact hs1
  have ht2:t<n:=by rw[List.length_map,lst_len] at ht1;exact ht1
  have g1:∀ u (hu1:u<((T13.lst S n).map nm).length),u<n->((T13.lst S n).map nm)[u]=nm (P dk[u]!):=fun u hu1 hu2=>by
   have h:=List.getElem?_eq_getElem hu1;rw[List.getElem?_map,zaw hu2,Option.map_some] at h;rw[<- Option.some.inj h,zqi (sv u hu2)]
  have h:=so s t (Nat.zero_le _) hst ht2;have nb:¬zeh (nm (P dk[t]!)) (nm (P dk[s]!))=true:=fun hb=>by
   have h3:ltOf (K18.cfP P) dk[t]! dk[s]! = true:=decide_eq_true (aah.2 hb);unfold loS at h;rw[h3] at h;cases h
  have hne:(nm (P dk[s]!)).k≠(nm (P dk[t]!)).k:=by
   have h4:=List.pairwise_iff_getElem.1 hnk s t (by rw[zdf];exact hs1) (by rw[zdf];exact ht1) hst
   have k1:∀ u (hu1:u<((T13.lst S n).map nm).length) (hu2:u<(keys ((T13.lst S n).map nm)).length),(keys ((T13.lst S n).map nm))[u]=(((T13.lst S n).map nm)[u]).k:=fun u _ _=>by
    exact List.getElem_map _
   rw[k1 s hs1,k1 t ht1,g1 s hs1 hs2,g1 t ht1 ht2] at h4;exact h4
  rw[g1 s hs1 hs2,g1 t ht1 ht2];exact(zpv hne).resolve_right nb
 have fin:(T13.lst S n).map nm=zht l:=znt eS (zns hu) (eP.trans (zdj l).symm);have hsl:(zht l).length=n:=by rw[zqq,hln]
 refine⟨_,rfl,?_,fun g' e=>?_,k⟩
 ·unfold zcu
  rw[hsl];exact⟨some ⟨g,0,none⟩,n,S,rfl,RS,fin,fun e=>by cases e⟩
 ·have:g=g':=by simpa [Value.ownBlock] using e
  omega
end Go.Proofs.YtcogiogjpbkeaaaGreatDoor.T18
namespace Go.Proofs.YtcogiogjpbkeaaaGreatDoor.K18
open Go.RowKit Go.Sort Go.Lib Go.Shelf V12 T13
def lowL(P:Nat->zaa)(q:Int):Nat->List Nat
 | 0=>[]
 | n+1=>if (P n).p<q then lowL P q n++[n] else lowL P q n
theorem zmz(P:Nat->zaa)(q:Int):∀ n,(lowL P q n).length<=n
 | 0=>Nat.le_refl _
 | n+1=>by
   have:=zmz P q n;unfold lowL
   split
   ·rw[List.length_append];exact Nat.succ_le_succ this
   ·omega
theorem zya(L:List Nat)(x t:Nat):(L++[x]).getD t 0=if t<L.length then L.getD t 0 else if t=L.length then x else 0:=by
 rw[List.getD_eq_getElem?_getD]
 by_cases e:t<L.length
 ·rw[if_pos e,List.getElem?_append_left e,List.getD_eq_getElem?_getD]
 ·rw[if_neg e,List.getElem?_append_right (by omega)]
  by_cases e2:t=L.length
  ·rw[if_pos e2,e2];simp
  ·rw[if_neg e2,List.getElem?_eq_none (by simp;omega)];rfl
structure ajh(w w':World)(P:Nat->zaa)(L:List Nat)(v:Value):Prop where
 keep:Keep w w'
 at_:∃ A c S,v=.slice A L.length c/\zai w' A L.length S/\∀ t,t<L.length->zec (S t) (P (L.getD t 0))
set_option maxRecDepth 100000 in
set_option maxHeartbeats 8000000 in
theorem klower_fn(A:Option Addr)(n c:Nat)(P:Nat->zaa)(q:Int)(w:World)(hR:zai w A n P)(hn:n<=1048576)(hm:∀ j,j<n->(P j).m<=1048576):
  Calls Tryz.prog 39 #[.slice A n c,.int .i64 q] w fun e w'=>∃ v,e=.returned v/\ajh w w' P (lowL P q n) v:=by
 replace hR:=Zq hR;replace hm:=Zq hm;obtain⟨i0,hi0,hz0,hz1,hz2⟩:=info_parts Tryz.infoPod
 go_enter Tryz.func39,Tryz.ntmps39
 go_wp2
 go_loopg [5,10] n (fun gx s5 s10 wr=>∃ (j:Nat) (Q:Nat->zaa),j<=n/\gx=n - j/\s10=.int .i64 j/\Hid (Keep w wr)/\Hid (zas wr w.heap.size s5 (lowL P q j).length Q)/\Hid (∀ t,t<(lowL P q j).length->zec (Q t) (P ((lowL P q j).getD t 0))))
 case atStart=>exact⟨0,P,Nat.zero_le _,rfl,rfl,Keep.refl _,zas.nil _ _ _,fun t ht=>absurd ht (Nat.not_lt_zero _)⟩
 case round =>
  obtain⟨j,Q,hj,rfl,rfl,G,RW,SV⟩:=hrel;have R2:=Zq (hR.out.keep G.out)
  by_cases hlt:j<n
  ·obtain⟨b,off,hA,ca⟩:=R2.out.adr (by omega)
   subst hA;have q1:=zar b off n c j hlt;have X:=ca j hlt;have Xi:=R2.out.is j hlt;have hxm:=hm.out j hlt;have hll:=zmz P q j;clear ca;obtain⟨x,hx⟩:=Zn (P j);have hL:Hid (lowL P q (j+1)=if x.p<q then lowL P q j++[j] else lowL P q j):=by show _=_;rw[hx];rfl
   rw[<- hx] at X Xi hxm;replace hx:=Zq hx;replace Xi:=Zq Xi;generalize lowL P q j=L at *;have x0:=X.e0;have x1:=X.e1;have x2:=X.e2;have x3:=X.e3;have x4:=X.e4;have x5:=X.e5;have x6:=X.e6;have x7:=X.e7;have x8:=X.e8;clear X
   by_cases hp:x.p<q
   ·have hk:∀ W:World,zah W x->Calls Tryz.prog 74 #[.agg #[.int .i64 x.k,.int .i64 x.p,.bool x.f,.int .i64 x.g,.slice x.A x.m x.c,.int .i64 x.a,.int .i64 x.h,.int .i64 x.d,.int .i64 x.t]] W fun e w'=>∃ A c,e=.returned (.agg #[.int .i64 x.k,.int .i64 x.p,.bool x.f,.int .i64 x.g,.slice A x.m c,.int .i64 x.a,.int .i64 x.h,.int .i64 x.d,.int .i64 x.t])/\Keep W w'/\zah w' (x.at A c)/\w'.ownsRow W.heap.size 2 1 (.slice A x.m c) x.m (zba x.m x.Z):=fun W h=>zor x W h hxm
    have hL2:Hid (lowL P q (j+1)=L++[j]):=hL.out.trans (if_pos hp);replace hk:=Zq hk;go_wp2_with fail;refine(hk.out _ (Xi.out.keep (Keep.one _ _))).mono ?_;rintro e w1 ⟨A',c',rfl,k1,is1,rq1⟩;have RW1:=Zq (RW.out.keep ((Keep.one _ _).trans k1));have G1:=Zq (G.out.trans ((Keep.one _ _).trans k1));have hg1:w.heap.size<=w1.heap.size:=G1.out.size
    have rq2:Hid (Req w1 w.heap.size (x.at A' c')):=zbx rq1 (by
     have:=G.out.size;rw[World.size_alloc]
     omega)
    have ok2:=Zq is1.ok;replace is1:=Zq is1;replace rq1:=Zq rq1;replace k1:=Zq k1;clear x0 x1 x2 x3 x4 x5 x6 x7 x8 q1 Xi R2;have N1:Hid (∀ o:Obj,∀ i u,(x.at A' c').cells[i]?=some u->o=.cells #[.int .i64 x.k,.int .i64 x.p,.bool x.f,.int .i64 x.g,.slice A' x.m c',.int .i64 x.a,.int .i64 x.h,.int .i64 x.d,.int .i64 x.t] 26->(w1.alloc o).cell? ((⟨w1.heap.size,0,none⟩:Addr).add i)=some u):=by
     intro o i u hu ho;subst ho;rw[WideShapes.add_plain,Nat.zero_add,World.cell?_alloc_new,<- hu,List.getElem?_toArray];rfl
    go_wp2_with (at_builtin;refine wpList_append_own _ rfl _ _ 28 rfl w.heap.size 26 i0 _ 9 88 Tryz.underlying28 hi0 hz0 hz1 hz2 rfl (by decide) u5 L.length (zaj Q L.length) (by simp[Act.eval]) ((RW1.out.keep (Keep.one _ _)).row) ⟨w1.heap.size,0,none⟩ 1 1 (x.at A' c').cells (by simp[Act.eval]) (by rw[zmn]) (fun i u hu=>N1.out _ i u hu rfl) (cells_one _) (by unfold maxLen;omega) (by omega) (by simp;omega) ?_;intro v2 w2 hr2 hg2 _)
    have RW2:Hid (zas w2 w.heap.size v2 (L.length+1) (put Q L.length (x.at A' c'))):=(RW1.out.keep (Keep.one _ _)).more (zal rq2.out (Keep.one _ _)) ok2.out hr2 hg2;have G2:Hid (Keep w w2):=zad (G1.out.trans (Keep.one _ _)) hg2 (fun g hq=>(RW1.out.row.lt g hq).1)
    replace hr2:=Zq hr2;replace hg2:=Zq hg2;go_roundg (n - (j+1))
    case measure=>omega
    case rel =>
     refine⟨j+1,put Q L.length (x.at A' c'),hlt,rfl,by go_num,G2,by rw[hL2.out,List.length_append];exact RW2.out,fun t ht=>?_⟩
     rw[hL2.out] at ht ⊢;rw[List.length_append] at ht;rw[zya]
     by_cases e:t=L.length
     ·rw[if_neg (by omega),if_pos e,e,zat,<- hx.out]
      exact⟨A',c',rfl⟩
     ·have ht2:t<L.length:=by simp at ht;omega
      rw[if_pos ht2,zbj _ _ _ e];exact SV.out t ht2
   ·have hL2:Hid (lowL P q (j+1)=L):=hL.out.trans (if_neg hp)
    have G2:=fun o=>Zq (G.out.alloc o)
    have RW2:=fun o=>Zq (RW.out.keep (Keep.one wr o))
    go_wp2;go_roundg (n - (j+1))
    case measure=>omega
    case rel=>exact⟨j+1,Q,hlt,rfl,by go_num,G2 _,by rw[hL2.out];exact RW2 _,by rw[hL2.out];exact SV⟩
  ·obtain rfl:j=n:=by omega
   obtain⟨B,d,hB,hrd⟩:=RW.out.rd (by have:=zmz P q j;omega)
   subst hB;go_wp2;go_ret
   exact⟨_,rfl,G.out,B,d,Q,rfl,hrd,SV.out⟩
end Go.Proofs.YtcogiogjpbkeaaaGreatDoor.K18
