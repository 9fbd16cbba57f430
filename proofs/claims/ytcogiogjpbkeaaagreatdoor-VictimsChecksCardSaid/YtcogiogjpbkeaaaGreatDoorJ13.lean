/-
  The reference's Place: Bind, Claim: the walk.
  The order of pairs; sorted lists of them. No condition, no walk.
  The reference's AddNode. Condition: at most 100 nodes, sorted.
-/
import Derived.Test.YtcogiogjpbkeaaaGreatDoorJ0
import Derived.Test.YtcogiogjpbkeaaaGreatDoorJ11
namespace Go.Proofs.YtcogiogjpbkeaaaGreatDoor.T14
open Go.RowKit Go.Sort Go.Lib V12 T13
set_option maxRecDepth 100000 in
set_option maxHeartbeats 16000000 in
theorem zss{w:World}{X:Nat->Prop}{w1:World}(d:Nat)(A:Option Addr)(n c:Nat)(B:Option Addr)(m e:Nat){P:Nat->zaa}{L:List zaa}{Q:Nat->C14.NdC}{M:List NV}
  (h:RL w X w1 B e m P) (hL:(lst P m).map nm=L) (hN:C14.RdC w1 A n Q) (hM:(C14.lst Q n).map nv=M) (hQ:∀ j,j<n->(Q j).n=d) (ok:Ok d M L) (hd:d<=64) (id nd ev:Int) (hev:ev=1\/ev=2) (hnd:I64 nd) (k:Keep w w1) (hX:∀ i,X i->i<w1.heap.size) (hm:m<=100) :
  Calls Tryz.prog 61 #[(⟨d,A,n,c,B,m,e⟩:RcV).val,.int .i64 id,.int .i64 nd,.int .i64 ev] w1 (zis w w1 X d A n c (plL M L d id nd ev) (plC M L d id nd ev) (plI M L id nd) id (zay (getL L id) ev nd (-1))):=by
 have mixed:Tryz.prog.follows .mixedOrders=true:=by kernel_rfl
 unfold zis;obtain⟨W0,hW0⟩:=Zn (w1.alloc (.cells (⟨d,A,n,c,B,m,e⟩:RcV).arr 30));obtain⟨W,hW⟩:=Zn (W0.alloc (.cells zrc.arr 30));obtain⟨bx,hbx⟩:=Zn (w1.heap.size);obtain⟨b,hb⟩:=Zn (w1.heap.size+1);have s0:W0.heap.size=b:=by rw[hW0,World.size_alloc,hb]
 have KW:Hid (Keep w1 W):=by rw[hW,hW0];exact(Keep.one _ _:Keep w1 _).alloc _
 have BX:Hid (W.heap[bx]?=some (.cells (⟨d,A,n,c,B,m,e⟩:RcV).arr 30 (0,0))):=by show _=_;rw[hW,hW0,hbx];exact(Keep.one _ _).block (heap_alloc_new _ _)
 have BZ:Hid (W.heap[b]?=some (.cells zrc.arr 30 (0,0))):=by show _=_;rw[hW,<- s0];exact heap_alloc_new _ _
 have hR:=h.rd.keep KW.out;have cF:=Zq (zdg B m e P id W hR);have cK:Hid (Calls Tryz.prog 44 #[(⟨d,A,n,c,B,m,e⟩:RcV).val,.int .i64 nd] W fun e' w'=>e'=.returned (.int .i64 (C14.findN Q nd n))/\Keep W w'):=(zgr (⟨d,A,n,c,B,m,e⟩:RcV) Q nd W (hN.row.keep KW.out)).mono fun _ _ ⟨he,e2⟩=>⟨he,by rw[e2];exact Keep.one _ _⟩
 have cS:Hid (∀ W',Keep W W'->Calls Tryz.prog 101 #[.slice B m e,.int .i64 id,.int .i64 ev,.int .i64 nd,.int .i64 (-1)] W' fun e' w'=>∃ B' c' n' P',e'=.returned (.tuple #[.slice B' n' c',.int .i64 (zca L id ev)])/\Keep W w'/\RL w (fun i=>X i\/(W.heap.size<=i/\i<w'.heap.size)) w' B' c' n' P'/\(lst P' n').map nm=zde L id ev nd (-1)/\(zca L id ev=0->∃ t,t<n'/\findN P' id n'=(t:Int)/\nm (P' t)=zay (getL L id) ev nd (-1))):=fun W' k2=>(acn (h.keep (KW.out.trans k2)) hL ok.lok id ev nd (-1) hnd (by unfold I64;omega) (by omega)).mono fun _ _ ⟨B',c',n',P',he,k3,rl,r3,r4⟩=>⟨B',c',n',P',he,k2.trans k3,rl.less fun i hi=>hi.imp_right fun hh=>⟨Nat.le_trans k2.size hh.1,hh.2⟩,r3,r4⟩
 have cFin:Hid (∀ W',Keep W W'->W'.cell? ⟨bx,0,none⟩=some (.int .i64 d)/\W'.cell? ⟨bx,1,none⟩=some (.slice A n c)/\W'.cell? ⟨bx,2,none⟩=some (.slice B m e)/\(∀ i,W'.frozen? ⟨bx,i,none⟩=false)/\W'.cell? ⟨b,0,none⟩=some (.int .i64 0)/\W'.cell? ⟨b,1,none⟩=some (.slice none 0 0)/\W'.cell? ⟨b,2,none⟩=some (.slice none 0 0)/\(∀ i,W'.frozen? ⟨b,i,none⟩=false)):=fun W' k2=>by
  obtain⟨c0,c1,c2,cf⟩:=zab (k2.block BX.out);obtain⟨z0,z1,z2,zf⟩:=zab (k2.block BZ.out);exact⟨c0,c1,c2,cf,z0,z1,z2,zf⟩
 have fin:Hid (∀ W',Keep W W'->(zav W' b ⟨d,A,n,c,B,m,e⟩).heap[b]?=some (.cells (⟨d,A,n,c,B,m,e⟩:RcV).arr 30 (0,0))/\Keep w1 (zav W' b ⟨d,A,n,c,B,m,e⟩)/\RL w (fun i=>X i\/(w1.heap.size<=i/\i<(zav W' b ⟨d,A,n,c,B,m,e⟩).heap.size)) (zav W' b ⟨d,A,n,c,B,m,e⟩) B e m P):=fun W' k2=>ahq h (KW.out.trans k2) (by omega) (k2.block BZ.out)
 have nochg:Hid (∀ cd,plC M L d id nd ev=cd->cd≠0->plL M L d id nd ev=(lst P m).map nm):=fun cd h1 h2=>by
  unfold plL;rw[if_neg (by rw[h1];exact h2)]
  exact hL.symm
 obtain⟨c0,c1,c2,cf,z0,z1,z2,zf⟩:=cFin.out W (Keep.refl W);have h':=Zq h;have hL':=Zq hL;have hX':=Zq hX;have k':=Zq k;have hM':=Zq hM;have hN':=Zq hN;have hQ':=Zq hQ;have ok':=Zq ok;have hR':=Zq hR;simp only[RcV.arr] at hW0;simp only[RcV.arr,zrc] at hW;have c2e:=c2;rw[hW,hW0] at c2e;simp only[RcV.val] at cK ⊢;clear h hL hX k hN hQ hR
 by_cases hk:id∈keys L
 ·obtain⟨j,hj,hfj,hget⟩:=ala hL'.out ok'.out.lok hk
  rw[hfj] at cF;have hfj':=Zq hfj;replace hfj:=Zq hfj;have hget':=Zq hget;replace hget:=Zq hget
  by_cases hn:nd∈nk M
  ·obtain⟨i,hi,hfi,hgn⟩:=zqj hM'.out ok'.out.srt hn
   rw[hfi] at cK;replace hfi:=Zq hfi;replace hgn:=Zq hgn;obtain⟨gp,off,hBB,ca⟩:=hR'.out.adr (by omega)
   subst hBB;have q9:=zar gp off m e j hj;have y4:=Zq (ca j hj).e4;have y6:=Zq (ca j hj).e6;clear ca;have hph:Hid ((getL L id).h=(P j).h):=by show _=_;rw[hget.out];rfl
   obtain⟨ph,hp⟩:=Zn ((P j).h);rw[<- hp] at y6 hph;replace hp:=Zq hp;have cN:=Zq (fun W'=>zfn ph ev W')
   have hi1:plI M L id nd=0:=if_neg fun hh=>hh.2 hn
   by_cases hx:nx ph ev=0
   ·have hc:plC M L d id nd ev=8:=by
     unfold plC;rw[if_neg (not_not_intro hk),if_neg (not_not_intro hn),hph.out,if_pos hx]
    have no:=Zq (nochg.out 8 hc (by decide))
    rw[hc,hi1];replace hc:=Zq hc;replace hi1:=Zq hi1;replace hk:=Zq hk;replace hn:=Zq hn
    go_enter Tryz.func61,Tryz.ntmps61
    go_wp2_with fail;clear c2e;rw[<- hW0,<- hW,<- hb];try rw[<- hbx]
    replace hW0:=Zq hW0;replace hW:=Zq hW;replace hb:=Zq hb;replace hbx:=Zq hbx;replace s0:=Zq s0;refine cF.out.mono ?_;rintro e' w2 ⟨rfl,rfl⟩;go_wp2_with fail;refine cK.out.mono ?_;rintro e' w3 ⟨rfl,k3⟩;replace k3:=Zq k3;clear c0 c1 c2 cf z0 z1 z2 zf;obtain⟨c0,c1,c2,cf,z0,z1,z2,zf⟩:=cFin.out w3 k3.out;have x6:=k3.out.cell y6.out;have x4:=k3.out.cell y4.out;go_wp2_with fail;refine(cN.out _).mono ?_;rintro e' w4 ⟨rfl,rfl⟩;rw[hx];replace hx:=Zq hx;go_wp2;obtain⟨q1,q2,q3⟩:=fin.out w3 k3.out;obtain⟨e0,e1,e2,_⟩:=zab q1;simp only[zav] at *;refine bodyPost_ret (v:=.tuple #[.agg #[.int .i64 d,.slice (A) n c,.slice (some ⟨gp,off,none⟩) m e],.int .i64 8,.int .i64 0]) (by simp[results,Tryz.results61,go_sem,e0,e1,e2]) rfl ⟨some ⟨gp,off,none⟩,e,m,P,rfl,q2,q3,no.out.symm,fun h0=>absurd h0 (by decide)⟩
   ·have happ:Hid (zca L id ev=0):=by
     show _=_
     unfold zca;rw[if_neg (not_not_intro hk),hph.out,if_neg hx]
    have hpl:Hid (plC M L d id nd ev=if ev=1/\zji M L d id nd=false then 10 else 0):=by
     show _=_
     unfold plC;rw[if_neg (not_not_intro hk),if_neg (not_not_intro hn),hph.out,if_neg hx]
    have hreq:∀ t,t<m->(P t).m=d/\∀ k,k<d->Amt ((P t).Z k):=fun t ht=>ok'.out.req (nm (P t)) (by rw[<- hL'.out];exact List.mem_map_of_mem (lst_mem.2 ⟨t,ht,rfl⟩))
    have rq:=hreq j hj;have hlen:L.length=m:=by rw[<- hL'.out,List.length_map,lst_len]
    have hU:zam L nd=zam (lst P m) nd:=by
     funext t
     rw[<- hL'.out,ait]
    obtain⟨U,hUU⟩:=Zn (zam L nd);have ub:∀ t,t<d->0<=U t/\U t<=109951162777600:=fun t ht=>by
     rw[hUU];refine⟨zfu (ok'.out.amtL ht),?_⟩;have:=zhv (id:=nd) (ok'.out.amtL ht);omega
    have cU:Hid (∀ W',Keep W W'->Calls Tryz.prog 82 #[.agg #[.int .i64 d,.slice A n c,.slice (some ⟨gp,off,none⟩) m e],.int .i64 nd] W' fun e' w'=>∃ g,e'=.returned (.slice (some ⟨g,0,none⟩) d d)/\Rd w' (some ⟨g,0,none⟩) d U/\Keep W w'/\Keep W' w'):=fun W' k2=>(zte (⟨d,A,n,c,some ⟨gp,off,none⟩,m,e⟩:RcV) d rfl hd P nd W' (hR'.out.keep k2) hm hreq).mono fun _ _ ⟨g,he,_,hr,k3⟩=>⟨g,he,by rw[hUU,hU];rw[hUU,hU] at ub;exact(show zcd _ g d (zam (lst P m) nd) from hr).rd (by omega) fun t ht=>⟨by have:=ub t ht;omega,by have:=ub t ht;omega⟩,k2.trans k3,k3⟩
    have yr:=(hR'.out.is j hj).rd;rw[rq.1] at yr;obtain⟨pA,hpA⟩:=Zn ((P j).A);obtain⟨pc,hpc⟩:=Zn ((P j).c);obtain⟨S,hS⟩:∃ S:Nat->Int,S=fun t=>U t+(P j).Z t:=⟨_,rfl⟩
    rw[rq.1,<- hpA,<- hpc] at y4;rw[<- hpA] at yr;have sb:∀ t,t<d->-9223372036854775808<=U t+(P j).Z t/\U t+(P j).Z t<=9223372036854775807:=fun t ht=>by
     have h1:=ub t ht;have h2:=rq.2 t ht;unfold Amt at h2;omega
    have cA:Hid (∀ W' G b',Rd W' G d U->Keep W W'->W'.heap[b']?=some (.cells #[.slice G d d,.slice pA d pc] 24 (0,0))->Calls Tryz.prog 46 #[.slice (some ⟨b',0,none⟩) 2 2] W' fun e' w'=>∃ G' c',e'=.returned (.tuple #[.slice G' d c',.bool true])/\Rd w' G' d S/\Keep W w'):=fun W' G b' hu k2 hb'=>(zni W' b' d d pc G pA U (P j).Z hb' hu (yr.keep k2) (by omega) sb).mono fun _ _ ⟨G',c',he,hr,k3⟩=>⟨G',c',he,by rw[hS];exact hr,k2.trans k3⟩
    obtain⟨gn,of2,hAA,cn⟩:=hN'.out.row.adr (by omega)
    subst hAA;have q2:=C14.atN gn of2 n c i hi;have n1:=(cn i hi).e1;have nr:=hN'.out.rd i hi;rw[hQ'.out i hi] at n1 nr;obtain⟨nA,hnA⟩:=Zn ((Q i).A);obtain⟨nc,hnc⟩:=Zn ((Q i).c);rw[<- hnA,<- hnc] at n1;rw[<- hnA] at nr;have n1:=Zq n1;obtain⟨f,hf⟩:=Zn (zji M L d id nd);rw[<- hf] at hpl;have hff:zcm d S d (Q i).C=f:=by
     rw[hf,hS];refine ajw hUU ?_ ?_
     ·rw[hget.out];rfl
     ·rw[hgn.out];rfl
    have cFit:Hid (∀ W' G' c',Rd W' G' d S->Keep W W'->Calls Tryz.prog 48 #[.slice G' d c',.slice nA d nc] W' fun e' w'=>e'=.returned (.bool f)/\Keep W w'):=fun W' G' c' hu k2=>(zkv G' nA d d c' nc S (Q i).C W' hu (nr.keep (KW.out.trans k2))).mono fun _ _ ⟨he,k3⟩=>⟨by rw[<- hff];exact he,k2.trans k3.keep⟩
    clear cn hreq yr nr sb ub hlen;replace hUU:=Zq hUU;replace hU:=Zq hU;replace hpA:=Zq hpA;replace hpc:=Zq hpc;replace hS:=Zq hS;replace hnA:=Zq hnA;replace hnc:=Zq hnc;replace hf:=Zq hf;replace hff:=Zq hff;replace rq:=Zq rq;rw[hi1];replace hi1:=Zq hi1;replace hk:=Zq hk;replace hn:=Zq hn;replace hev:=Zq hev;obtain⟨nxv,hnxv⟩:=Zn (nx ph ev);rw[<- hnxv] at hx;have cN:Hid (∀ W',Calls Tryz.prog 100 #[.int .i64 ph,.int .i64 ev] W' fun e' w'=>e'=.returned (.int .i64 nxv)/\W'=w'):=fun W'=>by rw[hnxv];exact cN.out W'
    replace hnxv:=Zq hnxv;have hxb:(nxv == 0)=false:=by simpa using hx
    go_enter Tryz.func61,Tryz.ntmps61
    go_wp2_with fail;clear c2e;rw[<- hW0,<- hW,<- hb];try rw[<- hbx]
    replace hW0:=Zq hW0;replace hW:=Zq hW;replace hb:=Zq hb;replace hbx:=Zq hbx;replace s0:=Zq s0;refine cF.out.mono ?_;rintro e' w2 ⟨rfl,rfl⟩;go_wp2_with fail;refine cK.out.mono ?_;rintro e' w3 ⟨rfl,k3⟩;replace k3:=Zq k3;clear c0 c1 c2 cf z0 z1 z2 zf;obtain⟨c0,c1,c2,cf,z0,z1,z2,zf⟩:=cFin.out w3 k3.out;have x6:=k3.out.cell y6.out;have x4:=k3.out.cell y4.out;go_wp2_with fail;refine(cN.out _).mono ?_;rintro e' w4 ⟨rfl,rfl⟩;go_wp2_with fail
    go_region_held3 (fun w'=>w'.cell? ⟨bx,0,none⟩=some (.int .i64 d)/\w'.cell? ⟨bx,1,none⟩=some (.slice (some ⟨gn,of2,none⟩) n c)/\w'.cell? ⟨bx,2,none⟩=some (.slice (some ⟨gp,off,none⟩) m e)/\w'.cell? ⟨gp,off+j * 9+4,none⟩=some (.slice pA d pc))
     (first
      | ((refine(fun (KK:Keep W _)=>⟨(cFin.out _ KK).1,(cFin.out _ KK).2.1,(cFin.out _ KK).2.2.1,KK.cell y4.out⟩) ?_;repeat (with_reducible first | exact K7.out | exact K6.out | exact k3.out | apply Keep.drew | apply Keep.drewN | (refine Keep.alloc ?_ _)));done))
     (first
      | (go_at_call 82;refine(cU.out _ (by repeat (with_reducible first | exact k3.out | apply Keep.drew | apply Keep.drewN))).mono ?_;rintro e' w6 ⟨g6,rfl,R6,K6,k6⟩;replace R6:=Zq R6;replace K6:=Zq K6;replace k6:=Zq k6)
      | (go_at_call 46;refine(cA.out _ _ _ (R6.out.keep (by repeat (with_reducible first | exact Keep.refl w6 | apply Keep.drew | apply Keep.drewN | (refine Keep.alloc ?_ _)))) (by repeat (with_reducible first | exact K6.out | apply Keep.drew | apply Keep.drewN | (refine Keep.alloc ?_ _))) (by exact heap_alloc_new _ _)).mono ?_;rintro e' w7 ⟨G7,c7,rfl,R7,K7⟩;replace R7:=Zq R7;replace K7:=Zq K7))
    all_goals
     clear c0 c1 c2 cf z0 z1 z2 zf x4 x6;obtain⟨c0,c1,c2,cf,z0,z1,z2,zf⟩:=cFin.out w7 K7.out;have x1:=(KW.out.trans K7.out).cell n1.out;rcases hev.out with rfl | rfl
     ·go_wp2_with fail
      refine(cFit.out w7 G7 c7 R7.out K7.out).mono ?_;rintro e' w8 ⟨rfl,K8⟩;replace K8:=Zq K8;clear c0 c1 c2 cf z0 z1 z2 zf;obtain⟨c0,c1,c2,cf,z0,z1,z2,zf⟩:=cFin.out w8 K8.out;cases f with
      | true =>
        have hcd:Hid (plC M L d id nd 1=0):=by show _=_;rw[hpl.out];simp
        go_wp2_with fail;clear c0 c1 c2 cf z0 z1 z2 zf;refine(cS.out w8 K8.out).mono ?_;rintro e' w9 ⟨B',c',n',P',rfl,k9,rl,hl,ht⟩;obtain⟨F1,F2,F3⟩:=zvd (d:=d) (A:=some ⟨gn,of2,none⟩) (n:=n) (c:=c) (bx:=bx) (b:=b) k'.out KW.out (by have:=hbx.out;omega) (by have:=hb.out;omega) (by have:=hb.out;have:=hbx.out;omega) (lt_of_block BX.out) (lt_of_block BZ.out) hX'.out k9 (k9.block BZ.out) rl
        obtain⟨c0,c1,c2,cf,z0,z1,z2,zf⟩:=cFin.out w9 k9;have F1:=Zq F1;have F2:=Zq F2;have F3:=Zq F3;have hne:bx≠b:=by have:=hb.out;have:=hbx.out;omega
        replace rl:=Zq rl;replace hl:=Zq hl;replace ht:=Zq ht;replace k9:=Zq k9;go_wp2;obtain⟨e0,e1,e2,_⟩:=zab F1.out;simp only[zav] at *;refine bodyPost_ret (v:=.tuple #[.agg #[.int .i64 d,.slice (some ⟨gn,of2,none⟩) n c,.slice B' n' c'],.int .i64 0,.int .i64 0]) (by simp[results,Tryz.results61,go_sem,e0,e1,e2]) rfl ⟨B',c',n',P',by rw[hcd.out],F2.out,F3.out,?_,fun _=>ht.out happ.out⟩
        unfold plL;rw[if_pos hcd.out];exact hl.out
      | false =>
        have hcd:Hid (plC M L d id nd 1=10):=by show _=_;rw[hpl.out];simp
        go_wp2;obtain⟨q1,q2,q3⟩:=fin.out w8 K8.out;obtain⟨e0,e1,e2,_⟩:=zab q1;simp only[zav] at *;refine bodyPost_ret (v:=.tuple #[.agg #[.int .i64 d,.slice (some ⟨gn,of2,none⟩) n c,.slice (some ⟨gp,off,none⟩) m e],.int .i64 10,.int .i64 0]) (by simp[results,Tryz.results61,go_sem,e0,e1,e2]) rfl ⟨some ⟨gp,off,none⟩,e,m,P,by rw[hcd.out],q2,q3,(nochg.out 10 hcd.out (by decide)).symm,fun h0=>absurd (hcd.out.symm.trans h0) (by decide)⟩
     ·have hcd:Hid (plC M L d id nd 2=0):=by show _=_;rw[hpl.out];simp
      go_wp2_with fail;clear c0 c1 c2 cf z0 z1 z2 zf;refine(cS.out w7 K7.out).mono ?_;rintro e' w9 ⟨B',c',n',P',rfl,k9,rl,hl,ht⟩;obtain⟨F1,F2,F3⟩:=zvd (d:=d) (A:=some ⟨gn,of2,none⟩) (n:=n) (c:=c) (bx:=bx) (b:=b) k'.out KW.out (by have:=hbx.out;omega) (by have:=hb.out;omega) (by have:=hb.out;have:=hbx.out;omega) (lt_of_block BX.out) (lt_of_block BZ.out) hX'.out k9 (k9.block BZ.out) rl
      obtain⟨c0,c1,c2,cf,z0,z1,z2,zf⟩:=cFin.out w9 k9;have F1:=Zq F1;have F2:=Zq F2;have F3:=Zq F3;have hne:bx≠b:=by have:=hb.out;have:=hbx.out;omega
      replace rl:=Zq rl;replace hl:=Zq hl;replace ht:=Zq ht;replace k9:=Zq k9;go_wp2;obtain⟨e0,e1,e2,_⟩:=zab F1.out;simp only[zav] at *;refine bodyPost_ret (v:=.tuple #[.agg #[.int .i64 d,.slice (some ⟨gn,of2,none⟩) n c,.slice B' n' c'],.int .i64 0,.int .i64 0]) (by simp[results,Tryz.results61,go_sem,e0,e1,e2]) rfl ⟨B',c',n',P',by rw[hcd.out],F2.out,F3.out,?_,fun _=>ht.out happ.out⟩
      unfold plL;rw[if_pos hcd.out];exact hl.out
  ·have hc:plC M L d id nd ev=5:=by
    unfold plC;rw[if_neg (not_not_intro hk),if_pos hn]
   have hi1:plI M L id nd=1:=if_pos ⟨hk,hn⟩;have no:=Zq (nochg.out 5 hc (by decide))
   rw[hc,hi1];have hr0:=ahk hM'.out hn;obtain⟨r,hr⟩:=Zn (C14.findN Q nd n);rw[<- hr] at cK hr0;replace hr:=Zq hr;replace hc:=Zq hc;replace hi1:=Zq hi1;replace hk:=Zq hk;replace hn:=Zq hn
   go_enter Tryz.func61,Tryz.ntmps61
   go_wp2_with fail;clear c2e;rw[<- hW0,<- hW,<- hb];try rw[<- hbx]
   replace hW0:=Zq hW0;replace hW:=Zq hW;replace hb:=Zq hb;replace hbx:=Zq hbx;replace s0:=Zq s0;refine cF.out.mono ?_;rintro e' w2 ⟨rfl,rfl⟩;go_wp2_with fail;refine cK.out.mono ?_;rintro e' w3 ⟨rfl,k3⟩;replace k3:=Zq k3;clear c0 c1 c2 cf z0 z1 z2 zf;obtain⟨c0,c1,c2,cf,z0,z1,z2,zf⟩:=cFin.out w3 k3.out;go_wp2;obtain⟨q1,q2,q3⟩:=fin.out w3 k3.out;obtain⟨e0,e1,e2,_⟩:=zab q1;simp only[zav] at *;refine bodyPost_ret (v:=.tuple #[.agg #[.int .i64 d,.slice (A) n c,.slice (B) m e],.int .i64 5,.int .i64 1]) (by simp[results,Tryz.results61,go_sem,e0,e1,e2]) rfl ⟨B,e,m,P,rfl,q2,q3,no.out.symm,fun h0=>absurd h0 (by decide)⟩
 ·have hc:plC M L d id nd ev=5:=if_pos hk
  have hi1:plI M L id nd=0:=if_neg fun hh=>hk hh.1
  have no:=Zq (nochg.out 5 hc (by decide))
  rw[hc,hi1];have hr0:=alb hL'.out hk;obtain⟨r,hr⟩:=Zn (findN P id m);rw[<- hr] at cF hr0;replace hr:=Zq hr;replace hc:=Zq hc;replace hi1:=Zq hi1;replace hk:=Zq hk
  go_enter Tryz.func61,Tryz.ntmps61
  go_wp2_with fail;clear c2e;rw[<- hW0,<- hW,<- hb];try rw[<- hbx]
  replace hW0:=Zq hW0;replace hW:=Zq hW;replace hb:=Zq hb;replace hbx:=Zq hbx;replace s0:=Zq s0;refine cF.out.mono ?_;rintro e' w2 ⟨rfl,rfl⟩;go_wp2;obtain⟨q1,q2,q3⟩:=fin.out W (Keep.refl W);obtain⟨e0,e1,e2,_⟩:=zab q1;simp only[zav] at *;refine bodyPost_ret (v:=.tuple #[.agg #[.int .i64 d,.slice (A) n c,.slice (B) m e],.int .i64 5,.int .i64 0]) (by simp[results,Tryz.results61,go_sem,e0,e1,e2]) rfl ⟨B,e,m,P,rfl,q2,q3,no.out.symm,fun h0=>absurd h0 (by decide)⟩
end Go.Proofs.YtcogiogjpbkeaaaGreatDoor.T14
namespace Go.Proofs.YtcogiogjpbkeaaaGreatDoor.C14
open Go.RowKit Go.Lib V12
def zdk(x y:NdC):Bool:=decide (x.k<y.k)
theorem zcs(x y:NdC):zdk x y=true↔x.k<y.k:=by unfold zdk;rw[decide_eq_true_eq]
theorem zpu(x y:NdC):zdk x y=false↔¬x.k<y.k:=by unfold zdk;rw[decide_eq_false_iff_not]
theorem zdr{x y z:NdC}(h:zdk x y=true)(k:zdk y z=true):zdk x z=true:=by rw[zcs] at *;omega
theorem zkg{x y:NdC}(h:x.k≠y.k)(k:zdk x y=false):zdk y x=true:=by rw[zpu] at k;rw[zcs];omega
def Srt(L:List NdC):Prop:=L.Pairwise fun x y=>zdk x y=true
def zbc(x:NdC):List NdC->List NdC
 | []=>[x]
 | y :: L=>if zdk x y=true then x :: y :: L else y :: zbc x L
theorem ins_perm(x:NdC):∀ L,(zbc x L).Perm (x :: L)
 | []=>List.Perm.refl _
 | y :: L=>by
   unfold zbc
   split
   ·exact List.Perm.refl _
   ·exact((ins_perm x L).cons y).trans (List.Perm.swap x y L)
theorem ins_mem{x y:NdC}{L:List NdC}:y∈zbc x L↔y=x\/y∈L:=by rw[(ins_perm x L).mem_iff,List.mem_cons]
theorem ins_sorted{x:NdC}:∀ {L},Srt L->x.k∉keys L->Srt (zbc x L)
 | [],_,_=>List.pairwise_singleton _ _
 | y :: L,h,hk=>by
   have h':=h;unfold Srt at h';rw[List.pairwise_cons] at h';have hk2:x.k≠y.k/\x.k∉keys L:=by unfold keys at hk ⊢;rw[List.map_cons,List.mem_cons,not_or] at hk;exact hk
   unfold zbc
   split
   ·rename_i hb
    unfold Srt;rw[List.pairwise_cons];refine⟨fun z hz=>?_,h⟩
    rcases List.mem_cons.1 hz with rfl | hz
    ·exact hb
    ·exact zdr hb (h'.1 z hz)
   ·rename_i hb
    unfold Srt;rw[List.pairwise_cons];refine⟨fun z hz=>?_,ins_sorted h'.2 hk2.2⟩
    rcases ins_mem.1 hz with rfl | hz
    ·exact zkg hk2.1 (by cases e:zdk z y<;>simp_all)
    ·exact h'.1 z hz
theorem ins_len(x:NdC)(L:List NdC):(zbc x L).length=L.length+1:=by rw[(ins_perm x L).length_eq];rfl
theorem ins_keys{x:NdC}{L:List NdC}(h:(keys L).Nodup)(hk:x.k∉keys L):(keys (zbc x L)).Nodup:=by
 have:(keys (zbc x L)).Perm (x.k :: keys L):=(ins_perm x L).map _;rw[this.nodup_iff,List.nodup_cons];exact⟨hk,h⟩
theorem zho{x:NdC}:∀ {L:List NdC} {i:Nat},Srt L->i<=L.length->(∀ j y,i<=j->L[j]?=some y->zdk x y=true)->(∀ y,0<i->L[i - 1]?=some y->zdk x y=false)->L.take i++[x]++L.drop i=zbc x L
 | [],i,_,hi,_,_=>by
   obtain rfl:i=0:=by simpa using hi
   rfl
 | y :: L,0,_,_,h1,_=>by
   unfold zbc;rw[if_pos (h1 0 y (Nat.le_refl _) rfl)];rfl
 | y :: L,i+1,hs,hi,h1,h2=>by
   have hs':=hs;unfold Srt at hs';rw[List.pairwise_cons] at hs';have hy:zdk x y=false:=by
    cases i with
    | zero=>exact h2 y (by omega) rfl
    | succ i =>
      have hl:i<L.length:=by simp at hi;omega
      have h3:=h2 L[i] (by omega) (by simp[List.getElem?_eq_getElem hl])
      cases e:zdk x y with
      | false=>rfl
      | true =>
        rw[zdr e (hs'.1 _ (List.getElem_mem hl))] at h3;exact absurd h3 (by decide)
   unfold zbc
   rw[if_neg (by rw[hy];decide),<- zho (i:=i) hs'.2 (by simp at hi;omega) (fun j z hj hz=>h1 (j+1) z (by omega) (by simpa using hz)) (fun z hz e=>h2 z (by omega) (by
    obtain⟨i',rfl⟩:∃ i',i=i'+1:=⟨i - 1,by omega⟩
    simpa using e))]
   rfl
theorem zjk{L:List NdC}{id:Int}(h:id∉keys L):getL L id=zp:=by
 unfold getL;rw[List.find?_eq_none.2 fun y hy=>by simpa using fun e=>h (by rw[<- e];exact List.mem_map_of_mem hy)]
 rfl
theorem get_some{L:List NdC}{id:Int}(h:id∈keys L):getL L id∈L/\(getL L id).k=id:=by
 obtain⟨y,hy,e⟩:=List.mem_map.1 h;unfold getL;cases hf:L.find? fun y=>decide (y.k=id) with
 | none=>exact absurd (List.find?_eq_none.1 hf y hy) (by simpa using e)
 | some z=>exact⟨List.mem_of_find?_eq_some hf,by simpa using List.find?_some hf⟩
theorem zdv(Q:Nat->NdC):∀ n,zau Q n=(lst Q n).flatMap NdC.cells
 | 0=>rfl
 | n+1=>by rw[zau,zdv Q n,lst_succ,List.flatMap_append,List.flatMap_singleton]
theorem zgm(Q:Nat->NdC){n i:Nat}(h:i<=n):(lst Q n).take i=lst Q i:=by
 refine List.ext_getElem? fun j=>?_
 rw[List.getElem?_take]
 split
 ·rw[zaw (by omega),zaw (by assumption)]
 ·rw[List.getElem?_eq_none (by rw[lst_len];omega)]
theorem zfj(Q:Nat->NdC)(n i:Nat):(lst Q n).drop i=lst (fun t=>Q (i+t)) (n - i):=by
 refine List.ext_getElem? fun j=>?_
 rw[List.getElem?_drop]
 by_cases h:i+j<n
 ·rw[zaw h,zaw (by omega)]
 ·rw[List.getElem?_eq_none (by rw[lst_len];omega),List.getElem?_eq_none (by rw[lst_len];omega)]
theorem rnCs_row(L:List NdC):zau (row L) L.length=L.flatMap NdC.cells:=by rw[zdv,lst_row]
theorem ins_row{P:Nat->NdC}{n i:Nat}{x:NdC}(hi:i<=n)(hs:Srt (lst P n))(h1:∀ j,i<=j->j<n->zdk x (P j)=true)(h2:i=0\/zdk x (P (i - 1))=false):
  zau P i++x.cells++zau (fun t=>P (i+t)) (n - i)=zau (row (zbc x (lst P n))) (n+1):=by
 have hl:(zbc x (lst P n)).length=n+1:=by rw[ins_len,lst_len]
 rw[<- hl,rnCs_row,<- zho (i:=i) hs (by rw[lst_len];exact hi) (fun j y hj e=>by
  have hj2:j<n:=by have:=(List.getElem?_eq_some_iff.1 e).1;rwa [lst_len] at this
  rw[zaw hj2] at e;rw[<- Option.some.inj e];exact h1 j hj hj2) (fun y hi0 e=>by
  rw[zaw (by omega)] at e
  rw[<- Option.some.inj e]
  exact h2.resolve_left (by omega)),zgm _ hi,zfj,List.flatMap_append,List.flatMap_append,zdv,zdv,List.flatMap_singleton]
def znl(L:List NdC)(x:NdC):List NdC:=L.map fun y=>if y.k=x.k then x else y
theorem zhs(L:List NdC)(x:NdC):keys (znl L x)=keys L:=by
 unfold keys znl;rw[List.map_map];refine List.map_congr_left fun y _=>?_
 show(if y.k=x.k then x else y).k=y.k
 split
 ·exact Eq.symm (by assumption)
 ·rfl
theorem srt_keys{L:List NdC}:Srt L↔(keys L).Pairwise (·<·):=by
 unfold Srt keys;rw[List.pairwise_map];exact⟨fun h=>h.imp fun h=>(zcs _ _).1 h,fun h=>h.imp fun h=>(zcs _ _).2 h⟩
theorem rep_sorted{L:List NdC}{x:NdC}(h:Srt L):Srt (znl L x):=by rw[srt_keys,zhs,<- srt_keys];exact h
theorem keys_nodup{L:List NdC}(h:Srt L):(keys L).Nodup:=by
 rw[srt_keys] at h;exact h.imp fun h=>Int.ne_of_lt h
theorem rep_mem{L:List NdC}{x y:NdC}(h:y∈znl L x):y∈L\/y=x:=by
 unfold znl at h;obtain⟨z,hz,rfl⟩:=List.mem_map.1 h
 split
 ·exact Or.inr rfl
 ·exact Or.inl hz
end Go.Proofs.YtcogiogjpbkeaaaGreatDoor.C14
namespace Go.Proofs.YtcogiogjpbkeaaaGreatDoor.C14
open Go.RowKit Go.Sort Go.Lib V12 T13 T14
theorem hp2(w:World)(o:Obj)(cs:Array Value)(T:TypeId):((w.alloc o).alloc (.cells cs T)).heap[w.heap.size+1]?=some (.cells cs T (0,0)):=by
 have:=heap_alloc_new (w.alloc o) (.cells cs T)
 rwa [World.size_alloc] at this
theorem hp1(w:World)(o:Obj)(cs:Array Value)(T:TypeId):((w.alloc (.cells cs T)).alloc o).heap[w.heap.size]?=some (.cells cs T (0,0)):=(Keep.one _ _).block (heap_alloc_new w _)
section
variable{w W:World}{b off n c:Nat}{P:Nat->NdC}
theorem zea(h:∀ j,j<n->CelN w b (off+j * 2) (P j)){i:Nat}(hi:i<=n)(k:Keep w W):zdq W (.slice (some ⟨b,off,none⟩) i c) i (zau P i):=
 zeu (off:=off) (i:=0) (fun j hj=>by rw[Nat.zero_add];exact(h j (by omega)).keep k) off (Or.inr (by omega))
theorem zvj(h:∀ j,j<n->CelN w b (off+j * 2) (P j)){i:Nat}(hi:i<=n)(hc:n<=c)(k:Keep w W):zdq W (.slice (if c=i then some ⟨b,off,none⟩ else some ⟨b,off+i * 2,none⟩) (n - i) (c - i)) (n - i) (zau (fun t=>P (i+t)) (n - i)):=by
 by_cases he:c=i
 ·rw[if_pos he]
  exact zeu (off:=off) (i:=i) (fun j hj=>(h (i+j) (by omega)).keep k) off (Or.inl (by omega))
 ·rw[if_neg he]
  exact zeu (off:=off) (i:=i) (fun j hj=>(h (i+j) (by omega)).keep k) _ (Or.inr rfl)
theorem zjx(h:∀ j,j<n->CelN w b (off+j * 2) (P j))(k:Keep w W):zdq W (.slice (some ⟨b,off,none⟩) n c) (n - 0) (zau (fun t=>P (0+t)) (n - 0)):=by
 have:=zea (c:=c) h (Nat.le_refl n) k;rw[Nat.sub_zero,zgy (R:=P) n (fun t _=>by rw[Nat.zero_add])]
 exact this
end
structure RN(w:World)(X:Nat->Prop)(w1:World)(A:Option Addr)(c n:Nat)(Q:Nat->NdC):Prop where
 rd:RdN w1 A n Q
 cap:n<=c
 pl:(A=none/\n=0/\c=0)\/∃ g,A=some ⟨g,0,none⟩/\X g
 is:∀ j,j<n->Rd w (Q j).A (Q j).n (Q j).C/\((Q j).A=none->(Q j).n=0/\(Q j).c=0)
theorem RN.nil(w:World)(X:Nat->Prop)(w1:World):RN w X w1 none 0 0 (fun _=>zp):=⟨RdN.nil _ _ _,Nat.le_refl _,Or.inl ⟨rfl,rfl,rfl⟩,fun _ h=>absurd h (Nat.not_lt_zero _)⟩
theorem RN.keep{w:World}{X:Nat->Prop}{w1 w2:World}{A:Option Addr}{c n:Nat}{Q:Nat->NdC}(h:RN w X w1 A c n Q)(k:Keep w1 w2):RN w X w2 A c n Q:=⟨h.rd.keep k,h.cap,h.pl,h.is⟩
theorem RN.less{w:World}{X Z:Nat->Prop}{w1:World}{A:Option Addr}{c n:Nat}{Q:Nat->NdC}(h:RN w X w1 A c n Q)(hZ:∀ i,X i->Z i):RN w Z w1 A c n Q:=⟨h.rd,h.cap,h.pl.imp id fun ⟨g,e,hg⟩=>⟨g,e,hZ g hg⟩,h.is⟩
theorem RN.rdc{w:World}{X:Nat->Prop}{w1:World}{A:Option Addr}{c n:Nat}{Q:Nat->NdC}(h:RN w X w1 A c n Q)(k:Keep w w1):RdC w1 A n Q:=⟨h.rd,fun j hj=>(h.is j hj).1.keep k,fun j hj=>(h.is j hj).2⟩
theorem RN.same{w:World}{X:Nat->Prop}{w1 w2:World}{A:Option Addr}{c n:Nat}{Q:Nat->NdC}(h:RN w X w1 A c n Q)(f:zbe X w1 w2):RN w X w2 A c n Q:=by
 refine⟨⟨h.rd.small,fun hn=>?_,h.rd.ok⟩,h.cap,h.pl,h.is⟩
 obtain⟨b,off,e,ca⟩:=h.rd.adr hn;rcases h.pl with ⟨_,h0,_⟩ | ⟨g,e2,hg⟩
 ·omega
 ·have e3:=Option.some.inj (e.symm.trans e2)
  simp only[Addr.mk.injEq,and_true] at e3;refine⟨b,off,e,fun j hj=>?_⟩
  have hb:w2.heap[b]?=w1.heap[b]?:=by rw[e3.1];exact f g hg
  exact⟨zbu (ca j hj).e0 hb,zbu (ca j hj).e1 hb⟩
theorem zpo{w w1 W w5:World}{X:Nat->Prop}{bx b:Nat}{d:Int}{A:Option Addr}{c N:Nat}{B:Option Addr}{m e:Nat}{Q:Nat->NdC}(h:RN w X w1 A c N Q)(h1:w1.heap.size<=bx)(h2:w1.heap.size<=b)(hne:bx≠b)(x:NdC)(okx:zxp x)(rx:Rd w x.A x.n x.C)(nx:x.A=none->x.n=0/\x.c=0)
  (k5:Keep W w5) (KW:Keep w1 W) (hbx:bx<W.heap.size) (hb:b<W.heap.size) (BZ:w5.heap[b]?=some (.cells zrc.arr 30 (0,0))) {base:Nat} (hbase:W.heap.size<=base) {B5:Option Addr} {d5:Nat} (hl:N<=1000)
  (ho:w5.ownsRow base 56 2 (.slice B5 (N+1) d5) (N+1) (zau (row (zbc x (lst Q N))) (N+1))) :
  (zav (w5.setCell ⟨bx,1,none⟩ (.slice B5 (N+1) d5)) b ⟨d,B5,N+1,d5,B,m,e⟩).heap[b]?=some (.cells (⟨d,B5,N+1,d5,B,m,e⟩:RcV).arr 30 (0,0))/\Keep w1 (zav (w5.setCell ⟨bx,1,none⟩ (.slice B5 (N+1) d5)) b ⟨d,B5,N+1,d5,B,m,e⟩) /\
  RN w (fun i=>X i\/(w1.heap.size<=i/\i<(zav (w5.setCell ⟨bx,1,none⟩ (.slice B5 (N+1) d5)) b ⟨d,B5,N+1,d5,B,m,e⟩).heap.size)) (zav (w5.setCell ⟨bx,1,none⟩ (.slice B5 (N+1) d5)) b ⟨d,B5,N+1,d5,B,m,e⟩) B5 d5 (N+1) (row (zbc x (lst Q N))):=by
 have Z4:(w5.setCell ⟨bx,1,none⟩ (.slice B5 (N+1) d5)).heap[b]?=some (.cells zrc.arr 30 (0,0)):=(Below.heap_setCell _ _ _ _ (fun e=>hne e.symm)).trans BZ
 have K5:Keep w1 (zav (w5.setCell ⟨bx,1,none⟩ (.slice B5 (N+1) d5)) b ⟨d,B5,N+1,d5,B,m,e⟩):=zbz _ ((KW.trans k5).set h1 _) h2;have sz5:(zav (w5.setCell ⟨bx,1,none⟩ (.slice B5 (N+1) d5)) b ⟨d,B5,N+1,d5,B,m,e⟩).heap.size=w5.heap.size:=by rw[zdu];simp
 have ho5:=zao (w':=zav (w5.setCell ⟨bx,1,none⟩ (.slice B5 (N+1) d5)) b ⟨d,B5,N+1,d5,B,m,e⟩) ho fun g hg=>by
  have:=(ho.lt g hg).1;rw[zbd _ (by omega:g≠b),Below.heap_setCell _ _ _ _ (show g≠bx by omega)]
 have el:(zbc x (lst Q N)).length=N+1:=by rw[ins_len,lst_len]
 have memr:∀ j,j<N+1->row (zbc x (lst Q N)) j=x\/∃ i,i<N/\row (zbc x (lst Q N)) j=Q i:=fun j hj=>by
  have hm:row (zbc x (lst Q N)) j∈zbc x (lst Q N):=by
   unfold row;rw[List.getD_eq_getElem?_getD,List.getElem?_eq_getElem (by omega)]
   exact List.getElem_mem _
  rcases ins_mem.1 hm with e | e
  ·exact Or.inl e
  ·obtain⟨i,hi,e2⟩:=lst_mem.1 e
   exact Or.inr ⟨i,hi,e2.symm⟩
 refine⟨zce _ zrc Z4,K5,zxb ho5 (by omega) fun j hj=>?_,zds ho5,?_,fun j hj=>?_⟩
 ·rcases memr j hj with e | ⟨i,hi,e⟩
  ·rw[e];exact okx
  ·rw[e];exact h.rd.ok i hi
 ·rcases ho.2 with ⟨hv,h0⟩ | ⟨g,cap,cur,hv,_⟩
  ·omega
  ·simp only[Value.slice.injEq] at hv
   obtain⟨rfl,_,_⟩:=hv;have:=(ho.lt g rfl);have s0:=KW.size;exact Or.inr ⟨g,rfl,Or.inr ⟨by omega,by rw[sz5];exact this.2⟩⟩
 ·rcases memr j hj with e | ⟨i,hi,e⟩
  ·rw[e];exact⟨rx,nx⟩
  ·rw[e];exact h.is i hi
theorem zzw{x:NdC}{P:Nat->NdC}{N d:Nat}(hx:x.n=d)(h:∀ j,j<N->(P j).n=d):∀ j,j<N+1->(row (zbc x (lst P N)) j).n=d:=fun j hj=>by
 have el:(zbc x (lst P N)).length=N+1:=by rw[ins_len,lst_len]
 have hm:row (zbc x (lst P N)) j∈zbc x (lst P N):=by
  unfold row;rw[List.getD_eq_getElem?_getD,List.getElem?_eq_getElem (by omega)]
  exact List.getElem_mem _
 rcases ins_mem.1 hm with e | e
 ·rw[e];exact hx
 ·obtain⟨i,hi,e2⟩:=lst_mem.1 e
  rw[<- e2];exact h i hi
theorem abf(x:NdC):∀ L:List NdC,(zbc x L).map nv=G.ins NV.k (nv x) (L.map nv)
 | []=>rfl
 | y :: L=>by
   unfold zbc;rw[List.map_cons];unfold G.ins
   by_cases h:x.k<y.k
   ·rw[if_pos ((zcs _ _).2 h),if_pos (show(nv x).k<(nv y).k from h)]
    rfl
   ·rw[if_neg (by rw[zcs];exact h),if_neg (show ¬(nv x).k<(nv y).k from h),List.map_cons,abf x L]
theorem aln{L:List NdC}:Srt L↔G.Srt NV.k (L.map nv):=by
 unfold Srt G.Srt;rw[List.pairwise_map];exact⟨fun h=>h.imp fun h=>(zcs _ _).1 h,fun h=>h.imp fun h=>(zcs _ _).2 h⟩
set_option maxRecDepth 100000 in
set_option maxHeartbeats 16000000 in
theorem zyv{w:World}{X:Nat->Prop}{w1:World}(d:Nat)(A:Option Addr)(N c:Nat)(B:Option Addr)(m e:Nat){P:Nat->NdC}{M:List NV}(h:RN w X w1 A c N P)(hM:(lst P N).map nv=M)(hs:G.Srt NV.k M)(kd:Int)(A2:Option Addr)(n2 c2:Nat)(Z:Nat->Int)(hV:Rd w A2 n2 Z)(k:Keep w w1)(hn:N<=100)(hc:adC M d kd n2 Z≠0):
  Calls Tryz.prog 27 #[(⟨d,A,N,c,B,m,e⟩:RcV).val,.agg #[.int .i64 kd,.slice A2 n2 c2]] w1 fun e' w'=>∃ A' c' n' P',e'=.returned (.tuple #[(⟨d,A',n',c',B,m,e⟩:RcV).val,.int .i64 (adC M d kd n2 Z),.int .i64 (wrI d n2 Z)])/\Keep w1 w'/\RN w (fun i=>X i\/(w1.heap.size<=i/\i<w'.heap.size)) w' A' c' n' P'/\(lst P' n').map nv=adL M d kd n2 Z/\((∀ j,j<N->(P j).n=d)->∀ j,j<n'->(P' j).n=d):=by
 have mixed:Tryz.prog.follows .mixedOrders=true:=by kernel_rfl
 obtain⟨W0,hW0⟩:=Zn (w1.alloc (.cells (⟨d,A,N,c,B,m,e⟩:RcV).arr 30));obtain⟨W1,hW1⟩:=Zn (W0.alloc (.cells #[.int .i64 kd,.slice A2 n2 c2] 56));obtain⟨W,hW⟩:=Zn (W1.alloc (.cells zrc.arr 30));obtain⟨bx,hbx⟩:=Zn (w1.heap.size);obtain⟨by',hby⟩:∃ by',by'=w1.heap.size+1:=⟨_,rfl⟩
 obtain⟨b,hb⟩:=Zn (w1.heap.size+1+1);have s0:W0.heap.size=by':=by rw[hW0,World.size_alloc,hby]
 have s1:W1.heap.size=b:=by rw[hW1,World.size_alloc,s0,hb,hby]
 have KW:Hid (Keep w1 W):=by rw[hW,hW1,hW0];exact((Keep.one _ _).alloc _:Keep w1 _).alloc _
 have BX:Hid (W.heap[bx]?=some (.cells (⟨d,A,N,c,B,m,e⟩:RcV).arr 30 (0,0))):=by show _=_;rw[hW,hW1,hW0,hbx];exact(Keep.one _ _).block ((Keep.one _ _).block (heap_alloc_new _ _))
 have BY:Hid (W.heap[by']?=some (.cells #[.int .i64 kd,.slice A2 n2 c2] 56 (0,0))):=by show _=_;rw[hW,hW1,<- s0];exact(Keep.one _ _).block (heap_alloc_new _ _)
 have BZ:Hid (W.heap[b]?=some (.cells zrc.arr 30 (0,0))):=by show _=_;rw[hW,<- s1];exact heap_alloc_new _ _
 have cW:=Zq (zgz A2 n2 c2 Z (d:Int) W (hV.keep (k.trans KW.out)));have cF:Hid (Calls Tryz.prog 44 #[(⟨d,A,N,c,B,m,e⟩:RcV).val,.int .i64 kd] W fun e' w'=>e'=.returned (.int .i64 (findN P kd N))/\Keep W w'):=(zgr (⟨d,A,N,c,B,m,e⟩:RcV) P kd W (h.rd.keep KW.out)).mono fun _ _ ⟨he,e2⟩=>⟨he,by rw[e2];exact Keep.one _ _⟩
 have hm:max (d:Int) 0=d:=by omega
 have hb1:decide (0<=(d:Int))=true:=decide_eq_true (by omega)
 have hb2:decide ((d:Int)<0)=false:=decide_eq_false (by omega)
 have hns:¬(1024:Int)<=(N:Int):=by omega
 have hML:M.length=N:=by rw[<- hM,List.length_map,lst_len]
 have fk:=find_iff (P:=P) (id:=kd) (n:=N);have hkk:nk M=keys (lst P N):=by rw[<- hM,zmu]
 obtain⟨c0,c1,c2',cf⟩:=zab BX.out;have y0:W.cell? ⟨by',0,none⟩=some (.int .i64 kd):=by rw[cell_of_row W by' _ _ _ _ BY.out];rfl
 have y1:W.cell? ⟨by',1,none⟩=some (.slice A2 n2 c2):=by rw[cell_of_row W by' _ _ _ _ BY.out];rfl
 obtain⟨z0,z1,z2,zf⟩:=zab BZ.out;obtain⟨r,hr⟩:=Zn (zak n2 Z d);rw[<- hr] at cW;have h':=Zq h;have k':=Zq k;unfold zrc at z0 z1 z2;simp only[RcV.arr] at hW0;simp only[RcV.arr,zrc] at hW;simp only[RcV.val] at cF ⊢;have c0e:=c0;have c1e:=c1;have c2e:=c2';have y1e:=y1;rw[hW,hW1,hW0] at c0e c1e c2e y1e;clear h hV k
 by_cases hw:0<=r
 ·have had:adC M d kd n2 Z=3:=by unfold adC;rw[<- hr,if_pos hw]
  have hwi:wrI d n2 Z=r:=by unfold wrI;rw[<- hr,if_pos hw]
  rw[had,hwi];replace hwi:=Zq hwi;have no:Hid ((lst P N).map nv=adL M d kd n2 Z):=by show _=_;unfold adL;rw[if_neg (by rw[had];decide)];exact hM
  replace had:=Zq had;replace hr:=Zq hr;replace fk:=Zq fk;replace hkk:=Zq hkk;replace hML:=Zq hML;replace hM:=Zq hM;replace hs:=Zq hs
  go_enter Tryz.func27,Tryz.ntmps27
  go_wp2_with fail;rw[<- hW0,<- hW1,<- hW,<- hb];try rw[<- hby]
  try rw[<- hbx]
  clear c0e c1e c2e y1e;replace hb:=Zq hb;replace hby:=Zq hby
  replace hbx:=Zq hbx;replace s0:=Zq s0;replace s1:=Zq s1;replace hW0:=Zq hW0;replace hW1:=Zq hW1;replace hW:=Zq hW;refine cW.out.mono ?_;rintro e' wA ⟨rfl,rfl⟩;go_wp2;obtain⟨q1,q2⟩:(zav wA b ⟨d,A,N,c,B,m,e⟩).heap[b]?=some (.cells (⟨d,A,N,c,B,m,e⟩:RcV).arr 30 (0,0))/\Keep w1 (zav wA b ⟨d,A,N,c,B,m,e⟩):=⟨zce _ zrc ((Keep.refl wA).block BZ.out),zbz _ (KW.out.trans (Keep.refl wA)) (by have:=hb.out;omega)⟩
  obtain⟨e0,e1,e2,_⟩:=zab q1;simp only[zav] at *;refine bodyPost_ret (v:=.tuple #[.agg #[.int .i64 d,.slice A N c,.slice B m e],.int .i64 3,.int .i64 r]) (by simp[results,Tryz.results27,go_sem,e0,e1,e2]) rfl ⟨A,c,N,P,rfl,q2,(h'.out.keep q2).less fun _=>Or.inl,no.out,fun hh=>hh⟩
 ·have hin:kd∈nk M:=Classical.byContradiction fun hn=>hc (by unfold adC;rw[<- hr,if_neg hw,if_neg hn,if_neg (by omega)])
  have had:adC M d kd n2 Z=6:=by unfold adC;rw[<- hr,if_neg hw,if_pos hin]
  have hwi:wrI d n2 Z=0:=by unfold wrI;rw[<- hr,if_neg hw]
  rw[had,hwi];replace hwi:=Zq hwi;have hf0:0<=findN P kd N:=fk.2 (by rw[<- hkk];exact hin)
  have no:Hid ((lst P N).map nv=adL M d kd n2 Z):=by show _=_;unfold adL;rw[if_neg (by rw[had];decide)];exact hM
  replace had:=Zq had;replace hr:=Zq hr;replace fk:=Zq fk;replace hkk:=Zq hkk;replace hML:=Zq hML;replace hM:=Zq hM;replace hs:=Zq hs;replace hin:=Zq hin;obtain⟨q,hq⟩:=Zn (findN P kd N);rw[<- hq] at cF hf0;replace hq:=Zq hq
  go_enter Tryz.func27,Tryz.ntmps27
  go_wp2_with fail;rw[<- hW0,<- hW1,<- hW,<- hb];try rw[<- hby]
  try rw[<- hbx]
  clear c0e c1e c2e y1e;replace hb:=Zq hb;replace hby:=Zq hby
  replace hbx:=Zq hbx;replace s0:=Zq s0;replace s1:=Zq s1;replace hW0:=Zq hW0;replace hW1:=Zq hW1;replace hW:=Zq hW;refine cW.out.mono ?_;rintro e' wA ⟨rfl,rfl⟩;go_wp2_with fail;refine cF.out.mono ?_;rintro e' w3 ⟨rfl,k3⟩;replace k3:=Zq k3;clear c0 c1 c2' cf y0 y1 z0 z1 z2 zf cF cW;have BX3:Hid (w3.heap[bx]?=some (.cells (⟨d,A,N,c,B,m,e⟩:RcV).arr 30 (0,0))):=k3.out.block BX.out;have BY3:Hid (w3.heap[by']?=some (.cells #[.int .i64 kd,.slice A2 n2 c2] 56 (0,0))):=k3.out.block BY.out
  have BZ3:Hid (w3.heap[b]?=some (.cells zrc.arr 30 (0,0))):=k3.out.block BZ.out;obtain⟨c0,c1,c2',cf⟩:=zab BX3.out;have y0:w3.cell? ⟨by',0,none⟩=some (.int .i64 kd):=by rw[cell_of_row w3 by' _ _ _ _ BY3.out];rfl
  obtain⟨z0,z1,z2,zf⟩:=zab BZ3.out;unfold zrc at z0 z1 z2;go_wp2;obtain⟨q1,q2⟩:(zav w3 b ⟨d,A,N,c,B,m,e⟩).heap[b]?=some (.cells (⟨d,A,N,c,B,m,e⟩:RcV).arr 30 (0,0))/\Keep w1 (zav w3 b ⟨d,A,N,c,B,m,e⟩):=⟨zce _ zrc ((k3.out).block BZ.out),zbz _ (KW.out.trans (k3.out)) (by have:=hb.out;omega)⟩
  obtain⟨e0,e1,e2,_⟩:=zab q1;simp only[zav] at *;refine bodyPost_ret (v:=.tuple #[.agg #[.int .i64 d,.slice A N c,.slice B m e],.int .i64 6,.int .i64 0]) (by simp[results,Tryz.results27,go_sem,e0,e1,e2]) rfl ⟨A,c,N,P,rfl,q2,(h'.out.keep q2).less fun _=>Or.inl,no.out,fun hh=>hh⟩
end Go.Proofs.YtcogiogjpbkeaaaGreatDoor.C14
