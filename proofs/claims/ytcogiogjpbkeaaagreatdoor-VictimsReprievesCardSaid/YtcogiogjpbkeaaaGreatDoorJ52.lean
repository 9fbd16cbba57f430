/-
  Who is reprieved, and why. No condition, no walk.
  The law of P18.2: who is a victim, and why. Condition: errors.errorType holds its own.
-/
import Derived.Test.YtcogiogjpbkeaaaGreatDoorJ0
import Derived.Test.YtcogiogjpbkeaaaGreatDoorJ40
namespace Go.Proofs.YtcogiogjpbkeaaaGreatDoor.T18
open Go.RowKit Go.Sort Go.Lib V12 T13 T14 T15 T16 T17
theorem zxn(f:(Int->Bool)->Bool)(l:List zaa):∀ i,i<=l.length->∃ S:Nat->Bool,(∀ t,t<i->S t=f (zdx (zdw l S t++l.drop (t+1))))/\(∀ t,i<=t->S t=false)/\zfa f (zdw l S i) (l.drop i)=zfa f [] l
 | 0,_=>⟨fun _=>false,(fun t h=>absurd h (Nat.not_lt_zero _)),(fun _ _=>rfl),rfl⟩
 | i+1,hi=>by
   obtain⟨S,h1,h2,h3⟩:=zxn f l i (by omega)
   obtain⟨b,hb⟩:=Zn (f (zdx (zdw l S i++l.drop (i+1))));have cg:∀ t,t<=i->zdw l (fun t=>if t=i then b else S t) t=zdw l S t:=fun t ht=>zog fun s hs=>if_neg (by omega)
   refine⟨fun t=>if t=i then b else S t,fun t ht=>?_,fun t ht=>?_,?_⟩
   ·rw[cg t (by omega)]
    show(if t=i then b else S t)=_
    by_cases e:t=i
    ·rw[if_pos e,e,hb]
    ·rw[if_neg e]
     exact h1 t (by omega)
   ·show(if t=i then b else S t)=false
    rw[if_neg (by omega)]
    exact h2 t (by omega)
   ·have e1:l.drop i=T13.row l i :: l.drop (i+1):=by
     have h:i<l.length:=hi;rw[List.drop_eq_getElem_cons h];unfold T13.row;rw[List.getD_eq_getElem?_getD,List.getElem?_eq_getElem h];rfl
    rw[e1] at h3;generalize zfa f [] l=V at h3 ⊢;unfold zfa at h3;rw[<- hb] at h3;rw[<- h3,zmi,cg i (Nat.le_refl _),if_pos rfl];cases b
    ·rfl
    ·rw[if_pos rfl,if_pos rfl,List.append_nil]
def ziw(kz:Nat->Int)(mv:Nat->Bool)(i k:Nat):List Int:=((List.range k).filter fun t=>decide (i<t)||(decide (t<i)&&mv t)).map kz
theorem abp(kz:Nat->Int)(mv:Nat->Bool)(i k:Nat):ziw kz mv i (k+1)=ziw kz mv i k++if (decide (i<k)||(decide (k<i)&&mv k))=true then[kz k] else[]:=by
 unfold ziw;rw[List.range_succ,List.filter_append,List.map_append,List.filter_cons,List.filter_nil]
 split<;>rfl
theorem zwu{kz:Nat->Int}{mv:Nat->Bool}{i k:Nat}{z:Int}:z∈ziw kz mv i k↔∃ t,t<k/\(i<t\/(t<i/\mv t=true))/\kz t=z:=by
 unfold ziw;rw[List.mem_map];constructor
 ·rintro⟨t,ht,e⟩
  obtain⟨h1,h2⟩:=List.mem_filter.1 ht;refine⟨t,List.mem_range.1 h1,?_,e⟩
  simpa using h2
 ·rintro⟨t,ht,h,e⟩
  exact⟨t,List.mem_filter.2 ⟨List.mem_range.2 ht,by simpa using h⟩,e⟩
theorem zil{l:List zaa}{t:Nat}(h:t<l.length):(T13.row l t).k=zax (keys l) t:=by
 have:=znb (P:=T13.row l) (n:=l.length) (l:=l) (by rw[lst_row]) h
 exact this.symm
section
variable{p:zaa}{nd:Int}{M:List NV}{L:List zaa}{d:Nat}
theorem aiv(hu:(keys (zbr p nd L)).Nodup){i:Nat}(hi:i<(zbr p nd L).length):
  zdn p nd M L d (zci (ziw (zax (keys (zbr p nd L))) (fun t=>decide (zax (keys (zbr p nd L)) t∈keys (zct p nd M L d))) i (zbr p nd L).length))=!decide (zax (keys (zbr p nd L)) i∈keys (zct p nd M L d)):=by
 obtain⟨l,hl⟩:=Zn (zbr p nd L);obtain⟨S,h1,_,h3⟩:=zxn (zdn p nd M L d) l l.length (Nat.le_refl _);rw[List.drop_eq_nil_of_le (Nat.le_refl _)] at h3;have hV:zct p nd M L d=zdw l S l.length:=by
  rw[aeu,<- hl,<- h3];rfl
 rw[hV,<- hl];rw[<- hl] at hi hu;have inj:∀ s t,s<l.length->t<l.length->zax (keys l) s=zax (keys l) t->s=t:=fun s t hs ht e=>by
  have e1:=zhp (l:=keys l) (j:=s) (by rw[zdf];exact hs)
  have e2:=zhp (l:=keys l) (j:=t) (by rw[zdf];exact ht)
  rw[e,<- e2] at e1;exact(List.getElem?_inj (by rw[zdf];exact hs) hu).1 e1
 have mem:∀ t,t<l.length->(zax (keys l) t∈keys (zdw l S l.length)↔S t=false):=fun t ht=>by
  constructor
  ·intro h
   obtain⟨y,hy,e⟩:=List.mem_map.1 h;obtain⟨s,hs,rfl⟩:=List.mem_map.1 hy;obtain⟨hs1,hs2⟩:=List.mem_filter.1 hs;have hs1:=List.mem_range.1 hs1;have e:(T13.row l s).k=zax (keys l) t:=e;rw[zil hs1] at e;rw[<- inj s t hs1 ht e]
   simpa using hs2
  ·intro h
   refine List.mem_map.2 ⟨T13.row l t,List.mem_map.2 ⟨t,List.mem_filter.2 ⟨List.mem_range.2 ht,by simp[h]⟩,rfl⟩,zil ht⟩
 have e2:decide (zax (keys l) i∈keys (zdw l S l.length))=!S i:=by
  rw[Bool.eq_iff_iff,decide_eq_true_iff,mem i hi];cases S i<;>simp
 rw[e2,Bool.not_not,h1 i hi]
 congr 1
 funext z
 unfold zci zdx;rw[decide_eq_decide,zwu];unfold keys;rw[List.map_append,List.mem_append];constructor
 ·rintro⟨t,ht,h | ⟨h,hm⟩,e⟩
  ·right
   exact List.mem_map.2 ⟨T13.row l t,zin.2 ⟨t,h,ht,rfl⟩,by rw[zil ht];exact e⟩
  ·left
   have hm:=(mem t ht).1 (of_decide_eq_true hm);exact List.mem_map.2 ⟨T13.row l t,List.mem_map.2 ⟨t,List.mem_filter.2 ⟨List.mem_range.2 h,by simp[hm]⟩,rfl⟩,by rw[zil ht];exact e⟩
 ·rintro(h | h)
  ·obtain⟨y,hy,e⟩:=List.mem_map.1 h
   obtain⟨t,ht,rfl⟩:=List.mem_map.1 hy;obtain⟨hs1,hs2⟩:=List.mem_filter.1 ht;have hs1:=List.mem_range.1 hs1;refine⟨t,by omega,Or.inr ⟨hs1,decide_eq_true ((mem t (by omega)).2 (by simpa using hs2))⟩,?_⟩
   rw[<- e];exact(zil (by omega)).symm
  ·obtain⟨y,hy,e⟩:=List.mem_map.1 h
   obtain⟨t,h1,h2,rfl⟩:=mem_drop_row hy;refine⟨t,h2,Or.inl h1,?_⟩;rw[<- e];exact(zil h2).symm
end
end Go.Proofs.YtcogiogjpbkeaaaGreatDoor.T18
namespace Go.Proofs.YtcogiogjpbkeaaaGreatDoor.T18
open Go.RowKit Go.Sort Go.Lib V12 T13 T14 T15 T16 T17
set_option maxRecDepth 100000 in
set_option maxHeartbeats 16000000 in
theorem repv_walk{CS:zbn}(C:Con CS)(N:zhj CS)(F:zoa CS)(HA:zkf)(A:Option Addr)(n c:Nat)(Pn:Nat->C14.NdC)(B:Option Addr)(m e:Nat)(Pp:Nat->PlV)(p:zaa)(nd:Int)(w:World)(hN:C14.RdC w A n Pn)(hP:zob w B m Pp)(hpx:zah w p)(hg:zbk w)(hnd:I64 nd):Calls Tryz.prog 7 #[.slice A n c,.slice B m e,p.val,.int .i64 nd] w fun e w'=>e=.returned (.bool true)/\Keep w w':=by
 have mixed:Tryz.prog.follows .mixedOrders=true:=by kernel_rfl
 obtain⟨W0,hW0⟩:=Zn (w.alloc (.cells (zac p) 26));have K0:Hid (Keep w W0):=by rw[hW0];exact Keep.one _ _
 have BP:Hid (W0.heap[w.heap.size]?=some (.cells (zac p) 26 (0,0))):=by rw[hW0];exact heap_alloc_new _ _
 obtain⟨bp,hbp⟩:=Zn (w.heap.size);rw[<- hbp] at BP;have hg0:Hid (zbk W0):=hg.keep K0.out;have cB:=Zq (zgj C N A n c Pn B m e Pp W0 (hN.keep K0.out) (hP.keep K0.out) hg0.out);have aw:Hid (∀ W2,Keep W0 W2->Calls Tryz.prog 9 #[] W2 fun e w'=>e=.returned (.bool true)/\Keep W2 w'):=fun W2 k=>HA W2 (hg0.out.keep k)
 have px0:=hpx.keep K0.out;replace hN:=Zq hN;replace hP:=Zq hP;replace hg:=Zq hg;replace hpx:=Zq hpx;replace px0:=Zq px0;unfold zac at hW0;unfold zaa.val
 go_enter Tryz.func7,Tryz.ntmps7
 go_wp2_with fail;rw[<- hW0,<- hbp];replace hW0:=Zq hW0;replace hbp:=Zq hbp;refine cB.out.mono ?_;rintro e' w1 ⟨k1,⟨x,rfl⟩ | ⟨q,M,L,X,x,Q,P,rfl,ST,hM,hL⟩⟩
 ·obtain⟨W1,hW1⟩:=Zn (w1.alloc (.cells x.arr 30))
  have K1:Hid (Keep W0 W1):=by rw[hW1];exact k1.alloc _
  replace k1:=Zq k1;have a1:=Zq (aw.out W1 K1.out);unfold RcV.arr at hW1;unfold RcV.val;go_wp2_with fail;rw[<- hW1];replace hW1:=Zq hW1;refine a1.out.mono ?_;rintro e' w2 ⟨rfl,k2⟩;have K2:Hid (Keep W0 w2):=K1.out.trans k2;replace k2:=Zq k2;clear a1;have a2:=Zq (aw.out w2 K2.out);go_wp2_with fail;refine a2.out.mono ?_;rintro e' w3 ⟨rfl,k3⟩;replace k3:=Zq k3;go_wp2;go_ret
  exact⟨rfl,K0.out.trans (K2.out.trans k3.out)⟩
 ·obtain⟨W1,hW1⟩:=Zn (w1.alloc (.cells x.arr 30))
  have K1:Hid (Keep W0 W1):=by rw[hW1];exact k1.alloc _
  replace k1:=Zq k1;replace ST:=Zq (ST.keep C (show Keep w1 W1 by rw[hW1];exact Keep.one _ _))
  replace hM:=Zq hM;replace hL:=Zq hL;have BX:Hid (W1.heap[w1.heap.size]?=some (.cells x.arr 30 (0,0))):=by rw[hW1];exact heap_alloc_new _ _
  have a1:=Zq (aw.out W1 K1.out);unfold RcV.arr at hW1;unfold RcV.val;go_wp2_with fail;rw[<- hW1];try replace hW1:=Zq hW1
  refine a1.out.mono ?_;rintro e' w2 ⟨rfl,k2⟩;have K2:Hid (Keep W0 w2):=K1.out.trans k2;replace ST:=Zq (ST.out.keep C k2);replace BX:Hid (w2.heap[w1.heap.size]?=some (.cells x.arr 30 (0,0))):=Keep.block k2 BX.out;replace k2:=Zq k2;obtain⟨bx,hbx⟩:=Zn (w1.heap.size);rw[<- hbx] at BX ⊢;replace hbx:=Zq hbx;clear a1;have X0:=zae (Keep.block K2.out BP.out);have x0:=X0.e0;have x1:=X0.e1;have x2:=X0.e2;have x3:=X0.e3;have x4:=X0.e4;have x5:=X0.e5;have x6:=X0.e6;have x7:=X0.e7;have x8:=X0.e8;clear X0;obtain⟨W3,hW3⟩:=Zn (w2.alloc (.cells (zac p) 26));have B3:Hid (W3.heap[w2.heap.size]?=some (.cells (zac p) 26 (0,0))):=by rw[hW3];exact heap_alloc_new _ _
  have k23:Hid (Keep w2 W3):=by rw[hW3];exact Keep.one _ _
  have K3:Hid (Keep W0 W3):=K2.out.trans k23.out;replace ST:=Zq (ST.out.keep C k23.out);replace BX:Hid (W3.heap[bx]?=some (.cells x.arr 30 (0,0))):=Keep.block k23.out BX.out;obtain⟨fb,hfb⟩:=zhx p;have cF:=Zq (zif (some ⟨w2.heap.size,0,none⟩) 1 1 (fun _=>p) W3 (zff B3.out (px0.out.keep K3.out)) fb hfb)
  unfold zac at hW3;replace hfb:=Zq hfb;go_wp2_with fail;rw[<- hW3];replace hW3:=Zq hW3;refine cF.out.mono ?_;rintro e' w4 ⟨rfl,rfl⟩;clear x0 x1 x2 x3 x4 x5 x6 x7 x8 cF;cases fb with
  | false =>
    have a2:=Zq (aw.out W3 K3.out);go_wp2_with fail;refine a2.out.mono ?_;rintro e' w5 ⟨rfl,k5⟩;replace k5:=Zq k5;go_wp2;go_ret
    exact⟨rfl,K0.out.trans (K3.out.trans k5.out)⟩
  | true =>
    have fx:=Zq (hfb.out.1 rfl);have hb:-1073741824<=p.p/\p.p<=1073741824/\p.m<=20:=fx.out.2 0 (by omega)
    have l100:Hid (L.length<=100):=Nat.le_trans hL.out.1 (by omega)
    have m100:Hid (M.length<=100):=Nat.le_trans hM.out (by omega)
    have pm:Hid (p.m<=1000):=Nat.le_trans hb.2.2 (by omega)
    have prb:Hid (PrB L):=hL.out.2;replace hb:=Zq hb;replace hnd:=Zq hnd;have KF:Hid (∀ Wz,Keep W3 Wz->CS W0 2 q M L X Wz/\zbk Wz/\zah Wz p/\St CS W0 2 q M L X Wz x Q P):=fun Wz kk=>⟨C.keep ST.out.o kk,hg0.out.keep (K3.out.trans kk),px0.out.keep (K3.out.trans kk),ST.out.keep C kk⟩
    obtain⟨pb,hpb⟩:=Zn (zek p nd M L 2);obtain⟨vl,hvl⟩:=Zn (if pb=true then zct p nd M L 2 else[])
    have cO:Hid (∀ Wz,Keep W3 Wz->Calls Tryz.prog 11 #[.pointer (some ⟨q,0,none⟩),p.val,.int .i64 nd] Wz fun e w'=>∃ A c P,e=.returned (.tuple #[.slice A vl.length c,.bool pb])/\zai w' A vl.length P/\(T13.lst P vl.length).map nm=vl/\(A=none->vl.length=0/\c=0)/\Keep Wz w'):=fun Wz kk=>by
     obtain⟨k1,k2,k3,_⟩:=KF.out Wz kk;refine(F.of p nd k1 k2 k3 hnd.out (by omega) pm.out m100.out l100.out prb.out).mono ?_
     rintro e w' ⟨v,he,⟨A,c,P,e2,h1,h2,h3⟩,k⟩;rw[<- hpb] at he e2 h1 h2 h3;rw[<- hvl] at e2 h1 h2 h3;subst e2;exact⟨A,c,P,he,h1,h2,h3,k⟩
    have cG:Hid (∀ Wz A n c O b,Keep W3 Wz->zcq Wz A n O->zdn p nd M L 2 O=b->Calls Tryz.prog 21 #[x.val,p.val,.int .i64 nd,.slice A n c] Wz fun e w'=>e=.returned (.bool b)/\Keep Wz w'):=fun Wz A n c O b kk hs hf=>by
     obtain⟨_,_,k3,k4⟩:=KF.out Wz kk;rw[<- hf];exact zjv C k4 (by omega) l100.out p k3 nd A n c O hs
    have cL:Hid (∀ Wz,Keep W3 Wz->Calls Tryz.prog 14 #[x.val,p.val,.int .i64 nd] Wz fun e w'=>∃ v,e=.returned v/\zdl w' v (zbr p nd L)/\Keep Wz w'):=fun Wz kk=>by
     obtain⟨_,_,_,k4⟩:=KF.out Wz kk;exact zwz C k4 prb.out l100.out p nd
    replace hpb:=Zq hpb;replace hvl:=Zq hvl;unfold zaa.val at cG cL;unfold RcV.val at cG cL;unfold zaa.val at cO;have X0:=zae (Keep.block K3.out BP.out);have p0:=X0.e0;have p1:=X0.e1;have p2:=X0.e2;have p3:=X0.e3;have p4:=X0.e4;have p5:=X0.e5;have p6:=X0.e6;have p7:=X0.e7;have p8:=X0.e8;clear X0;have cc:=Zq (cO.out W3 (Keep.refl _));go_wp2_with fail;clear p0 p1 p2 p3 p4 p5 p6 p7 p8;refine cc.out.mono ?_;rintro e' w5 ⟨vA,vc,vP,rfl,VR,VE,VN,k5⟩;have K5:Hid (Keep W3 w5):=k5;replace k5:=Zq k5;replace VR:=Zq VR;replace VE:=Zq VE;replace VN:=Zq VN;clear cc;cases pb with
    | false =>
      go_wp2;go_ret
      exact⟨rfl,K0.out.trans (K3.out.trans K5.out)⟩
    | true =>
      have ve:vl=zct p nd M L 2:=by rw[hvl.out];rfl
      have VL:Hid (vl.length<=100/\keys (T13.lst vP vl.length)=keys vl/\∀ j,j<vl.length->(vP j).p<p.p/\(vP j).h=3/\(vP j).d=nd):=by
       refine⟨?_,by rw[<- zbq,VE.out],fun j hj=>?_⟩
       ·rw[ve]
        exact Nat.le_trans zqu l100.out
       ·have h:nm (vP j)∈vl:=by
         rw[<- VE.out];exact List.mem_map_of_mem (lst_mem.2 ⟨j,hj,rfl⟩)
        rw[ve] at h;exact zqv (y:=nm (vP j)) h
      obtain⟨K,hK⟩:=Zn (keys (zbr p nd L));obtain⟨ml,hml⟩:=Zn ((zbr p nd L).length);have ml100:ml<=100:=by rw[hml];exact Nat.le_trans (zia p nd L) l100.out
      obtain⟨mv,hmv⟩:∃ mv:Nat->Bool,mv=fun t=>decide (zax K t∈keys vl):=⟨_,rfl⟩
      have RP:Hid (∀ i,i<ml->zdn p nd M L 2 (zci (ziw (zax K) mv i ml))=!mv i):=fun i hi=>by
       have nod:(keys (zbr p nd L)).Nodup:=(List.Perm.nodup_iff ((zdj _).map _)).2 (zjm (zqe p nd) (C.ok ST.out.o).lok.nod);have h:=aiv (p:=p) (nd:=nd) (M:=M) (L:=L) (d:=2) nod (by rw[<- hml];exact hi)
       rw[<- hK,<- ve,<- hml] at h;rw[hmv];exact h
      obtain⟨n,hn⟩:=Zn (vl.length);have n100:n<=100:=by rw[hn];exact VL.out.1
      have cI:=zie vA vl.length vc vP w5 VR.out (by omega)
      rw[VL.out.2.1] at cI;rw[<- hn] at cI VR ⊢;replace ve:=Zq ve;replace hn:=Zq hn;replace cI:=Zq cI;go_wp2_with fail;refine cI.out.mono ?_;rintro e' w6 ⟨v6,rfl,i6,k6⟩;have K6:Hid (Keep w5 w6):=k6;replace k6:=Zq k6;replace i6:=Zq i6;clear cI;have X0:=zae (Keep.block (K3.out.trans (K5.out.trans K6.out)) BP.out);have p0:=X0.e0;have p1:=X0.e1;have p2:=X0.e2;have p3:=X0.e3;have p4:=X0.e4;have p5:=X0.e5;have p6:=X0.e6;have p7:=X0.e7;have p8:=X0.e8;clear X0;obtain⟨c0,c1,c2,_⟩:=zab (Keep.block (K5.out.trans K6.out) BX.out);have cc:=Zq (cL.out w6 (K5.out.trans K6.out));go_wp2_with fail;clear c0 c1 c2 p0 p1 p2 p3 p4 p5 p6 p7 p8;refine cc.out.mono ?_;rintro e' w7 ⟨v7,rfl,⟨lA,lc,lP,rfl,LR,LE⟩,k7⟩;have K7:Hid (Keep w5 w7):=K6.out.trans k7;have i7:=Zq (zbv.keep i6.out k7);replace k7:=Zq k7;rw[<- hml] at LR LE ⊢;have KZ:Hid (∀ t,t<ml->(lP t).k=zax K t/\I64 (zax K t)):=fun t ht=>by
       have h:keys (T13.lst lP ml)=keys (zbr p nd L):=by rw[<- zbq,LE]
       have e:=znb h ht;rw[<- hK] at e;rw[e];exact⟨rfl,(LR.is t ht).rng.1⟩
      replace LR:=Zq LR;replace LE:=Zq LE;replace hml:=Zq hml;replace hK:=Zq hK;replace hmv:=Zq hmv;clear cc i6;go_wp2
      go_loopg [15,16,17] ml (fun gx s15 _ _ wr=>∃ i:Nat,i<=ml/\gx=ml - i/\s15=.int .i64 i/\Hid (Keep w7 wr))
      case atStart=>exact⟨0,Nat.zero_le _,rfl,rfl,Keep.refl _⟩
      case round =>
       obtain⟨i,hi,rfl,rfl,KO⟩:=hrel
       by_cases hilt:i<ml
       ·generalize hwo:wr=wo at *
        clear hwo;go_wp2
        go_loopg [16,17] ml (fun gx s16 s17 wr=>∃ (k:Nat) (RA:Option Addr) (rc:Nat) (R:List Int),k<=ml/\gx=ml - k/\s17=.int .i64 k/\s16=.slice RA R.length rc/\R.length<=k/\Hid (R=ziw (zax K) mv i k)/\Hid (Keep wo wr)/\Hid (wr.ownsRow wo.heap.size 3 1 (.slice RA R.length rc) R.length (zba R.length (zax R))))
        case atStart=>exact⟨0,none,0,[],Nat.zero_le _,rfl,rfl,rfl,Nat.le_refl _,rfl,Keep.refl _,World.ownsRow_nil _ _ _ _⟩
        case round =>
         obtain⟨k,RA,rc,R,hk,rfl,rfl,rfl,hRk,hR,KR,RW⟩:=hrel
         by_cases hlt:k<ml
         ·obtain⟨b,off,hA,ca⟩:=(LR.out.keep (KO.out.trans KR.out)).adr (by omega)
          subst hA;have q1:=zar b off ml lc k hlt;have y0:=(ca k hlt).e0;clear ca;rw[(KZ.out k hlt).1] at y0;have hz2:Hid (I64 (zax K k)):=(KZ.out k hlt).2;have sc:=abp (zax K) mv i k;have hmk:Hid (mv k=decide (zax K k∈keys vl)):=by rw[hmv.out];rfl
          obtain⟨z,hz⟩:=Zn (zax K k);rw[<- hz] at y0 hz2 sc hmk;have cZ:Hid (Calls Tryz.prog 25 #[v6,.int .i64 z] wr fun e w'=>e=.returned (.bool (mv k))/\Keep wr w'):=by
           rw[hmk.out];exact zrq (zbv.keep i7.out (KO.out.trans KR.out)) z
          replace hz:=Zq hz;have PUT18:Hid ((decide (i<k)||(decide (k<i)&&mv k))=true->R++[z]=ziw (zax K) mv i (k+1)):=fun h=>by rw[sc,if_pos h,hR.out]
          have NOP:Hid ((decide (i<k)||(decide (k<i)&&mv k))=false->R=ziw (zax K) mv i (k+1)):=fun h=>by rw[sc,if_neg (by rw[h];decide),List.append_nil,hR.out]
          replace sc:=Zq sc
          by_cases h1:i<k
          ·have d1:decide ((i:Int)<(k:Int))=true:=decide_eq_true (by omega)
           have R2:Hid (R++[z]=ziw (zax K) mv i (k+1)):=PUT18.out (by rw[decide_eq_true h1];rfl)
           have gsz:Hid (wo.heap.size<=wr.heap.size):=KR.out.size;clear cZ;go_wp2_with (at_builtin;refine zla Tryz.underlying43 Tryz.infoI16 rfl _ _ rfl wo.heap.size (.slice RA R.length rc) R.length (zba R.length (zax R)) (by simp[Act.eval]) (zal RW.out (Keep.one _ _)) (some ⟨wr.heap.size,0,none⟩) 1 1 (fun _=>z) (by simp[Act.eval]) (zgq (heap_alloc_new _ _) hz2.out) (fun e=>by cases e) (by omega) (by rw[World.size_alloc];have:=gsz.out;omega) (R.length+1) rfl ?_;intro v9 w9 hr9 hg9)
           have K9:Hid (Keep wo w9):=zad (KR.out.trans (Keep.one _ _)) hg9 (fun q hq=>(RW.out.lt q hq).1)
           obtain⟨B9,d9,hB9,_⟩:=zan hr9;subst hB9;rw[zjq] at hr9;have hl2:(R++[z]).length=R.length+1:=by rw[List.length_append];rfl
           rw[<- hl2] at hr9 ⊢;replace hl2:=Zq hl2;replace hr9:=Zq hr9;replace hg9:=Zq hg9;clear y0 q1;go_wp2;go_roundg (ml - (k+1))
           case measure=>omega
           case rel=>exact⟨k+1,B9,d9,R++[z],hlt,rfl,by go_num,rfl,by have:=hl2.out;omega,R2,K9,hr9⟩
          ·have d1:decide ((i:Int)<(k:Int))=false:=decide_eq_false (by omega)
           by_cases h2:k<i
           ·have d2:decide ((k:Int)<(i:Int))=true:=decide_eq_true (by omega)
            obtain⟨u,hu⟩:=Zn (mv k);rw[<- hu] at cZ;go_wp2_with fail;refine cZ.out.mono ?_;rintro e' w8 ⟨rfl,k8⟩;have K8:Hid (Keep wo w8):=KR.out.trans k8;have RW8:=Zq (zal RW.out k8);have y8:=k8.cell y0;replace k8:=Zq k8;clear y0 cZ;cases u with
            | true =>
              have R2:Hid (R++[z]=ziw (zax K) mv i (k+1)):=PUT18.out (by rw[decide_eq_true h2,<- hu,decide_eq_false h1];rfl)
              have gsz:Hid (wo.heap.size<=w8.heap.size):=K8.out.size;replace hu:=Zq hu;have y0:=y8;clear y8;go_wp2_with (at_builtin;refine zla Tryz.underlying43 Tryz.infoI16 rfl _ _ rfl wo.heap.size (.slice RA R.length rc) R.length (zba R.length (zax R)) (by simp[Act.eval]) (zal RW8.out (Keep.one _ _)) (some ⟨w8.heap.size,0,none⟩) 1 1 (fun _=>z) (by simp[Act.eval]) (zgq (heap_alloc_new _ _) hz2.out) (fun e=>by cases e) (by omega) (by rw[World.size_alloc];have:=gsz.out;omega) (R.length+1) rfl ?_;intro v9 w9 hr9 hg9)
              have K9:Hid (Keep wo w9):=zad (K8.out.trans (Keep.one _ _)) hg9 (fun q hq=>(RW8.out.lt q hq).1)
              obtain⟨B9,d9,hB9,_⟩:=zan hr9;subst hB9;rw[zjq] at hr9;have hl2:(R++[z]).length=R.length+1:=by rw[List.length_append];rfl
              rw[<- hl2] at hr9 ⊢;replace hl2:=Zq hl2;replace hr9:=Zq hr9;replace hg9:=Zq hg9;clear y0 q1;go_wp2;go_roundg (ml - (k+1))
              case measure=>omega
              case rel=>exact⟨k+1,B9,d9,R++[z],hlt,rfl,by go_num,rfl,by have:=hl2.out;omega,R2,K9,hr9⟩
            | false =>
              have R2:Hid (R=ziw (zax K) mv i (k+1)):=NOP.out (by rw[decide_eq_true h2,<- hu,decide_eq_false h1];rfl)
              replace hu:=Zq hu;go_wp2;go_roundg (ml - (k+1))
              case measure=>omega
              case rel=>exact⟨k+1,RA,rc,R,hlt,rfl,by go_num,rfl,by omega,R2,K8,RW8⟩
           ·have d2:decide ((k:Int)<(i:Int))=false:=decide_eq_false (by omega)
            have R2:Hid (R=ziw (zax K) mv i (k+1)):=NOP.out (by rw[decide_eq_false h2,decide_eq_false h1];rfl)
            clear cZ;go_wp2;go_roundg (ml - (k+1))
            case measure=>omega
            case rel=>exact⟨k+1,RA,rc,R,hlt,rfl,by go_num,rfl,by omega,R2,KR,RW⟩
         ·obtain rfl:k=ml:=by omega
          have KW3:Hid (Keep W3 wr):=K5.out.trans (K7.out.trans (KO.out.trans KR.out));obtain⟨lb,lo0,hA,ca⟩:=(LR.out.keep (KO.out.trans KR.out)).adr (by omega)
          subst hA;have q1:=zar lb lo0 k lc i hilt;have y0:=(ca i hilt).e0;clear ca;obtain⟨lo,hlo⟩:=Zn (lo0+i * 9);rw[(KZ.out i hilt).1] at y0;rw[<- hlo] at y0 q1;have hmi:Hid (mv i=decide (zax K i∈keys vl)):=by rw[hmv.out];rfl
          have hf:=RP.out i hilt;rw[<- hR.out] at hf;obtain⟨z,hz⟩:=Zn (zax K i);rw[<- hz] at y0 hmi;obtain⟨u,hu⟩:=Zn (mv i);rw[<- hu] at hmi hf;have SO:Hid (∀ Wz,Keep wr Wz->zcq Wz RA R.length (zci R)):=fun Wz kk=>by
           obtain⟨A',c',e,h1,_⟩:=own_row RW.out (by omega) fun j hj=>by
            have h:zax R j∈ziw (zax K) mv i k:=by rw[<- hR.out];exact zdo hj
            obtain⟨t,ht,_,e⟩:=zwu.1 h;rw[<- e];exact(KZ.out t ht).2
           cases e
           exact⟨zax R,h1.keep kk,fun k=>⟨fun hk=>zei (of_decide_eq_true hk),fun ⟨j,hj,e⟩=>decide_eq_true (by rw[<- e];exact zdo hj)⟩⟩
          have cZ:Hid (∀ Wz,Keep wr Wz->Calls Tryz.prog 25 #[v6,.int .i64 z] Wz fun e w'=>e=.returned (.bool u)/\Keep Wz w'):=fun Wz kk=>by
           rw[hmi.out];exact zrq (zbv.keep i7.out (KO.out.trans (KR.out.trans kk))) z
          have cF2:=Zq (fun Wz kk=>cG.out Wz RA R.length rc (zci R) (!u) (KW3.out.trans kk) (SO.out Wz kk) hf)
          have bb:(u == !u)=false:=by cases u<;>rfl
          replace hf:=Zq hf;replace hz:=Zq hz;replace hu:=Zq hu;replace hlo:=Zq hlo;go_upto_region 18 with fail
          have HELD:∀ Wz,Keep wr Wz->(Wz.cell? ⟨bx,0,none⟩=some (.int .i64 x.d)/\Wz.cell? ⟨bx,1,none⟩=some (.slice x.A x.n x.c)/\Wz.cell? ⟨bx,2,none⟩=some (.slice x.B x.m x.e)/\Wz.cell? ⟨bp,0,none⟩=some (.int .i64 p.k)/\Wz.cell? ⟨bp,1,none⟩=some (.int .i64 p.p)/\Wz.cell? ⟨bp,2,none⟩=some (.bool p.f)/\Wz.cell? ⟨bp,3,none⟩=some (.int .i64 p.g)/\Wz.cell? ⟨bp,4,none⟩=some (.slice p.A p.m p.c)/\Wz.cell? ⟨bp,5,none⟩=some (.int .i64 p.a)/\Wz.cell? ⟨bp,6,none⟩=some (.int .i64 p.h)/\Wz.cell? ⟨bp,7,none⟩=some (.int .i64 p.d)/\Wz.cell? ⟨bp,8,none⟩=some (.int .i64 p.t)/\Wz.cell? ⟨lb,lo,none⟩=some (.int .i64 z)):=fun Wz KK=>⟨(zab (Keep.block (KW3.out.trans KK) BX.out)).1,(zab (Keep.block (KW3.out.trans KK) BX.out)).2.1,(zab (Keep.block (KW3.out.trans KK) BX.out)).2.2.1,(zae (Keep.block (K3.out.trans (KW3.out.trans KK)) BP.out)).e0,(zae (Keep.block (K3.out.trans (KW3.out.trans KK)) BP.out)).e1,(zae (Keep.block (K3.out.trans (KW3.out.trans KK)) BP.out)).e2,(zae (Keep.block (K3.out.trans (KW3.out.trans KK)) BP.out)).e3,(zae (Keep.block (K3.out.trans (KW3.out.trans KK)) BP.out)).e4,(zae (Keep.block (K3.out.trans (KW3.out.trans KK)) BP.out)).e5,(zae (Keep.block (K3.out.trans (KW3.out.trans KK)) BP.out)).e6,(zae (Keep.block (K3.out.trans (KW3.out.trans KK)) BP.out)).e7,(zae (Keep.block (K3.out.trans (KW3.out.trans KK)) BP.out)).e8,KK.cell y0⟩
          refine OrdS.rest_start (fun w'=>w'.cell? ⟨bx,0,none⟩=some (.int .i64 x.d)/\w'.cell? ⟨bx,1,none⟩=some (.slice x.A x.n x.c)/\w'.cell? ⟨bx,2,none⟩=some (.slice x.B x.m x.e)/\w'.cell? ⟨bp,0,none⟩=some (.int .i64 p.k)/\w'.cell? ⟨bp,1,none⟩=some (.int .i64 p.p)/\w'.cell? ⟨bp,2,none⟩=some (.bool p.f)/\w'.cell? ⟨bp,3,none⟩=some (.int .i64 p.g)/\w'.cell? ⟨bp,4,none⟩=some (.slice p.A p.m p.c)/\w'.cell? ⟨bp,5,none⟩=some (.int .i64 p.a)/\w'.cell? ⟨bp,6,none⟩=some (.int .i64 p.h)/\w'.cell? ⟨bp,7,none⟩=some (.int .i64 p.d)/\w'.cell? ⟨bp,8,none⟩=some (.int .i64 p.t)/\w'.cell? ⟨lb,lo,none⟩=some (.int .i64 z)) [] (by kernel_rfl) ?_ (fun hHeld=>?_)
          ·exact HELD _ (Keep.refl wr).drew
          obtain⟨wt0,hwt0⟩:=Zn (wr.drew);have Kwt0:Hid (Keep wr wt0):=by rw[hwt0];exact(Keep.refl _).drew
          rw[<- hwt0] at hHeld ⊢;replace hwt0:=Zq hwt0;refine OrdS.rt 0 (v6) hHeld ?_
          simp only[Act.put,Zp];refine OrdS.rt 1 (.slice (some ⟨lb,lo0,none⟩) k lc) hHeld ?_
          simp only[Act.put,Zp];refine OrdS.rt 2 (.int .i64 i) hHeld ?_
          simp only[Act.put,Zp];refine OrdS.rt 3 (.pointer (some ⟨lb,lo,none⟩)) hHeld ?_
          simp only[Act.put,Zp];refine OrdS.rt 4 (.pointer (some ⟨lb,lo,none⟩)) hHeld ?_
          simp only[Act.put,Zp];refine OrdS.rt 5 (.int .i64 z) hHeld ?_
          simp only[Act.put,Zp];refine OrdS.rt 7 (.agg #[.int .i64 x.d,.slice x.A x.n x.c,.slice x.B x.m x.e]) hHeld ?_
          simp only[Act.put,Zp];refine OrdS.rt 8 (.agg #[.int .i64 p.k,.int .i64 p.p,.bool p.f,.int .i64 p.g,.slice p.A p.m p.c,.int .i64 p.a,.int .i64 p.h,.int .i64 p.d,.int .i64 p.t]) hHeld ?_
          simp only[Act.put,Zp];refine OrdS.rt 9 (.int .i64 nd) hHeld ?_
          simp only[Act.put,Zp];refine OrdS.rt 10 (.slice RA R.length rc) hHeld ?_
          simp only[Act.put,Zp];refine OrdS.rest_ready (rs:=[6]) (by kernel_rfl) (by simp) ?_
          refine OrdS.Each.cons rfl (fun K hK=>?_) OrdS.Each.nil
          simp only[Zp];rw[if_pos (by rfl)]
          go_simp
          refine(cZ.out _ Kwt0.out).mono ?_;rintro e' w8 ⟨rfl,k8⟩;have K8:Hid (Keep wr w8):=Kwt0.out.trans k8;replace k8:=Zq k8;go_wp2_with fail;refine hK.out _ _ (fun _=>HELD _ K8.out) ?_
          have hHeld:=HELD _ K8.out;clear hK K;try simp only[Act.put,Zp]
          refine OrdS.rest_ready (rs:=[11]) (by kernel_rfl) (by simp) ?_
          refine OrdS.Each.cons rfl (fun K hK=>?_) OrdS.Each.nil
          simp only[Zp];rw[if_pos (by rfl)]
          go_simp
          refine(cF2.out _ K8.out).mono ?_;rintro e' w9 ⟨rfl,k9⟩;have K9:Hid (Keep wr w9):=K8.out.trans k9;replace k9:=Zq k9;go_wp2_with fail;refine hK.out _ _ (fun _=>HELD _ K9.out) ?_
          have hHeld:=HELD _ K9.out;clear hK K;try simp only[Act.put,Zp]
          refine OrdS.rt 12 (.bool false) hHeld ?_
          simp only[Act.put,Zp];refine OrdS.rest_done (by kernel_rfl) ?_ _
          clear hHeld HELD;have KN:Hid (Keep w7 w9):=KO.out.trans (KR.out.trans K9.out);go_wp2;go_roundg (k - (i+1))
          case measure=>omega
          case rel=>exact⟨i+1,hilt,rfl,by go_num,KN⟩
       ·obtain rfl:i=ml:=by omega
        go_wp2;go_ret
        exact⟨rfl,K0.out.trans (K3.out.trans (K5.out.trans (K7.out.trans KO.out)))⟩
end Go.Proofs.YtcogiogjpbkeaaaGreatDoor.T18
