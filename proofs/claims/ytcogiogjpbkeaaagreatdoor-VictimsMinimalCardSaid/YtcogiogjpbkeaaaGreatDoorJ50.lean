/-
  The law of P18.2, P18.4: the victims are just enough, and there are none exactly if the pod fits as it is. Condition: errors.errorType holds its own.
-/
import Derived.Test.YtcogiogjpbkeaaaGreatDoorJ0
import Derived.Test.YtcogiogjpbkeaaaGreatDoorJ40
namespace Go.Proofs.YtcogiogjpbkeaaaGreatDoor.T18
open Go.RowKit Go.Sort Go.Lib V12 T13 T14 T15 T16 T17
set_option maxRecDepth 100000 in
set_option maxHeartbeats 16000000 in
theorem minv_walk{CS:zbn}(C:Con CS)(N:zhj CS)(F:zoa CS)(HA:zkf)(A:Option Addr)(n c:Nat)(Pn:Nat->C14.NdC)(B:Option Addr)(m e:Nat)(Pp:Nat->PlV)(p:zaa)(nd:Int)(w:World)(hN:C14.RdC w A n Pn)(hP:zob w B m Pp)(hpx:zah w p)(hg:zbk w)(hnd:I64 nd):Calls Tryz.prog 4 #[.slice A n c,.slice B m e,p.val,.int .i64 nd] w fun e w'=>e=.returned (.bool true)/\Keep w w':=by
 have mixed:Tryz.prog.follows .mixedOrders=true:=by kernel_rfl
 obtain⟨W0,hW0⟩:=Zn (w.alloc (.cells (zac p) 26));have K0:Hid (Keep w W0):=by rw[hW0];exact Keep.one _ _
 have BP:Hid (W0.heap[w.heap.size]?=some (.cells (zac p) 26 (0,0))):=by rw[hW0];exact heap_alloc_new _ _
 obtain⟨bp,hbp⟩:=Zn (w.heap.size);rw[<- hbp] at BP;have hg0:Hid (zbk W0):=hg.keep K0.out;have cB:=Zq (zgj C N A n c Pn B m e Pp W0 (hN.keep K0.out) (hP.keep K0.out) hg0.out);have aw:Hid (∀ W2,Keep W0 W2->Calls Tryz.prog 9 #[] W2 fun e w'=>e=.returned (.bool true)/\Keep W2 w'):=fun W2 k=>HA W2 (hg0.out.keep k)
 have px0:=hpx.keep K0.out;replace hN:=Zq hN;replace hP:=Zq hP;replace hg:=Zq hg;replace hpx:=Zq hpx;replace px0:=Zq px0;unfold zac at hW0;unfold zaa.val
 go_enter Tryz.func4,Tryz.ntmps4
 go_wp2_with fail;rw[<- hW0,<- hbp];replace hW0:=Zq hW0;replace hbp:=Zq hbp;refine cB.out.mono ?_;rintro e' w1 ⟨k1,⟨x,rfl⟩ | ⟨q,M,L,X,x,Q,P,rfl,ST,hM,hL⟩⟩
 ·obtain⟨W1,hW1⟩:=Zn (w1.alloc (.cells x.arr 30))
  have K1:Hid (Keep W0 W1):=by rw[hW1];exact k1.alloc _
  replace k1:=Zq k1;have a1:=Zq (aw.out W1 K1.out);unfold RcV.arr at hW1;unfold RcV.val;go_wp2_with fail;rw[<- hW1];replace hW1:=Zq hW1;refine a1.out.mono ?_;rintro e' w2 ⟨rfl,k2⟩;have K2:Hid (Keep W0 w2):=K1.out.trans k2;replace k2:=Zq k2;clear a1;have a2:=Zq (aw.out w2 K2.out);go_wp2_with fail;refine a2.out.mono ?_;rintro e' w3 ⟨rfl,k3⟩;replace k3:=Zq k3;go_wp2;go_ret
  exact⟨rfl,K0.out.trans (K2.out.trans k3.out)⟩
 ·obtain⟨W1,hW1⟩:=Zn (w1.alloc (.cells x.arr 30))
  have K1:Hid (Keep W0 W1):=by rw[hW1];exact k1.alloc _
  replace k1:=Zq k1;replace ST:=Zq (ST.keep C (show Keep w1 W1 by rw[hW1];exact Keep.one _ _))
  replace hM:=Zq hM;replace hL:=Zq hL;have BX:Hid (W1.heap[w1.heap.size]?=some (.cells x.arr 30 (0,0))):=by rw[hW1];exact heap_alloc_new _ _
  have a1:=Zq (aw.out W1 K1.out);unfold RcV.arr at hW1;unfold RcV.val;go_wp2_with fail;rw[<- hW1];try replace hW1:=Zq hW1
  refine a1.out.mono ?_;rintro e' w2 ⟨rfl,k2⟩;have K2:Hid (Keep W0 w2):=K1.out.trans k2;replace ST:=Zq (ST.out.keep C k2);replace BX:Hid (w2.heap[w1.heap.size]?=some (.cells x.arr 30 (0,0))):=Keep.block k2 BX.out;replace k2:=Zq k2;obtain⟨bx,hbx⟩:=Zn (w1.heap.size);rw[<- hbx] at BX ⊢;replace hbx:=Zq hbx;clear a1;have X0:=zae (Keep.block K2.out BP.out);have x0:=X0.e0;have x1:=X0.e1;have x2:=X0.e2;have x3:=X0.e3;have x4:=X0.e4;have x5:=X0.e5;have x6:=X0.e6;have x7:=X0.e7;have x8:=X0.e8;clear X0;obtain⟨W3,hW3⟩:=Zn (w2.alloc (.cells (zac p) 26));have B3:Hid (W3.heap[w2.heap.size]?=some (.cells (zac p) 26 (0,0))):=by rw[hW3];exact heap_alloc_new _ _
  have k23:Hid (Keep w2 W3):=by rw[hW3];exact Keep.one _ _
  have K3:Hid (Keep W0 W3):=K2.out.trans k23.out;replace ST:=Zq (ST.out.keep C k23.out);replace BX:Hid (W3.heap[bx]?=some (.cells x.arr 30 (0,0))):=Keep.block k23.out BX.out;obtain⟨fb,hfb⟩:=zhx p;have cF:=Zq (zif (some ⟨w2.heap.size,0,none⟩) 1 1 (fun _=>p) W3 (zff B3.out (px0.out.keep K3.out)) fb hfb)
  unfold zac at hW3;replace hfb:=Zq hfb;go_wp2_with fail;rw[<- hW3];replace hW3:=Zq hW3;refine cF.out.mono ?_;rintro e' w4 ⟨rfl,rfl⟩;clear x0 x1 x2 x3 x4 x5 x6 x7 x8 cF;cases fb with
  | false =>
    have a2:=Zq (aw.out W3 K3.out);go_wp2_with fail;refine a2.out.mono ?_;rintro e' w5 ⟨rfl,k5⟩;replace k5:=Zq k5;go_wp2;go_ret
    exact⟨rfl,K0.out.trans (K3.out.trans k5.out)⟩
  | true =>
    have fx:=Zq (hfb.out.1 rfl);have hb:-1073741824<=p.p/\p.p<=1073741824/\p.m<=20:=fx.out.2 0 (by omega)
    have l100:Hid (L.length<=100):=Nat.le_trans hL.out.1 (by omega)
    have m100:Hid (M.length<=100):=Nat.le_trans hM.out (by omega)
    have pm:Hid (p.m<=1000):=Nat.le_trans hb.2.2 (by omega)
    have prb:Hid (PrB L):=hL.out.2;replace hb:=Zq hb;replace hnd:=Zq hnd;have KF:Hid (∀ Wz,Keep W3 Wz->CS W0 2 q M L X Wz/\zbk Wz/\zah Wz p/\St CS W0 2 q M L X Wz x Q P):=fun Wz kk=>⟨C.keep ST.out.o kk,hg0.out.keep (K3.out.trans kk),px0.out.keep (K3.out.trans kk),ST.out.keep C kk⟩
    obtain⟨pb,hpb⟩:=Zn (zek p nd M L 2);obtain⟨vl,hvl⟩:=Zn (if pb=true then zct p nd M L 2 else[])
    have cO:Hid (∀ Wz,Keep W3 Wz->Calls Tryz.prog 11 #[.pointer (some ⟨q,0,none⟩),p.val,.int .i64 nd] Wz fun e w'=>∃ A c P,e=.returned (.tuple #[.slice A vl.length c,.bool pb])/\zai w' A vl.length P/\(T13.lst P vl.length).map nm=vl/\(A=none->vl.length=0/\c=0)/\Keep Wz w'):=fun Wz kk=>by
     obtain⟨k1,k2,k3,_⟩:=KF.out Wz kk;refine(F.of p nd k1 k2 k3 hnd.out (by omega) pm.out m100.out l100.out prb.out).mono ?_
     rintro e w' ⟨v,he,⟨A,c,P,e2,h1,h2,h3⟩,k⟩;rw[<- hpb] at he e2 h1 h2 h3;rw[<- hvl] at e2 h1 h2 h3;subst e2;exact⟨A,c,P,he,h1,h2,h3,k⟩
    have cR:Hid (∀ Wz v,pb=true->vl=zct p nd M L 2->Keep W3 Wz->zbv Wz v (keys vl)->vl.length<=100->Calls Tryz.prog 19 #[x.val,p.val,.int .i64 nd,v] Wz fun e w'=>e=.returned (.bool true)/\Keep Wz w'):=fun Wz v hpt hve kk hv hl=>by
     obtain⟨_,_,k3,k4⟩:=KF.out Wz kk;have h:=zxa C k4 (by omega) l100.out p k3 nd (keys vl) v hv (by rw[zdf];exact hl)
     rw[hve,ztl (C.ok ST.out.o) (hpb.symm.trans hpt)] at h;exact h
    have cM:Hid (∀ Wz vA vc vP,pb=true->vl=zct p nd M L 2->Keep W3 Wz->zai Wz vA vl.length vP->keys (T13.lst vP vl.length)=keys vl->(vA=none->vl.length=0/\vc=0)->vl.length<=100->Calls Tryz.prog 20 #[.pointer (some ⟨q,0,none⟩),p.val,.int .i64 nd,.slice vA vl.length vc] Wz fun e w'=>e=.returned (.bool true)/\Keep Wz w'):=fun Wz vA vc vP hpt hve kk hv hk hn hl=>by
     obtain⟨k1,k2,k3,_⟩:=KF.out Wz kk;have h:=F.minimal p nd vA vl.length vc vP k1 k2 k3 hnd.out (by omega) pm.out m100.out l100.out hv hn hl
     rw[hk,show keys vl=keys (zct p nd M L 2) by rw[hve],ztl (C.ok ST.out.o) (hpb.symm.trans hpt)] at h
     exact h
    obtain⟨fz,hfz⟩:=Zn (zdn p nd M L 2 no);have cG:Hid (∀ Wz,Keep W3 Wz->Calls Tryz.prog 21 #[x.val,p.val,.int .i64 nd,.slice none 0 0] Wz fun e w'=>e=.returned (.bool fz)/\Keep Wz w'):=fun Wz kk=>by
     obtain⟨_,_,k3,k4⟩:=KF.out Wz kk;rw[hfz];exact zjv C k4 (by omega) l100.out p k3 nd none 0 0 no (zcq.nil _ _)
    have NO:Hid (pb=true->vl=zct p nd M L 2->((vl.length:Int)== 0)=fz):=fun hpt hve=>by
     have h:=alu (C.ok ST.out.o) (hpb.symm.trans hpt);rw[hfz,<- h,hve,Bool.eq_iff_iff,beq_iff_eq,decide_eq_true_iff];omega
    have bb:(fz == fz)=true:=by cases fz<;>rfl
    replace hpb:=Zq hpb;replace hvl:=Zq hvl;replace hfz:=Zq hfz;unfold zaa.val at cR cM cG;unfold RcV.val at cR cG;unfold zaa.val at cO;have X0:=zae (Keep.block K3.out BP.out);have p0:=X0.e0;have p1:=X0.e1;have p2:=X0.e2;have p3:=X0.e3;have p4:=X0.e4;have p5:=X0.e5;have p6:=X0.e6;have p7:=X0.e7;have p8:=X0.e8;clear X0;have cc:=Zq (cO.out W3 (Keep.refl _));go_wp2_with fail;clear p0 p1 p2 p3 p4 p5 p6 p7 p8;refine cc.out.mono ?_;rintro e' w5 ⟨vA,vc,vP,rfl,VR,VE,VN,k5⟩;have K5:Hid (Keep W3 w5):=k5;replace k5:=Zq k5;replace VR:=Zq VR;replace VE:=Zq VE;replace VN:=Zq VN;clear cc;cases pb with
    | false =>
      have hz:vl.length=0:=by rw[hvl.out];rfl
      rw[hz];go_wp2;go_ret
      exact⟨rfl,K0.out.trans (K3.out.trans K5.out)⟩
    | true =>
      have ve:vl=zct p nd M L 2:=by rw[hvl.out];rfl
      have VL:Hid (vl.length<=100/\keys (T13.lst vP vl.length)=keys vl/\∀ j,j<vl.length->(vP j).p<p.p/\(vP j).h=3/\(vP j).d=nd):=by
       refine⟨?_,by rw[<- zbq,VE.out],fun j hj=>?_⟩
       ·rw[ve]
        exact Nat.le_trans zqu l100.out
       ·have h:nm (vP j)∈vl:=by
         rw[<- VE.out];exact List.mem_map_of_mem (lst_mem.2 ⟨j,hj,rfl⟩)
        rw[ve] at h;exact zqv (y:=nm (vP j)) h
      have no:=NO.out rfl ve;have cR2:Hid (∀ Wz v,Keep W3 Wz->zbv Wz v (keys vl)->_):=fun Wz v kk hv=>cR.out Wz v rfl ve kk hv VL.out.1
      have cM2:Hid (∀ Wz,Keep w5 Wz->_):=fun Wz kk=>cM.out Wz vA vc vP rfl ve (K5.out.trans kk) (VR.out.keep kk) VL.out.2.1 VN.out VL.out.1
      obtain⟨n,hn⟩:=Zn (vl.length);have n100:n<=100:=by rw[hn];exact VL.out.1
      have cI:=zie vA vl.length vc vP w5 VR.out (by omega)
      rw[VL.out.2.1] at cI;rw[<- hn] at no cM2 cI VR VL ⊢;replace ve:=Zq ve;replace hn:=Zq hn;replace no:=Zq no;replace cI:=Zq cI;clear cR cM;go_wp2_with fail;refine cI.out.mono ?_;rintro e' w6 ⟨v6,rfl,i6,k6⟩;have K6:Hid (Keep w5 w6):=k6;replace k6:=Zq k6;replace i6:=Zq i6;clear cI;go_wp2
      go_loopg [14] n (fun gx s14 wr=>∃ j:Nat,j<=n/\gx=n - j/\s14=.int .i64 j/\Hid (Keep w6 wr))
      case atStart=>exact⟨0,Nat.zero_le _,rfl,rfl,Keep.refl _⟩
      case round =>
       obtain⟨j,hj,rfl,rfl,KR⟩:=hrel
       by_cases hlt:j<n
       ·obtain⟨b,off,hA,ca⟩:=(VR.out.keep (K6.out.trans KR.out)).adr (by omega)
        subst hA;have q1:=zar b off n vc j hlt;have Y:=ca j hlt;obtain⟨l1,l2,l3⟩:=VL.out.2.2 j hlt;clear ca;generalize vP j=y at Y l1 l2 l3;have y1:=Y.e1;have y6:=Y.e6;have y7:=Y.e7;rw[l2] at y6;rw[l3] at y7;clear Y;have p1:=(zae (Keep.block (K3.out.trans (K5.out.trans (K6.out.trans KR.out))) BP.out)).e1;have d1:decide (p.p<=y.p)=false:=decide_eq_false (by omega)
        have d3:(nd != nd)=false:=by simp
        have KN:Hid (∀ z,Keep w6 (wr.drewN z)):=fun z=>KR.out.drewN z
        replace l1:=Zq l1;replace l2:=Zq l2;replace l3:=Zq l3;go_wp2
        go_quiet (fail)
        go_wp2;go_roundg (n - (j+1))
        case measure=>omega
        case rel=>exact⟨j+1,hlt,rfl,by go_num,by first | exact KN.out _ | exact KR.out⟩
       ·obtain rfl:j=n:=by omega
        have KX:Hid (Keep w5 wr):=K6.out.trans KR.out;have no:=no.out;have X0:=zae (Keep.block (K3.out.trans (K5.out.trans KX.out)) BP.out);have p0:=X0.e0;have p1:=X0.e1;have p2:=X0.e2;have p3:=X0.e3;have p4:=X0.e4;have p5:=X0.e5;have p6:=X0.e6;have p7:=X0.e7;have p8:=X0.e8;clear X0;obtain⟨c0,c1,c2,_⟩:=zab (Keep.block (K5.out.trans KX.out) BX.out);have cc:=Zq (cR2.out wr v6 (K5.out.trans KX.out) (zbv.keep i6.out KR.out));go_wp2_with fail;clear c0 c1 c2 p0 p1 p2 p3 p4 p5 p6 p7 p8;refine cc.out.mono ?_;rintro e' w7 ⟨rfl,k7⟩;have K7:Hid (Keep w5 w7):=KX.out.trans k7;replace k7:=Zq k7;clear cc;have X0:=zae (Keep.block (K3.out.trans (K5.out.trans K7.out)) BP.out);have p0:=X0.e0;have p1:=X0.e1;have p2:=X0.e2;have p3:=X0.e3;have p4:=X0.e4;have p5:=X0.e5;have p6:=X0.e6;have p7:=X0.e7;have p8:=X0.e8;clear X0;have cc:=Zq (cM2.out w7 K7.out);go_wp2_with fail;clear p0 p1 p2 p3 p4 p5 p6 p7 p8;refine cc.out.mono ?_;rintro e' w8 ⟨rfl,k8⟩;have K8:Hid (Keep w5 w8):=K7.out.trans k8;replace k8:=Zq k8;clear cc;have X0:=zae (Keep.block (K3.out.trans (K5.out.trans K8.out)) BP.out);have p0:=X0.e0;have p1:=X0.e1;have p2:=X0.e2;have p3:=X0.e3;have p4:=X0.e4;have p5:=X0.e5;have p6:=X0.e6;have p7:=X0.e7;have p8:=X0.e8;clear X0;obtain⟨c0,c1,c2,_⟩:=zab (Keep.block (K5.out.trans K8.out) BX.out);have cc:=Zq (cG.out w8 (K5.out.trans K8.out));go_wp2_with fail;clear c0 c1 c2 p0 p1 p2 p3 p4 p5 p6 p7 p8;refine cc.out.mono ?_;rintro e' w9 ⟨rfl,k9⟩;replace k9:=Zq k9;clear cc;go_wp2;go_ret
        exact⟨rfl,K0.out.trans (K3.out.trans (K5.out.trans (K8.out.trans k9.out)))⟩
end Go.Proofs.YtcogiogjpbkeaaaGreatDoor.T18
