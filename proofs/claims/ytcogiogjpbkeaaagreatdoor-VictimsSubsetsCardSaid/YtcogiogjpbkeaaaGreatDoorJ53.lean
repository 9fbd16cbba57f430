/-
  The law of P18.4: no proper part of the victims is enough. Condition: errors.errorType holds its own.
-/
import Derived.Test.YtcogiogjpbkeaaaGreatDoorJ0
import Derived.Test.YtcogiogjpbkeaaaGreatDoorJ40
namespace Go.Proofs.YtcogiogjpbkeaaaGreatDoor.T18
open Go.RowKit Go.Sort Go.Lib V12 T13 T14 T15 T16 T17
set_option maxRecDepth 100000 in
set_option maxHeartbeats 16000000 in
theorem subv_walk{CS:zbn}(C:Con CS)(N:zhj CS)(F:zoa CS)(FL:zqz CS)(HA:zkf)(A:Option Addr)(n c:Nat)(Pn:Nat->C14.NdC)(B:Option Addr)(m e:Nat)(Pp:Nat->PlV)(p:zaa)(nd mk:Int)(w:World)(hN:C14.RdC w A n Pn)(hP:zob w B m Pp)(hpx:zah w p)(hg:zbk w)(hnd:I64 nd)(hmk:0<=mk/\mk<=65535):Calls Tryz.prog 6 #[.slice A n c,.slice B m e,p.val,.int .i64 nd,.int .u16 mk] w fun e w'=>e=.returned (.bool true)/\Keep w w':=by
 have mixed:Tryz.prog.follows .mixedOrders=true:=by kernel_rfl
 obtain⟨W0,hW0⟩:=Zn (w.alloc (.cells (zac p) 26));have K0:Hid (Keep w W0):=by rw[hW0];exact Keep.one _ _
 have BP:Hid (W0.heap[w.heap.size]?=some (.cells (zac p) 26 (0,0))):=by rw[hW0];exact heap_alloc_new _ _
 obtain⟨bp,hbp⟩:=Zn (w.heap.size);rw[<- hbp] at BP;have hg0:Hid (zbk W0):=hg.keep K0.out;have cB:=Zq (zgj C N A n c Pn B m e Pp W0 (hN.keep K0.out) (hP.keep K0.out) hg0.out);have aw:Hid (∀ W2,Keep W0 W2->Calls Tryz.prog 9 #[] W2 fun e w'=>e=.returned (.bool true)/\Keep W2 w'):=fun W2 k=>HA W2 (hg0.out.keep k)
 have px0:=hpx.keep K0.out;replace hN:=Zq hN;replace hP:=Zq hP;replace hg:=Zq hg;replace hpx:=Zq hpx;replace px0:=Zq px0;unfold zac at hW0;unfold zaa.val
 go_enter Tryz.func6,Tryz.ntmps6
 go_wp2_with fail;rw[<- hW0,<- hbp];replace hW0:=Zq hW0;replace hbp:=Zq hbp;refine cB.out.mono ?_;rintro e' w1 ⟨k1,⟨x,rfl⟩ | ⟨q,M,L,X,x,Q,P,rfl,ST,hM,hL⟩⟩
 ·obtain⟨W1,hW1⟩:=Zn (w1.alloc (.cells x.arr 30))
  have K1:Hid (Keep W0 W1):=by rw[hW1];exact k1.alloc _
  replace k1:=Zq k1;have a1:=Zq (aw.out W1 K1.out);unfold RcV.arr at hW1;unfold RcV.val;go_wp2_with fail;rw[<- hW1];replace hW1:=Zq hW1;refine a1.out.mono ?_;rintro e' w2 ⟨rfl,k2⟩;have K2:Hid (Keep W0 w2):=K1.out.trans k2;replace k2:=Zq k2;clear a1;have a2:=Zq (aw.out w2 K2.out);go_wp2_with fail;refine a2.out.mono ?_;rintro e' w3 ⟨rfl,k3⟩;replace k3:=Zq k3;go_wp2;go_ret
  exact⟨rfl,K0.out.trans (K2.out.trans k3.out)⟩
 ·obtain⟨W1,hW1⟩:=Zn (w1.alloc (.cells x.arr 30))
  have K1:Hid (Keep W0 W1):=by rw[hW1];exact k1.alloc _
  replace k1:=Zq k1;replace ST:=Zq (ST.keep C (show Keep w1 W1 by rw[hW1];exact Keep.one _ _))
  replace hM:=Zq hM;replace hL:=Zq hL;have BX:Hid (W1.heap[w1.heap.size]?=some (.cells x.arr 30 (0,0))):=by rw[hW1];exact heap_alloc_new _ _
  have a1:=Zq (aw.out W1 K1.out);unfold RcV.arr at hW1;unfold RcV.val;go_wp2_with fail;rw[<- hW1];try replace hW1:=Zq hW1
  refine a1.out.mono ?_;rintro e' w2 ⟨rfl,k2⟩;have K2:Hid (Keep W0 w2):=K1.out.trans k2;replace ST:=Zq (ST.out.keep C k2);replace BX:Hid (w2.heap[w1.heap.size]?=some (.cells x.arr 30 (0,0))):=Keep.block k2 BX.out;replace k2:=Zq k2;obtain⟨bx,hbx⟩:=Zn (w1.heap.size);rw[<- hbx] at BX ⊢;replace hbx:=Zq hbx;clear a1;have X0:=zae (Keep.block K2.out BP.out);have x0:=X0.e0;have x1:=X0.e1;have x2:=X0.e2;have x3:=X0.e3;have x4:=X0.e4;have x5:=X0.e5;have x6:=X0.e6;have x7:=X0.e7;have x8:=X0.e8;clear X0;obtain⟨W3,hW3⟩:=Zn (w2.alloc (.cells (zac p) 26));have B3:Hid (W3.heap[w2.heap.size]?=some (.cells (zac p) 26 (0,0))):=by rw[hW3];exact heap_alloc_new _ _
  have k23:Hid (Keep w2 W3):=by rw[hW3];exact Keep.one _ _
  have K3:Hid (Keep W0 W3):=K2.out.trans k23.out;replace ST:=Zq (ST.out.keep C k23.out);replace BX:Hid (W3.heap[bx]?=some (.cells x.arr 30 (0,0))):=Keep.block k23.out BX.out;obtain⟨fb,hfb⟩:=zhx p;have cF:=Zq (zif (some ⟨w2.heap.size,0,none⟩) 1 1 (fun _=>p) W3 (zff B3.out (px0.out.keep K3.out)) fb hfb)
  unfold zac at hW3;replace hfb:=Zq hfb;go_wp2_with fail;rw[<- hW3];replace hW3:=Zq hW3;refine cF.out.mono ?_;rintro e' w4 ⟨rfl,rfl⟩;clear x0 x1 x2 x3 x4 x5 x6 x7 x8 cF;cases fb with
  | false =>
    have a2:=Zq (aw.out W3 K3.out);go_wp2_with fail;refine a2.out.mono ?_;rintro e' w5 ⟨rfl,k5⟩;replace k5:=Zq k5;go_wp2;go_ret
    exact⟨rfl,K0.out.trans (K3.out.trans k5.out)⟩
  | true =>
    have fx:=Zq (hfb.out.1 rfl);have hb:-1073741824<=p.p/\p.p<=1073741824/\p.m<=20:=fx.out.2 0 (by omega)
    have l100:Hid (L.length<=100):=Nat.le_trans hL.out.1 (by omega)
    have m100:Hid (M.length<=100):=Nat.le_trans hM.out (by omega)
    have pm:Hid (p.m<=1000):=Nat.le_trans hb.2.2 (by omega)
    have prb:Hid (PrB L):=hL.out.2;replace hb:=Zq hb;replace hnd:=Zq hnd;have KF:Hid (∀ Wz,Keep W3 Wz->CS W0 2 q M L X Wz/\zbk Wz/\zah Wz p/\St CS W0 2 q M L X Wz x Q P):=fun Wz kk=>⟨C.keep ST.out.o kk,hg0.out.keep (K3.out.trans kk),px0.out.keep (K3.out.trans kk),ST.out.keep C kk⟩
    obtain⟨pb,hpb⟩:=Zn (zek p nd M L 2);obtain⟨vl,hvl⟩:=Zn (if pb=true then zct p nd M L 2 else[])
    have cO:Hid (∀ Wz,Keep W3 Wz->Calls Tryz.prog 11 #[.pointer (some ⟨q,0,none⟩),p.val,.int .i64 nd] Wz fun e w'=>∃ A c P,e=.returned (.tuple #[.slice A vl.length c,.bool pb])/\zai w' A vl.length P/\(T13.lst P vl.length).map nm=vl/\(A=none->vl.length=0/\c=0)/\Keep Wz w'):=fun Wz kk=>by
     obtain⟨k1,k2,k3,_⟩:=KF.out Wz kk;refine(F.of p nd k1 k2 k3 hnd.out (by omega) pm.out m100.out l100.out prb.out).mono ?_
     rintro e w' ⟨v,he,⟨A,c,P,e2,h1,h2,h3⟩,k⟩;rw[<- hpb] at he e2 h1 h2 h3;rw[<- hvl] at e2 h1 h2 h3;subst e2;exact⟨A,c,P,he,h1,h2,h3,k⟩
    have cG:Hid (∀ Wz A n c O,Keep W3 Wz->zcq Wz A n O->zdn p nd M L 2 O=false->Calls Tryz.prog 21 #[x.val,p.val,.int .i64 nd,.slice A n c] Wz fun e w'=>e=.returned (.bool false)/\Keep Wz w'):=fun Wz A n c O kk hs hf=>by
     obtain⟨_,_,k3,k4⟩:=KF.out Wz kk;rw[<- hf];exact zjv C k4 (by omega) l100.out p k3 nd A n c O hs
    have cH:Hid (∀ Wz A n c O,Keep W3 Wz->zcq Wz A n O->n<=200->zdn p nd M L 2 O=false->Calls Tryz.prog 24 #[.pointer (some ⟨q,0,none⟩),p.val,.int .i64 nd,.slice A n c] Wz fun e w'=>e=.returned (.bool false)/\Keep Wz w'):=fun Wz A n c O kk hs hn hf=>by
     obtain⟨k1,k2,k3,_⟩:=KF.out Wz kk;rw[<- hf];exact FL.fits p nd A n c O k1 k2 k3 hnd.out hs hn (by omega) pm.out m100.out l100.out
    replace hpb:=Zq hpb;replace hvl:=Zq hvl;unfold zaa.val at cG cH;unfold RcV.val at cG;unfold zaa.val at cO;have X0:=zae (Keep.block K3.out BP.out);have p0:=X0.e0;have p1:=X0.e1;have p2:=X0.e2;have p3:=X0.e3;have p4:=X0.e4;have p5:=X0.e5;have p6:=X0.e6;have p7:=X0.e7;have p8:=X0.e8;clear X0;have cc:=Zq (cO.out W3 (Keep.refl _));go_wp2_with fail;clear p0 p1 p2 p3 p4 p5 p6 p7 p8;refine cc.out.mono ?_;rintro e' w5 ⟨vA,vc,vP,rfl,VR,VE,VN,k5⟩;have K5:Hid (Keep W3 w5):=k5;replace k5:=Zq k5;replace VR:=Zq VR;replace VE:=Zq VE;replace VN:=Zq VN;clear cc;cases pb with
    | false =>
      go_wp2;go_ret
      exact⟨rfl,K0.out.trans (K3.out.trans K5.out)⟩
    | true =>
      have ve:vl=zct p nd M L 2:=by rw[hvl.out];rfl
      have VL:Hid (vl.length<=100/\keys (T13.lst vP vl.length)=keys vl/\∀ j,j<vl.length->(vP j).p<p.p/\(vP j).h=3/\(vP j).d=nd):=by
       refine⟨?_,by rw[<- zbq,VE.out],fun j hj=>?_⟩
       ·rw[ve]
        exact Nat.le_trans zqu l100.out
       ·have h:nm (vP j)∈vl:=by
         rw[<- VE.out];exact List.mem_map_of_mem (lst_mem.2 ⟨j,hj,rfl⟩)
        rw[ve] at h;exact zqv (y:=nm (vP j)) h
      have PT:Hid (∀ R,zgh (fun t=>(vP t).k) vl.length R->R.length≠vl.length->zdn p nd M L 2 (zci R)=false):=fun R hR hne=>by
       obtain⟨_,_,h3⟩:=hR;obtain⟨i,hi,h3⟩:=h3.resolve_left hne;refine aew (C.ok ST.out.o) (i:=i) (by rw[<- ve];exact hi) fun z hz=>?_
       obtain⟨t,ht,hti,e⟩:=h3 z hz;have e:(vP t).k=z:=e;rw[zsc,<- ve,<- e,<- znb VL.out.2.1 ht];exact zpx (by rw[zdf];exact ht) hti
      obtain⟨n,hn⟩:=Zn (vl.length);have n100:n<=100:=by rw[hn];exact VL.out.1
      rw[<- hn] at VR PT ⊢;replace ve:=Zq ve;replace hn:=Zq hn;replace hmk:=Zq hmk;go_wp2
      go_loopg [15,16] n (fun gx s15 s16 wr=>∃ (j:Nat) (RA:Option Addr) (rc:Nat) (R:List Int),j<=n/\gx=n - j/\s16=.int .i64 j/\s15=.slice RA R.length rc/\R.length<=j/\Hid (zgh (fun t=>(vP t).k) j R)/\Hid (Keep w5 wr)/\Hid (wr.ownsRow w5.heap.size 3 1 (.slice RA R.length rc) R.length (zba R.length (zax R))))
      case atStart=>exact⟨0,none,0,[],Nat.zero_le _,rfl,rfl,rfl,Nat.le_refl _,zgh.nil _,Keep.refl _,World.ownsRow_nil _ _ _ _⟩
      case round =>
       obtain⟨j,RA,rc,R,hj,rfl,rfl,rfl,hRj,PI,KR,RW⟩:=hrel
       by_cases hlt:j<n
       ·obtain⟨b,off,hA,ca⟩:=(VR.out.keep KR.out).adr (by omega)
        subst hA;have q1:=zar b off n vc j hlt;have y0:=(ca j hlt).e0;have hz2:Hid (I64 (vP j).k):=((VR.out.is j hlt).rng.1);have PT2:Hid (zgh (fun t=>(vP t).k) (j+1) (R++[(vP j).k])):=PI.out.take
        have PS2:Hid (zgh (fun t=>(vP t).k) (j+1) R):=PI.out.skip
        clear ca;generalize (vP j).k=z at y0 hz2 PT2;have gsz:Hid (w5.heap.size<=wr.heap.size):=KR.out.size;cases hc:(bits BinOp.and IntKind.u16 (mk / 2 ^ (j % 16)) 1 == 1) with
        | true =>
          go_wp2_with (at_builtin;refine zla Tryz.underlying43 Tryz.infoI16 rfl _ _ rfl w5.heap.size (.slice RA R.length rc) R.length (zba R.length (zax R)) (by simp[Act.eval]) (zal RW.out (Keep.one _ _)) (some ⟨wr.heap.size,0,none⟩) 1 1 (fun _=>z) (by simp[Act.eval]) (zgq (heap_alloc_new _ _) hz2.out) (fun e=>by cases e) (by omega) (by rw[World.size_alloc];have:=gsz.out;omega) (R.length+1) rfl ?_;intro v6 w6 hr6 hg6)
          have K6:Hid (Keep w5 w6):=zad (KR.out.trans (Keep.one _ _)) hg6 (fun q hq=>(RW.out.lt q hq).1)
          obtain⟨B6,d6,hB6,_⟩:=zan hr6;subst hB6;rw[zjq] at hr6;have hl2:(R++[z]).length=R.length+1:=by rw[List.length_append];rfl
          rw[<- hl2] at hr6 ⊢;replace hl2:=Zq hl2;replace hr6:=Zq hr6;replace hg6:=Zq hg6;replace hc:=Zq hc;clear y0 q1;go_wp2;go_roundg (n - (j+1))
          case measure=>omega
          case rel=>exact⟨j+1,B6,d6,R++[z],hlt,rfl,by go_num,rfl,by have:=hl2.out;omega,PT2,K6,hr6⟩
        | false =>
          go_wp2;go_roundg (n - (j+1))
          case measure=>omega
          case rel=>exact⟨j+1,RA,rc,R,hlt,rfl,by go_num,rfl,by omega,PS2,KR,RW⟩
       ·obtain rfl:j=n:=by omega
        by_cases hRn:R.length=j
        ·have e1:((R.length:Int)== (j:Int))=true:=beq_iff_eq.2 (by omega)
         replace hRn:=Zq hRn;go_wp2;go_ret
         exact⟨rfl,K0.out.trans (K3.out.trans (K5.out.trans KR.out))⟩
        ·have e1:((R.length:Int)== (j:Int))=false:=beq_eq_false_iff_ne.2 (by omega)
         have hF:=PT.out R PI.out hRn;have SO:Hid (∀ Wz,Keep wr Wz->zcq Wz RA R.length (zci R)):=fun Wz kk=>by
          obtain⟨A',c',e,h1,_⟩:=own_row RW.out (by omega) fun i hi=>by
           obtain⟨t,ht,e⟩:=PI.out.2.1 (zax R i) (zdo hi);rw[<- e];exact(VR.out.is t ht).rng.1
          cases e
          exact⟨zax R,h1.keep kk,fun k=>⟨fun hk=>zei (of_decide_eq_true hk),fun ⟨i,hi,e⟩=>decide_eq_true (by rw[<- e];exact zdo hi)⟩⟩
         have X0:=zae (Keep.block (K3.out.trans (K5.out.trans KR.out)) BP.out);have p0:=X0.e0;have p1:=X0.e1;have p2:=X0.e2;have p3:=X0.e3;have p4:=X0.e4;have p5:=X0.e5;have p6:=X0.e6;have p7:=X0.e7;have p8:=X0.e8;clear X0;obtain⟨c0,c1,c2,_⟩:=zab (Keep.block (K5.out.trans KR.out) BX.out);have cc:=Zq (cG.out wr RA R.length rc _ (K5.out.trans KR.out) (SO.out wr (Keep.refl _)) hF);have cd:=Zq (fun Wz kk=>cH.out Wz RA R.length rc _ (K5.out.trans (KR.out.trans kk)) (SO.out Wz kk) (by omega) hF)
         replace hF:=Zq hF;replace hRn:=Zq hRn;go_wp2_with fail;clear c0 c1 c2 p0 p1 p2 p3 p4 p5 p6 p7 p8;refine cc.out.mono ?_;rintro e' w7 ⟨rfl,k7⟩;have K7:Hid (Keep wr w7):=k7;replace k7:=Zq k7;clear cc;have X0:=zae (Keep.block (K3.out.trans (K5.out.trans (KR.out.trans K7.out))) BP.out);have p0:=X0.e0;have p1:=X0.e1;have p2:=X0.e2;have p3:=X0.e3;have p4:=X0.e4;have p5:=X0.e5;have p6:=X0.e6;have p7:=X0.e7;have p8:=X0.e8;clear X0;have cc:=Zq (cd.out w7 K7.out);go_wp2_with fail;clear p0 p1 p2 p3 p4 p5 p6 p7 p8;refine cc.out.mono ?_;rintro e' w8 ⟨rfl,k8⟩;replace k8:=Zq k8;clear cc;go_wp2;go_ret
         exact⟨rfl,K0.out.trans (K3.out.trans (K5.out.trans (KR.out.trans (K7.out.trans k8.out))))⟩
end Go.Proofs.YtcogiogjpbkeaaaGreatDoor.T18
