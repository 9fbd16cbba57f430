/-
  The law of P17.4: each node has a reason or is among those on which the pod fits. Condition: errors.errorType holds its own.
-/
import Derived.Test.YtihjgcibpfajkaaGreatDoorD18
namespace Go.Proofs.YtihjgcibpfajkaaGreatDoor.T17
open Go.RowKit Go.Sort Go.Lib V12 T13 T14 T15 T16
set_option maxRecDepth 100000 in
set_option maxHeartbeats 16000000 in
theorem par_walk{CS:zba}(C:Con CS)(N:zga CS)(F:zik CS)(HA:ziv)(A:Option Addr)(n c:Nat)(Pn:Nat→C14.NdC)(B:Option Addr)(m e:Nat)(Pp:Nat→PlV)(p:zaa)(w:World)(hN:C14.RdC w A n Pn)(hP:zkz w B m Pp)(hpx:zaf w p)(hg:zaw w):Calls Tryz.prog 3 #[.slice A n c,.slice B m e,p.val] w fun e w'=>e=.returned (.bool true)∧Keep w w':=by
 have mixed:Tryz.prog.follows .mixedOrders=true:=by kernel_rfl
 obtain⟨W0,hW0⟩:∃ W0,W0=w.alloc (.cells (zab p) 26):=⟨_,rfl⟩;have K0:Hid (Keep w W0):=by rw[hW0];exact Keep.one _ _
 have BP:Hid (W0.heap[w.heap.size]?=some (.cells (zab p) 26 (0,0))):=by rw[hW0];exact heap_alloc_new _ _
 obtain⟨bp,hbp⟩:∃ b,b=w.heap.size:=⟨_,rfl⟩;rw[← hbp] at BP;have hg0:Hid (zaw W0):=hg.keep K0.out;have cB:=Lib.hid (zgn C N A n c Pn B m e Pp W0 (hN.keep K0.out) (hP.keep K0.out) hg0.out);have aw:Hid (∀ W2,Keep W0 W2→Calls Tryz.prog 8 #[] W2 fun e w'=>e=.returned (.bool true)∧Keep W2 w'):=fun W2 k=>HA W2 (hg0.out.keep k)
 have px0:=hpx.keep K0.out;replace hN:=Lib.hid hN;replace hP:=Lib.hid hP;replace hg:=Lib.hid hg;replace hpx:=Lib.hid hpx;replace px0:=Lib.hid px0;unfold zab at hW0;unfold zaa.val
 go_enter Tryz.func3,Tryz.ntmps3
 go_wp2_with fail;rw[← hW0,← hbp];replace hW0:=Lib.hid hW0;replace hbp:=Lib.hid hbp;refine cB.out.mono ?_;rintro e' w1 ⟨k1,⟨x,rfl⟩ | ⟨q,M,L,X,x,Q,P,rfl,ST,hM,hL⟩⟩
 ·obtain⟨W1,hW1⟩:∃ W1,W1=w1.alloc (.cells x.arr 30):=⟨_,rfl⟩
  have K1:Hid (Keep W0 W1):=by rw[hW1];exact k1.alloc _
  replace k1:=Lib.hid k1;have a1:=Lib.hid (aw.out W1 K1.out);unfold RcV.arr at hW1;unfold RcV.val;go_wp2_with fail;rw[← hW1];replace hW1:=Lib.hid hW1;refine a1.out.mono ?_;rintro e' w2 ⟨rfl,k2⟩;have K2:Hid (Keep W0 w2):=K1.out.trans k2;replace k2:=Lib.hid k2;clear a1;have a2:=Lib.hid (aw.out w2 K2.out);go_wp2_with fail;refine a2.out.mono ?_;rintro e' w3 ⟨rfl,k3⟩;replace k3:=Lib.hid k3;go_wp2;go_ret
  exact⟨rfl,K0.out.trans (K2.out.trans k3.out)⟩
 ·obtain⟨W1,hW1⟩:∃ W1,W1=w1.alloc (.cells x.arr 30):=⟨_,rfl⟩
  have K1:Hid (Keep W0 W1):=by rw[hW1];exact k1.alloc _
  replace k1:=Lib.hid k1;replace ST:=Lib.hid (ST.keep C (show Keep w1 W1 by rw[hW1];exact Keep.one _ _))
  replace hM:=Lib.hid hM;replace hL:=Lib.hid hL;have BX:Hid (W1.heap[w1.heap.size]?=some (.cells x.arr 30 (0,0))):=by rw[hW1];exact heap_alloc_new _ _
  have a1:=Lib.hid (aw.out W1 K1.out);unfold RcV.arr at hW1;unfold RcV.val;go_wp2_with fail;rw[← hW1];try replace hW1:=Lib.hid hW1
  refine a1.out.mono ?_;rintro e' w2 ⟨rfl,k2⟩;have K2:Hid (Keep W0 w2):=K1.out.trans k2;replace ST:=Lib.hid (ST.out.keep C k2);replace BX:Hid (w2.heap[w1.heap.size]?=some (.cells x.arr 30 (0,0))):=Keep.block k2 BX.out;replace k2:=Lib.hid k2;obtain⟨bx,hbx⟩:∃ b,b=w1.heap.size:=⟨_,rfl⟩;rw[← hbx] at BX ⊢;replace hbx:=Lib.hid hbx;clear a1;have X0:=zah (Keep.block K2.out BP.out);have x0:=X0.e0;have x1:=X0.e1;have x2:=X0.e2;have x3:=X0.e3;have x4:=X0.e4;have x5:=X0.e5;have x6:=X0.e6;have x7:=X0.e7;have x8:=X0.e8;clear X0;obtain⟨W3,hW3⟩:∃ W3,W3=w2.alloc (.cells (zab p) 26):=⟨_,rfl⟩;have B3:Hid (W3.heap[w2.heap.size]?=some (.cells (zab p) 26 (0,0))):=by rw[hW3];exact heap_alloc_new _ _
  have k23:Hid (Keep w2 W3):=by rw[hW3];exact Keep.one _ _
  have K3:Hid (Keep W0 W3):=K2.out.trans k23.out;replace ST:=Lib.hid (ST.out.keep C k23.out);replace BX:Hid (W3.heap[bx]?=some (.cells x.arr 30 (0,0))):=Keep.block k23.out BX.out;obtain⟨fb,hfb⟩:=zgq p;have cF:=Lib.hid (zgz (some ⟨w2.heap.size,0,none⟩) 1 1 (fun _=>p) W3 (zfa B3.out (px0.out.keep K3.out)) fb hfb)
  unfold zab at hW3;replace hfb:=Lib.hid hfb;go_wp2_with fail;rw[← hW3];replace hW3:=Lib.hid hW3;refine cF.out.mono ?_;rintro e' w4 ⟨rfl,rfl⟩;clear x0 x1 x2 x3 x4 x5 x6 x7 x8 cF;cases fb with
  | false =>
    have a2:=Lib.hid (aw.out W3 K3.out);go_wp2_with fail;refine a2.out.mono ?_;rintro e' w5 ⟨rfl,k5⟩;replace k5:=Lib.hid k5;go_wp2;go_ret
    exact⟨rfl,K0.out.trans (K3.out.trans k5.out)⟩
  | true =>
    have fx:=Lib.hid (hfb.out.1 rfl);have hb:-1073741824≤p.p∧p.p≤1073741824∧p.m≤20:=fx.out.2 0 (by omega)
    have l100:Hid (L.length≤100):=Nat.le_trans hL.out (by omega)
    have m100:Hid (M.length≤100):=Nat.le_trans hM.out (by omega)
    have pm:Hid (p.m≤1000):=Nat.le_trans hb.2.2 (by omega)
    replace hb:=Lib.hid hb;have KF:Hid (∀ Wz,Keep W3 Wz→CS W0 2 q M L X Wz∧zaw Wz∧zaf Wz p):=fun Wz kk=>⟨C.keep ST.out.o kk,hg0.out.keep (K3.out.trans kk),px0.out.keep (K3.out.trans kk)⟩
    obtain⟨wv,hwv⟩:∃ z,z=zae p.m p.Z (2:Nat):=⟨_,rfl⟩;have cW:Hid (Calls Tryz.prog 10 #[.slice p.A p.m p.c,.int .i64 2] W3 fun e' w'=>e'=.returned (.int .i64 wv)∧w'=W3):=by rw[hwv];exact zeg p.A p.m p.c p.Z 2 W3 (px0.out.keep K3.out).rd
    have p4:=(zah (Keep.block K3.out BP.out)).e4
    by_cases hw:0≤wv
    ·have hwb:decide (0≤wv)=true:=decide_eq_true hw
     replace hw:=Lib.hid hw;replace hwv:=Lib.hid hwv;go_wp2_with fail;refine cW.out.mono ?_;rintro e' w4 ⟨rfl,h4⟩;rw[h4];clear h4 cW p4;have a2:=Lib.hid (aw.out W3 (K3.out.trans (Keep.refl W3)));go_wp2_with fail;refine a2.out.mono ?_;rintro e' wa ⟨rfl,ka⟩;replace ka:=Lib.hid ka;go_wp2;go_ret
     exact⟨rfl,K0.out.trans (K3.out.trans ((Keep.refl W3).trans ka.out))⟩
    ·have hwb:decide (0≤wv)=false:=decide_eq_false hw
     have hnw:Hid (¬0≤zae p.m p.Z (2:Nat)):=by rw[← hwv];exact hw
     obtain⟨fl,hfl⟩:∃ l,l=zbk p M L 2:=⟨_,rfl⟩;obtain⟨rl,hrl⟩:∃ l,l=zfe p M L 2:=⟨_,rfl⟩;have cN:Hid (∀ Wz,Keep W3 Wz→Calls Tryz.prog 11 #[.pointer (some ⟨q,0,none⟩),p.val] Wz fun e w'=>∃ A c,e=.returned (.slice A (zbk p M L 2).length c)∧Hid (zcv w' (.slice A (zbk p M L 2).length c) (zbk p M L 2))∧Hid (∀ g,(Value.slice A (zbk p M L 2).length c).ownBlock=some g→Wz.heap.size≤g)∧Hid (Keep Wz w')):=fun Wz kk=>by
      obtain⟨k1,k2,k3⟩:=KF.out Wz kk;refine(F.nodes p k1 k2 k3 (by omega) pm.out m100.out l100.out).mono ?_
      rintro e w' ⟨v,he,⟨A,c,e2,hr,hn⟩,ho,k⟩;subst e2;exact⟨A,c,he,⟨A,c,rfl,hr,hn⟩,ho,k⟩
     have cR:Hid (∀ Wz,Keep W3 Wz→Calls Tryz.prog 12 #[.pointer (some ⟨q,0,none⟩),p.val] Wz fun e w'=>∃ A c,e=.returned (.slice A rl.length c)∧Hid (RdP w' A rl.length (zbq rl) (fun j=>zci p (zbq rl j) M L 2))∧Hid (Keep Wz w')):=fun Wz kk=>by
      obtain⟨k1,k2,k3⟩:=KF.out Wz kk;rw[hrl];exact F.reasons p k1 k2 k3 (by omega) pm.out m100.out l100.out
     have cM:Hid (∀ Wz,Keep W3 Wz→Calls Tryz.prog 13 #[.pointer (some ⟨q,0,none⟩)] Wz fun e w'=>∃ A c,e=.returned (.slice A M.length c)∧Hid (Keep Wz w')):=fun Wz kk=>(C.nodes (KF.out Wz kk).1 m100.out).mono fun e w' ⟨A,c,he,_,k⟩=>⟨A,c,he,k⟩
     have cE:Hid (∀ Wz,Keep W3 Wz→Calls Tryz.prog 15 #[.pointer (some ⟨q,0,none⟩),p.val] Wz fun e w'=>e=.returned (.bool (zfy p M 2))∧Keep Wz w'):=fun Wz kk=>by
      obtain⟨k1,k2,k3⟩:=KF.out Wz kk;exact F.ever p k1 k2 k3 (by omega) pm.out m100.out l100.out
     rw[← hfl] at cN;obtain⟨eb,heb⟩:∃ b,b=zfy p M 2:=⟨_,rfl⟩;rw[← heb] at cE;have len:Hid (fl.length+rl.length=M.length∧fl.length≤100∧rl.length≤100):=by rw[hfl,hrl];exact⟨zsl hnw.out,zgr m100.out,znx m100.out⟩
     have lM:=m100.out;have NT:Hid (∀ j,j<rl.length→decide (zbq rl j∈fl)=false∧zci p (zbq rl j) M L 2<2):=fun j hj=>by
      have h:=zdo hj;rw[hrl] at h;obtain⟨h1,h2⟩:=zsm hnw.out h;rw[hfl];rw[← hrl] at h1 h2;exact⟨decide_eq_false h1,h2⟩
     have EV:Hid (eb=false→fl.length=0):=fun e=>by
      rw[hfl]
      by_cases h:zbk p M L 2=[]
      ·rw[h];rfl
      ·have:=zph (C.ok ST.out.o) h
       rw[← heb,e] at this;cases this
     replace hw:=Lib.hid hw;replace hwv:=Lib.hid hwv;replace hfl:=Lib.hid hfl;replace hrl:=Lib.hid hrl;replace heb:=Lib.hid heb;replace lM:=Lib.hid lM;unfold zaa.val at cN cR cE;go_wp2_with fail;refine cW.out.mono ?_;rintro e' w4 ⟨rfl,h4⟩;rw[h4];clear h4 cW p4;have X0:=zah (Keep.block K3.out BP.out);have p0:=X0.e0;have p1:=X0.e1;have p2:=X0.e2;have p3:=X0.e3;have p4:=X0.e4;have p5:=X0.e5;have p6:=X0.e6;have p7:=X0.e7;have p8:=X0.e8;clear X0;have cc:=Lib.hid (cN.out W3 (Keep.refl _));go_wp2_with fail;clear p0 p1 p2 p3 p4 p5 p6 p7 p8;refine cc.out.mono ?_;rintro e' w5 ⟨fA,fc,rfl,RF,_,K5⟩;clear cc;have X0:=zah (Keep.block (K3.out.trans K5.out) BP.out);have p0:=X0.e0;have p1:=X0.e1;have p2:=X0.e2;have p3:=X0.e3;have p4:=X0.e4;have p5:=X0.e5;have p6:=X0.e6;have p7:=X0.e7;have p8:=X0.e8;clear X0;have cc:=Lib.hid (cR.out w5 K5.out);go_wp2_with fail;clear p0 p1 p2 p3 p4 p5 p6 p7 p8;refine cc.out.mono ?_;rintro e' w6 ⟨rA,rc,rfl,RR,k6⟩;have K6:Hid (Keep W3 w6):=K5.out.trans k6.out;have RF6:=Lib.hid (RF.out.keep k6.out);clear cc RF k6;have cc:=Lib.hid (cM.out w6 K6.out);obtain⟨nf,hnf⟩:∃ n,n=fl.length:=⟨_,rfl⟩;obtain⟨nr,hnr⟩:∃ n,n=rl.length:=⟨_,rfl⟩;obtain⟨nm,hnm⟩:∃ n,n=M.length:=⟨_,rfl⟩;rw[← hnf,← hnr] at len;rw[← hnm] at len cc;rw[← hnr] at RR NT;rw[← hnf] at EV;have bf:nf≤100:=len.out.2.1;have br:nr≤100:=len.out.2.2;have w1:wrap64 ((nf:Int)+(nr:Int))=(nf:Int)+(nr:Int):=IntWalk.wrap64_in _ (by omega)
     have ne:(((nf:Int)+(nr:Int)) != (nm:Int))=false:=by have:=len.out.1;simp;omega
     rw[← hnf,← hnr];replace hnf:=Lib.hid hnf;replace hnr:=Lib.hid hnr;replace hnm:=Lib.hid hnm;go_wp2_with fail;refine cc.out.mono ?_;rintro e' w7 ⟨mA,mc,rfl,k7⟩;have K7:Hid (Keep W3 w7):=K6.out.trans k7.out;have RF7:=Lib.hid (RF6.out.keep k7.out);have RR7:=Lib.hid (RR.out.keep k7.out);clear cc RF6 RR k7;generalize hwo:w7=wo at *;clear hwo;go_wp2
     go_loopg [11] nr (fun gx s11 wr=>∃ j:Nat,j≤nr∧gx=nr - j∧s11=.int .i64 j∧Hid (Keep wo wr))
     case atStart=>exact⟨0,Nat.zero_le _,rfl,rfl,Keep.refl _⟩
     case round =>
      clear w1 ne;obtain⟨j,hj,rfl,rfl,KR⟩:=hrel
      by_cases hlt:j<nr
      ·obtain⟨b,off,rfl,ca⟩:=(RR7.out.keep KR.out).adr (by omega)
       obtain⟨c0,c1⟩:=ca j hlt;have C1:Hid (∀ Wz,Keep wr Wz→Wz.cell? ⟨b,off+j * 2+1,none⟩=some (.int .i64 ((zci p (zbq rl j) M L 2:Nat):Int))):=fun Wz kk=>kk.cell c1
       obtain⟨x,hx⟩:∃ x,x=zbq rl j:=⟨_,rfl⟩;obtain⟨y,hy⟩:∃ y,y=zci p (zbq rl j) M L 2:=⟨_,rfl⟩;obtain⟨n1,n2⟩:=NT.out j hlt;rw[← hx] at c0 n1;rw[← hy] at C1 n2;have y0:decide ((y:Int)<0)=false:=decide_eq_false (by omega)
       have y1:decide ((1:Int)<(y:Int))=false:=decide_eq_false (by omega)
       have cc:=Lib.hid (zmx (RF7.out.keep KR.out) x);rw[n1,← hnf.out] at cc;replace n1:=Lib.hid n1;replace n2:=Lib.hid n2;replace hx:=Lib.hid hx;replace hy:=Lib.hid hy;clear ca c1;go_wp2_with fail;refine cc.out.mono ?_;rintro e' w8 ⟨rfl,k8⟩;have d1:=C1.out w8 k8;have KN:Hid (Keep wo w8):=KR.out.trans k8;replace k8:=Lib.hid k8;clear cc c0;go_wp2;go_roundg (nr - (j+1))
       case measure=>omega
       case rel=>exact⟨j+1,hlt,rfl,by go_num,KN.out⟩
      ·obtain rfl:j=nr:=by omega
       have KE:Hid (Keep W3 wr):=K7.out.trans KR.out;have cc:=Lib.hid (cE.out wr KE.out);have X0:=zah (Keep.block (K3.out.trans KE.out) BP.out);have p0:=X0.e0;have p1:=X0.e1;have p2:=X0.e2;have p3:=X0.e3;have p4:=X0.e4;have p5:=X0.e5;have p6:=X0.e6;have p7:=X0.e7;have p8:=X0.e8;clear X0;cases eb with
       | true =>
         go_wp2_with fail;clear p0 p1 p2 p3 p4 p5 p6 p7 p8;refine cc.out.mono ?_;rintro e' w8 ⟨rfl,k8⟩;replace k8:=Lib.hid k8;go_wp2;go_ret
         exact⟨rfl,K0.out.trans (K3.out.trans (KE.out.trans k8.out))⟩
       | false =>
         obtain rfl:nf=0:=EV.out rfl;go_wp2_with fail;clear p0 p1 p2 p3 p4 p5 p6 p7 p8;refine cc.out.mono ?_;rintro e' w8 ⟨rfl,k8⟩;replace k8:=Lib.hid k8;go_wp2;go_ret
         exact⟨rfl,K0.out.trans (K3.out.trans (KE.out.trans k8.out))⟩
end Go.Proofs.YtihjgcibpfajkaaGreatDoor.T17
