/-
  The law of P18.3: whether pods are just enough is as the reference says. Condition: errors.errorType holds its own.
-/
import Derived.Test.YtcogiogjpbkeaaaGreatDoorJ0
import Derived.Test.YtcogiogjpbkeaaaGreatDoorJ40
namespace Go.Proofs.YtcogiogjpbkeaaaGreatDoor.T18
open Go.RowKit Go.Sort Go.Lib V12 T13 T14 T15 T16 T17
set_option maxRecDepth 100000 in
set_option maxHeartbeats 16000000 in
theorem chkv_walk{CS:zbn}(C:Con CS)(N:zhj CS)(F:zoa CS)(HA:zkf)(A:Option Addr)(n c:Nat)(Pn:Nat->C14.NdC)(B:Option Addr)(m e:Nat)(Pp:Nat->PlV)(p:zaa)(nd:Int)(LA:Option Addr)(ln lc:Nat)(LP:Nat->zaa)(w:World)(hN:C14.RdC w A n Pn)(hP:zob w B m Pp)(hpx:zah w p)(hg:zbk w)(hnd:I64 nd)(hLP:zai w LA ln LP)(hLn:LA=none->ln=0/\lc=0):Calls Tryz.prog 5 #[.slice A n c,.slice B m e,p.val,.int .i64 nd,.slice LA ln lc] w fun e w'=>e=.returned (.bool true)/\Keep w w':=by
 have mixed:Tryz.prog.follows .mixedOrders=true:=by kernel_rfl
 obtain⟨W0,hW0⟩:=Zn (w.alloc (.cells (zac p) 26));have K0:Hid (Keep w W0):=by rw[hW0];exact Keep.one _ _
 have BP:Hid (W0.heap[w.heap.size]?=some (.cells (zac p) 26 (0,0))):=by rw[hW0];exact heap_alloc_new _ _
 obtain⟨bp,hbp⟩:=Zn (w.heap.size);rw[<- hbp] at BP;have hg0:Hid (zbk W0):=hg.keep K0.out;have cB:=Zq (zgj C N A n c Pn B m e Pp W0 (hN.keep K0.out) (hP.keep K0.out) hg0.out);have aw:Hid (∀ W2,Keep W0 W2->Calls Tryz.prog 9 #[] W2 fun e w'=>e=.returned (.bool true)/\Keep W2 w'):=fun W2 k=>HA W2 (hg0.out.keep k)
 have px0:=hpx.keep K0.out;replace hN:=Zq hN;replace hP:=Zq hP;replace hg:=Zq hg;replace hpx:=Zq hpx;replace px0:=Zq px0;unfold zac at hW0;unfold zaa.val
 go_enter Tryz.func5,Tryz.ntmps5
 go_wp2_with fail;rw[<- hW0,<- hbp];replace hW0:=Zq hW0;replace hbp:=Zq hbp;refine cB.out.mono ?_;rintro e' w1 ⟨k1,⟨x,rfl⟩ | ⟨q,M,L,X,x,Q,P,rfl,ST,hM,hL⟩⟩
 ·obtain⟨W1,hW1⟩:=Zn (w1.alloc (.cells x.arr 30))
  have K1:Hid (Keep W0 W1):=by rw[hW1];exact k1.alloc _
  replace k1:=Zq k1;have a1:=Zq (aw.out W1 K1.out);unfold RcV.arr at hW1;unfold RcV.val;go_wp2_with fail;rw[<- hW1];replace hW1:=Zq hW1;refine a1.out.mono ?_;rintro e' w2 ⟨rfl,k2⟩;have K2:Hid (Keep W0 w2):=K1.out.trans k2;replace k2:=Zq k2;clear a1;have a2:=Zq (aw.out w2 K2.out);go_wp2_with fail;refine a2.out.mono ?_;rintro e' w3 ⟨rfl,k3⟩;replace k3:=Zq k3;go_wp2;go_ret
  exact⟨rfl,K0.out.trans (K2.out.trans k3.out)⟩
 ·obtain⟨W1,hW1⟩:=Zn (w1.alloc (.cells x.arr 30))
  have K1:Hid (Keep W0 W1):=by rw[hW1];exact k1.alloc _
  replace k1:=Zq k1;replace ST:=Zq (ST.keep C (show Keep w1 W1 by rw[hW1];exact Keep.one _ _))
  replace hM:=Zq hM;replace hL:=Zq hL;have BX:Hid (W1.heap[w1.heap.size]?=some (.cells x.arr 30 (0,0))):=by rw[hW1];exact heap_alloc_new _ _
  have a1:=Zq (aw.out W1 K1.out);unfold RcV.arr at hW1;unfold RcV.val;go_wp2_with fail;rw[<- hW1];try replace hW1:=Zq hW1
  refine a1.out.mono ?_;rintro e' w2 ⟨rfl,k2⟩;have K2:Hid (Keep W0 w2):=K1.out.trans k2;replace ST:=Zq (ST.out.keep C k2);replace BX:Hid (w2.heap[w1.heap.size]?=some (.cells x.arr 30 (0,0))):=Keep.block k2 BX.out;replace k2:=Zq k2;obtain⟨bx,hbx⟩:=Zn (w1.heap.size);rw[<- hbx] at BX ⊢;replace hbx:=Zq hbx;clear a1;have X0:=zae (Keep.block K2.out BP.out);have x0:=X0.e0;have x1:=X0.e1;have x2:=X0.e2;have x3:=X0.e3;have x4:=X0.e4;have x5:=X0.e5;have x6:=X0.e6;have x7:=X0.e7;have x8:=X0.e8;clear X0;obtain⟨W3,hW3⟩:=Zn (w2.alloc (.cells (zac p) 26));have B3:Hid (W3.heap[w2.heap.size]?=some (.cells (zac p) 26 (0,0))):=by rw[hW3];exact heap_alloc_new _ _
  have k23:Hid (Keep w2 W3):=by rw[hW3];exact Keep.one _ _
  have K3:Hid (Keep W0 W3):=K2.out.trans k23.out;replace ST:=Zq (ST.out.keep C k23.out);replace BX:Hid (W3.heap[bx]?=some (.cells x.arr 30 (0,0))):=Keep.block k23.out BX.out;obtain⟨fb,hfb⟩:=zhx p;have cF:=Zq (zif (some ⟨w2.heap.size,0,none⟩) 1 1 (fun _=>p) W3 (zff B3.out (px0.out.keep K3.out)) fb hfb)
  unfold zac at hW3;replace hfb:=Zq hfb;go_wp2_with fail;rw[<- hW3];replace hW3:=Zq hW3;refine cF.out.mono ?_;rintro e' w4 ⟨rfl,rfl⟩;clear x0 x1 x2 x3 x4 x5 x6 x7 x8 cF;cases fb with
  | false =>
    have a2:=Zq (aw.out W3 K3.out);go_wp2_with fail;refine a2.out.mono ?_;rintro e' w5 ⟨rfl,k5⟩;replace k5:=Zq k5;go_wp2;go_ret
    exact⟨rfl,K0.out.trans (K3.out.trans k5.out)⟩
  | true =>
    have fx:=Zq (hfb.out.1 rfl);have hb:-1073741824<=p.p/\p.p<=1073741824/\p.m<=20:=fx.out.2 0 (by omega)
    have l100:Hid (L.length<=100):=Nat.le_trans hL.out.1 (by omega)
    have m100:Hid (M.length<=100):=Nat.le_trans hM.out (by omega)
    have pm:Hid (p.m<=1000):=Nat.le_trans hb.2.2 (by omega)
    have prb:Hid (PrB L):=hL.out.2;replace hb:=Zq hb;replace hnd:=Zq hnd;have KF:Hid (∀ Wz,Keep W3 Wz->CS W0 2 q M L X Wz/\zbk Wz/\zah Wz p/\St CS W0 2 q M L X Wz x Q P):=fun Wz kk=>⟨C.keep ST.out.o kk,hg0.out.keep (K3.out.trans kk),px0.out.keep (K3.out.trans kk),ST.out.keep C kk⟩
    have hls:=hLP.small
    by_cases hlen:(20:Int)<(ln:Int)
    ·have hlb:decide ((20:Int)<(ln:Int))=true:=decide_eq_true hlen
     replace hlen:=Zq hlen;have a2:=Zq (aw.out W3 K3.out);go_wp2_with fail;refine a2.out.mono ?_;rintro e' w5 ⟨rfl,k5⟩;replace k5:=Zq k5;go_wp2;go_ret
     exact⟨rfl,K0.out.trans (K3.out.trans k5.out)⟩
    ·have hlb:decide ((20:Int)<(ln:Int))=false:=decide_eq_false hlen
     have hl20:ln<=20:=by omega
     have kk0:Hid (∀ Wz,Keep W3 Wz->zai Wz LA ln LP):=fun Wz kk=>hLP.keep (K0.out.trans (K3.out.trans kk))
     obtain⟨I,hI⟩:=Zn (keys (T13.lst LP ln));have hIl:I.length=ln:=by rw[hI,zdf,lst_len]
     obtain⟨rb,hrb⟩:=Zn (zgn (zdn p nd M L 2) I);have cM:Hid (∀ Wz,Keep W3 Wz->Calls Tryz.prog 20 #[.pointer (some ⟨q,0,none⟩),p.val,.int .i64 nd,.slice LA ln lc] Wz fun e w'=>e=.returned (.bool rb)/\Keep Wz w'):=fun Wz kk=>by
      obtain⟨k1,k2,k3,_⟩:=KF.out Wz kk;rw[hrb,hI];exact F.minimal p nd LA ln lc LP k1 k2 k3 hnd.out (by omega) pm.out m100.out l100.out (kk0.out Wz kk) hLn (by omega)
     have cR:Hid (∀ Wz v,Keep W3 Wz->zbv Wz v I->Calls Tryz.prog 19 #[x.val,p.val,.int .i64 nd,v] Wz fun e w'=>e=.returned (.bool rb)/\Keep Wz w'):=fun Wz v kk hv=>by
      obtain⟨_,_,k3,k4⟩:=KF.out Wz kk;rw[hrb];exact zxa C k4 (by omega) l100.out p k3 nd I v hv (by omega)
     have cI:Hid (∀ Wz,Keep W3 Wz->Calls Tryz.prog 18 #[.slice LA ln lc] Wz fun e w'=>∃ v,e=.returned v/\zbv w' v I/\Keep Wz w'):=fun Wz kk=>by
      rw[hI];exact zie LA ln lc LP Wz (kk0.out Wz kk) (by omega)
     have cJ:Hid (∀ Wz,Keep W3 Wz->Calls Tryz.prog 23 #[.slice LA ln lc] Wz fun e w'=>∃ v,e=.returned v/\zbv w' v I/\Keep Wz w'):=fun Wz kk=>by
      rw[hI];exact F.ids LA ln lc LP (kk0.out Wz kk) hLn (by omega)
     have bb:(rb == rb)=true:=by cases rb<;>rfl
     replace hlen:=Zq hlen;replace hI:=Zq hI;replace hIl:=Zq hIl;replace hrb:=Zq hrb;replace hLP:=Zq hLP;replace hLn:=Zq hLn;unfold zaa.val at cM cR;unfold RcV.val at cR;go_upto_region 4 with fail
     have HELD:∀ Wz,Keep W3 Wz->(Wz.cell? ⟨bx,0,none⟩=some (.int .i64 x.d)/\Wz.cell? ⟨bx,1,none⟩=some (.slice x.A x.n x.c)/\Wz.cell? ⟨bx,2,none⟩=some (.slice x.B x.m x.e)/\Wz.cell? ⟨bp,0,none⟩=some (.int .i64 p.k)/\Wz.cell? ⟨bp,1,none⟩=some (.int .i64 p.p)/\Wz.cell? ⟨bp,2,none⟩=some (.bool p.f)/\Wz.cell? ⟨bp,3,none⟩=some (.int .i64 p.g)/\Wz.cell? ⟨bp,4,none⟩=some (.slice p.A p.m p.c)/\Wz.cell? ⟨bp,5,none⟩=some (.int .i64 p.a)/\Wz.cell? ⟨bp,6,none⟩=some (.int .i64 p.h)/\Wz.cell? ⟨bp,7,none⟩=some (.int .i64 p.d)/\Wz.cell? ⟨bp,8,none⟩=some (.int .i64 p.t)):=fun Wz KK=>⟨(zab (Keep.block KK BX.out)).1,(zab (Keep.block KK BX.out)).2.1,(zab (Keep.block KK BX.out)).2.2.1,(zae (Keep.block (K3.out.trans KK) BP.out)).e0,(zae (Keep.block (K3.out.trans KK) BP.out)).e1,(zae (Keep.block (K3.out.trans KK) BP.out)).e2,(zae (Keep.block (K3.out.trans KK) BP.out)).e3,(zae (Keep.block (K3.out.trans KK) BP.out)).e4,(zae (Keep.block (K3.out.trans KK) BP.out)).e5,(zae (Keep.block (K3.out.trans KK) BP.out)).e6,(zae (Keep.block (K3.out.trans KK) BP.out)).e7,(zae (Keep.block (K3.out.trans KK) BP.out)).e8⟩
     refine OrdS.rest_start (fun w'=>w'.cell? ⟨bx,0,none⟩=some (.int .i64 x.d)/\w'.cell? ⟨bx,1,none⟩=some (.slice x.A x.n x.c)/\w'.cell? ⟨bx,2,none⟩=some (.slice x.B x.m x.e)/\w'.cell? ⟨bp,0,none⟩=some (.int .i64 p.k)/\w'.cell? ⟨bp,1,none⟩=some (.int .i64 p.p)/\w'.cell? ⟨bp,2,none⟩=some (.bool p.f)/\w'.cell? ⟨bp,3,none⟩=some (.int .i64 p.g)/\w'.cell? ⟨bp,4,none⟩=some (.slice p.A p.m p.c)/\w'.cell? ⟨bp,5,none⟩=some (.int .i64 p.a)/\w'.cell? ⟨bp,6,none⟩=some (.int .i64 p.h)/\w'.cell? ⟨bp,7,none⟩=some (.int .i64 p.d)/\w'.cell? ⟨bp,8,none⟩=some (.int .i64 p.t)) [] (by kernel_rfl) ?_ (fun hHeld=>?_)
     ·exact HELD _ (Keep.refl W3).drew
     obtain⟨wt0,hwt0⟩:=Zn (W3.drew);have Kwt0:Hid (Keep W3 wt0):=by rw[hwt0];exact(Keep.refl _).drew
     rw[<- hwt0] at hHeld ⊢;replace hwt0:=Zq hwt0;refine OrdS.rt 0 (.pointer (some ⟨q,0,none⟩)) hHeld ?_
     simp only[Act.put,Zp];refine OrdS.rt 1 (.agg #[.int .i64 p.k,.int .i64 p.p,.bool p.f,.int .i64 p.g,.slice p.A p.m p.c,.int .i64 p.a,.int .i64 p.h,.int .i64 p.d,.int .i64 p.t]) hHeld ?_
     simp only[Act.put,Zp];refine OrdS.rt 2 (.int .i64 nd) hHeld ?_
     simp only[Act.put,Zp];refine OrdS.rt 3 (.slice LA ln lc) hHeld ?_
     simp only[Act.put,Zp];refine OrdS.rt 5 (.agg #[.int .i64 x.d,.slice x.A x.n x.c,.slice x.B x.m x.e]) hHeld ?_
     simp only[Act.put,Zp];refine OrdS.rt 6 (.agg #[.int .i64 p.k,.int .i64 p.p,.bool p.f,.int .i64 p.g,.slice p.A p.m p.c,.int .i64 p.a,.int .i64 p.h,.int .i64 p.d,.int .i64 p.t]) hHeld ?_
     simp only[Act.put,Zp];refine OrdS.rt 7 (.int .i64 nd) hHeld ?_
     simp only[Act.put,Zp];refine OrdS.rt 8 (.slice LA ln lc) hHeld ?_
     simp only[Act.put,Zp];refine OrdS.rest_ready (rs:=[4]) (by kernel_rfl) (by simp) ?_
     refine OrdS.Each.cons rfl (fun K hK=>?_) OrdS.Each.nil
     simp only[Zp];rw[if_pos (by rfl)]
     go_simp
     refine(cM.out _ Kwt0.out).mono ?_;rintro e' w5 ⟨rfl,k5⟩;have K5:Hid (Keep W3 w5):=Kwt0.out.trans k5;replace k5:=Zq k5;go_wp2_with fail;refine hK.out _ _ (fun _=>HELD _ K5.out) ?_
     have hHeld:=HELD _ K5.out;clear hK K;try simp only[Act.put,Zp]
     refine OrdS.rest_ready (rs:=[9]) (by kernel_rfl) (by simp) ?_
     refine OrdS.Each.cons rfl (fun K hK=>?_) OrdS.Each.nil
     simp only[Zp];rw[if_pos (by rfl)]
     go_simp
     refine(cI.out _ K5.out).mono ?_;rintro e' w6 ⟨v6,rfl,i6,k6⟩;have K6:Hid (Keep W3 w6):=K5.out.trans k6;replace k6:=Zq k6;have cm:=Zq (cR.out _ v6 K6.out i6);replace i6:=Zq i6;go_wp2_with fail;refine hK.out _ _ (fun _=>HELD _ K6.out) ?_
     have hHeld:=HELD _ K6.out;clear hK K;try simp only[Act.put,Zp]
     refine OrdS.rest_ready (rs:=[10]) (by kernel_rfl) (by simp) ?_
     refine OrdS.Each.cons rfl (fun K hK=>?_) OrdS.Each.nil
     simp only[Zp];rw[if_pos (by rfl)]
     go_simp
     refine(cm.out).mono ?_;rintro e' w7 ⟨rfl,k7⟩;have K7:Hid (Keep W3 w7):=K6.out.trans k7;replace k7:=Zq k7;go_wp2_with fail;refine hK.out _ _ (fun _=>HELD _ K7.out) ?_
     have hHeld:=HELD _ K7.out;clear hK K;try simp only[Act.put,Zp]
     refine OrdS.rt 11 (.bool true) hHeld ?_
     simp only[Act.put,Zp];refine OrdS.rt 12 (.bool true) hHeld ?_
     simp only[Act.put,Zp];refine OrdS.rt 13 (.slice LA ln lc) hHeld ?_
     simp only[Act.put,Zp];refine OrdS.rt 15 (.slice LA ln lc) hHeld ?_
     simp only[Act.put,Zp];refine OrdS.rest_ready (rs:=[14]) (by kernel_rfl) (by simp) ?_
     refine OrdS.Each.cons rfl (fun K hK=>?_) OrdS.Each.nil
     simp only[Zp];rw[if_pos (by rfl)]
     go_simp
     refine(cJ.out _ K7.out).mono ?_;rintro e' w8 ⟨v8,rfl,i8,k8⟩;have K8:Hid (Keep W3 w8):=K7.out.trans k8;replace k8:=Zq k8;replace i8:=Zq i8;go_wp2_with fail;refine hK.out _ _ (fun _=>HELD _ K8.out) ?_
     have hHeld:=HELD _ K8.out;clear hK K;try simp only[Act.put,Zp]
     refine OrdS.rest_ready (rs:=[16]) (by kernel_rfl) (by simp) ?_
     refine OrdS.Each.cons rfl (fun K hK=>?_) OrdS.Each.nil
     simp only[Zp];rw[if_pos (by rfl)]
     go_simp
     refine(cI.out _ K8.out).mono ?_;rintro e' w9 ⟨v9,rfl,i9,k9⟩;have K9:Hid (Keep W3 w9):=K8.out.trans k9;have sm:=Zq (zun (i8.out.keep k9) i9);replace k9:=Zq k9;replace i9:=Zq i9;go_wp2_with fail;refine hK.out _ _ (fun _=>HELD _ K9.out) ?_
     have hHeld:=HELD _ K9.out;clear hK K;try simp only[Act.put,Zp]
     refine OrdS.rest_ready (rs:=[17]) (by kernel_rfl) (by simp) ?_
     refine OrdS.Each.cons rfl (fun K hK=>?_) OrdS.Each.nil
     simp only[Zp];rw[if_pos (by rfl)]
     go_simp
     refine(sm.out).mono ?_;rintro e' w10 ⟨rfl,k10⟩;have K10:Hid (Keep W3 w10):=K9.out.trans k10;replace k10:=Zq k10;go_wp2_with fail;refine hK.out _ _ (fun _=>HELD _ K10.out) ?_
     have hHeld:=HELD _ K10.out;clear hK K;try simp only[Act.put,Zp]
     refine OrdS.rt 18 (.bool true) hHeld ?_
     simp only[Act.put,Zp];refine OrdS.rt 19 (.bool true) hHeld ?_
     simp only[Act.put,Zp];refine OrdS.rest_done (by kernel_rfl) ?_ _
     clear hHeld HELD;go_wp2;go_ret
     exact⟨rfl,K0.out.trans (K3.out.trans K10.out)⟩
end Go.Proofs.YtcogiogjpbkeaaaGreatDoor.T18
