/-
  The law of P14.2, P17.1: a pod that was submitted can be bound on the first node on which it fits. Condition: errors.errorType holds its own.
  The cluster seen from an earlier world. No condition.
-/
import Derived.Test.YtihjgcibpfajkaaGreatDoorD18
import Derived.Test.YtihjgcibpfajkaaGreatDoorD32
namespace Go.Proofs.YtihjgcibpfajkaaGreatDoor.T17
open Go.RowKit Go.Sort Go.Lib V12 T13 T14 T15 T16
set_option maxRecDepth 100000 in
set_option maxHeartbeats 16000000 in
theorem bin_walk{CS:zba}(C:Con CS)(N:zga CS)(F:zik CS)(OO:aeq CS)(HA:ziv)(A:Option Addr)(n c:Nat)(Pn:Nat→C14.NdC)(B:Option Addr)(m e:Nat)(Pp:Nat→PlV)(p:zaa)(w:World)(hN:C14.RdC w A n Pn)(hP:zkz w B m Pp)(hpx:zaf w p)(hg:zaw w):Calls Tryz.prog 4 #[.slice A n c,.slice B m e,p.val] w fun e w'=>e=.returned (.bool true)∧Keep w w':=by
 have mixed:Tryz.prog.follows .mixedOrders=true:=by kernel_rfl
 obtain⟨W0,hW0⟩:∃ W0,W0=w.alloc (.cells (zab p) 26):=⟨_,rfl⟩;have K0:Hid (Keep w W0):=by rw[hW0];exact Keep.one _ _
 have BP:Hid (W0.heap[w.heap.size]?=some (.cells (zab p) 26 (0,0))):=by rw[hW0];exact heap_alloc_new _ _
 obtain⟨bp,hbp⟩:∃ b,b=w.heap.size:=⟨_,rfl⟩;rw[← hbp] at BP;have hg0:Hid (zaw W0):=hg.keep K0.out;have cB:=Lib.hid (zgn C N A n c Pn B m e Pp W0 (hN.keep K0.out) (hP.keep K0.out) hg0.out);have aw:Hid (∀ W2,Keep W0 W2→Calls Tryz.prog 8 #[] W2 fun e w'=>e=.returned (.bool true)∧Keep W2 w'):=fun W2 k=>HA W2 (hg0.out.keep k)
 have px0:=hpx.keep K0.out;replace hN:=Lib.hid hN;replace hP:=Lib.hid hP;replace hg:=Lib.hid hg;replace hpx:=Lib.hid hpx;replace px0:=Lib.hid px0;unfold zab at hW0;unfold zaa.val
 go_enter Tryz.func4,Tryz.ntmps4
 go_wp2_with fail;rw[← hW0,← hbp];replace hW0:=Lib.hid hW0;replace hbp:=Lib.hid hbp;refine cB.out.mono ?_;rintro e' w1 ⟨k1,⟨x,rfl⟩ | ⟨q,M,L,X,x,Q,P,rfl,ST,hM,hL⟩⟩
 ·obtain⟨W1,hW1⟩:∃ W1,W1=w1.alloc (.cells x.arr 30):=⟨_,rfl⟩
  have K1:Hid (Keep W0 W1):=by rw[hW1];exact k1.alloc _
  replace k1:=Lib.hid k1;have a1:=Lib.hid (aw.out W1 K1.out);unfold RcV.arr at hW1;unfold RcV.val;go_wp2_with fail;rw[← hW1];replace hW1:=Lib.hid hW1;refine a1.out.mono ?_;rintro e' w2 ⟨rfl,k2⟩;have K2:Hid (Keep W0 w2):=K1.out.trans k2;replace k2:=Lib.hid k2;clear a1;have a2:=Lib.hid (aw.out w2 K2.out);go_wp2_with fail;refine a2.out.mono ?_;rintro e' w3 ⟨rfl,k3⟩;replace k3:=Lib.hid k3;go_wp2;go_ret
  exact⟨rfl,K0.out.trans (K2.out.trans k3.out)⟩
 ·obtain⟨W1,hW1⟩:∃ W1,W1=w1.alloc (.cells x.arr 30):=⟨_,rfl⟩
  have K1:Hid (Keep W0 W1):=by rw[hW1];exact k1.alloc _
  replace k1:=Lib.hid k1;replace ST:=Lib.hid (ST.keep C (show Keep w1 W1 by rw[hW1];exact Keep.one _ _))
  replace hM:=Lib.hid hM;replace hL:=Lib.hid hL;have BX:Hid (W1.heap[w1.heap.size]?=some (.cells x.arr 30 (0,0))):=by rw[hW1];exact heap_alloc_new _ _
  have a1:=Lib.hid (aw.out W1 K1.out);unfold RcV.arr at hW1;unfold RcV.val;go_wp2_with fail;rw[← hW1];try replace hW1:=Lib.hid hW1
  refine a1.out.mono ?_;rintro e' w2 ⟨rfl,k2⟩;have K2:Hid (Keep W0 w2):=K1.out.trans k2;replace ST:=Lib.hid (ST.out.keep C k2);replace BX:Hid (w2.heap[w1.heap.size]?=some (.cells x.arr 30 (0,0))):=Keep.block k2 BX.out;replace k2:=Lib.hid k2;obtain⟨bx,hbx⟩:∃ b,b=w1.heap.size:=⟨_,rfl⟩;rw[← hbx] at BX ⊢;replace hbx:=Lib.hid hbx;clear a1;have X0:=zah (Keep.block K2.out BP.out);have x0:=X0.e0;have x1:=X0.e1;have x2:=X0.e2;have x3:=X0.e3;have x4:=X0.e4;have x5:=X0.e5;have x6:=X0.e6;have x7:=X0.e7;have x8:=X0.e8;clear X0;obtain⟨W3,hW3⟩:∃ W3,W3=w2.alloc (.cells (zab p) 26):=⟨_,rfl⟩;have B3:Hid (W3.heap[w2.heap.size]?=some (.cells (zab p) 26 (0,0))):=by rw[hW3];exact heap_alloc_new _ _
  have k23:Hid (Keep w2 W3):=by rw[hW3];exact Keep.one _ _
  have K3:Hid (Keep W0 W3):=K2.out.trans k23.out;replace ST:=Lib.hid (ST.out.keep C k23.out);replace BX:Hid (W3.heap[bx]?=some (.cells x.arr 30 (0,0))):=Keep.block k23.out BX.out;obtain⟨fb,hfb⟩:=zgq p;have cF:=Lib.hid (zgz (some ⟨w2.heap.size,0,none⟩) 1 1 (fun _=>p) W3 (zfa B3.out (px0.out.keep K3.out)) fb hfb)
  unfold zab at hW3;replace hfb:=Lib.hid hfb;go_wp2_with fail;rw[← hW3];replace hW3:=Lib.hid hW3;refine cF.out.mono ?_;rintro e' w4 ⟨rfl,rfl⟩;clear x0 x1 x2 x3 x4 x5 x6 x7 x8 cF;cases fb with
  | false =>
    have a2:=Lib.hid (aw.out W3 K3.out);go_wp2_with fail;refine a2.out.mono ?_;rintro e' w5 ⟨rfl,k5⟩;replace k5:=Lib.hid k5;go_wp2;go_ret
    exact⟨rfl,K0.out.trans (K3.out.trans k5.out)⟩
  | true =>
    have fx:=Lib.hid (hfb.out.1 rfl);have hb:-1073741824≤p.p∧p.p≤1073741824∧p.m≤20:=fx.out.2 0 (by omega)
    have l100:Hid (L.length≤100):=Nat.le_trans hL.out (by omega)
    have m100:Hid (M.length≤100):=Nat.le_trans hM.out (by omega)
    have pm:Hid (p.m≤1000):=Nat.le_trans hb.2.2 (by omega)
    replace hb:=Lib.hid hb;obtain⟨y,hy⟩:∃ y:zaa,y={ p with k:=536870912 }:=⟨_,rfl⟩;have NK:Hid (∀ k,k∈nk M→I64 k):=fun k hk=>by
     obtain⟨i,hi,_,e⟩:=zqr ST.out.em (C.ok ST.out.o).srt hk;have h1:=(zrz hk).2;rw[e] at h1;rw[← h1];exact((ST.out.rdc C).row.ok i hi).1
    have lw:Hid (w.heap.size≤bp∧bp<W0.heap.size):=⟨by rw[hbp.out];exact Nat.le_refl _,lt_of_block BP.out⟩
    have o3:=Lib.hid (OO ST.out.o K0.out (Z:=fun i=>i=bp) fun i hi=>by rw[hi];exact lw.out)
    have K03:Hid (Keep w W3):=K0.out.trans K3.out;have BP3:Hid (W3.heap[bp]?=some (.cells (zab p) 26 (0,0))):=Keep.block K3.out BP.out;obtain⟨W4,hW4⟩:∃ W,W=W3.setCell ⟨bp,0,none⟩ (.int .i64 536870912):=⟨_,rfl⟩;have K4:Hid (Keep w W4):=by rw[hW4];exact K03.out.set lw.out.1 _
    have s4:Hid (W3.heap.size≤W4.heap.size):=by show _≤_;rw[hW4];exact(Fr.set (Fr.refl (fun i=>i=bp) W3) (by left;rfl) _).size
    have BP4:Hid (W4.heap[bp]?=some (.cells (zab y) 26 (0,0))):=by
     show _=_
     rw[hW4,hy,heap_setCell_same W3 _ 0 _ _ _ BP3.out];rfl
    have o4:=Lib.hid (C.write o3.out K4.out s4.out fun k hk hn=>by
     rw[hW4]
     exact Below.heap_setCell _ _ _ _ fun e=>hn (Or.inr e))
    have hgw:Hid (∀ Wz,Keep w Wz→zaw Wz):=fun Wz kk=>hg.out.keep kk
    have yis:Hid (∀ Wz,Keep w Wz→zaf Wz y):=fun Wz kk=>by
     have h:=hpx.out.keep kk;rw[hy];exact⟨h.rd,h.nil,⟨show I64 536870912 by unfold I64;omega,h.rng.2⟩⟩
    have ym:Hid (y.m≤1000):=by rw[hy];exact pm.out
    have l40:Hid (L.length≤40):=hL.out;have yk:Hid (y.k=536870912∧y.A=p.A∧y.m=p.m∧y.c=p.c∧y.Z=p.Z):=by rw[hy];exact⟨rfl,rfl,rfl,rfl,rfl⟩
    have x0:=(zah BP3.out).e0;have xf:=(zah BP3.out).f 0;have c0:=(zah BP4.out).e0;rw[yk.out.1,hW4] at c0;obtain⟨kn,hkn⟩:∃ b,b=decide ((536870912:Int)∈keys L):=⟨_,rfl⟩;have cP:=Lib.hid (C.pod 536870912 o4.out (by unfold I64;omega) l100.out)
    rw[← hkn] at cP;unfold zaa.val at cP;replace hkn:=Lib.hid hkn;replace hy:=Lib.hid hy;clear o3;go_wp2_with fail;rw[← hW4];clear x0 xf c0;replace hW4:=Lib.hid hW4;refine cP.out.mono ?_;rintro e' w5 ⟨r0,rfl,_,_,_,k5⟩;clear cP;obtain⟨W6,hW6,k56,_⟩:∃ W,W=w5.alloc (.cells (zab r0) 26)∧Hid (Keep w5 W)∧True:=⟨_,rfl,Keep.one _ _,trivial⟩;have k46:Hid (Keep W4 W6):=k5.trans k56.out;have K6:Hid (Keep w W6):=K4.out.trans k46.out;have BP6:Hid (W6.heap[bp]?=some (.cells (zab y) 26 (0,0))):=Keep.block k46.out BP4.out;have cS:=Lib.hid (C.submit y (C.keep o4.out k46.out) (hgw.out W6 K6.out) (yis.out W6 K6.out) ym.out l100.out);replace k5:=Lib.hid k5;clear k56;have X0:=zah (BP6.out);have p0:=X0.e0;have p1:=X0.e1;have p2:=X0.e2;have p3:=X0.e3;have p4:=X0.e4;have p5:=X0.e5;have p6:=X0.e6;have p7:=X0.e7;have p8:=X0.e8;clear X0;rw[hW6] at p0 p1 p2 p3 p4 p5 p6 p7 p8;unfold zab at hW6 p0 p1 p2 p3 p4 p5 p6 p7 p8;unfold zaa.val at cS;go_wp2_with fail;rw[← hW6];replace hW6:=Lib.hid hW6;clear p0 p1 p2 p3 p4 p5 p6 p7 p8;refine cS.out.mono ?_;rintro e' w7 ⟨r1,rfl,e0,_,ris,rq,o7,sx⟩;obtain⟨cc,hcc⟩:∃ c,c=sbC L 2 y:=⟨_,rfl⟩;have BP7:Hid (w7.heap[bp]?=some (.cells (zab y) 26 (0,0))):=(sx bp (Or.inr rfl)).trans BP6.out;obtain⟨b8,hb8⟩:∃ b,b=w7.heap.size:=⟨_,rfl⟩;obtain⟨W8,hW8⟩:∃ W8,W8=w7.alloc (.cells (zab r1) 26):=⟨_,rfl⟩;have k78:Hid (Keep w7 W8):=by rw[hW8];exact Keep.one _ _
    have B8:Hid (W8.heap[b8]?=some (.cells (zab r1) 26 (0,0))):=by show _=_;rw[hW8,hb8];exact heap_alloc_new _ _
    have o8:=Lib.hid (C.keep o7 k78.out);have K8:Hid (Keep w W8):=C.kp o8.out;have BP8:Hid (W8.heap[bp]?=some (.cells (zab y) 26 (0,0))):=Keep.block k78.out BP7.out;have r8:=Lib.hid (ris.keep k78.out);rw[← hcc] at e0;replace e0:=Lib.hid e0;replace ris:=Lib.hid ris;replace rq:=Lib.hid rq;replace o7:=Lib.hid o7;replace sx:=Lib.hid sx;clear cS
    by_cases hc:cc=0
    ·have ef:zbu cc (wrI 2 y.m y.Z)=.nilIface:=by unfold zbu;rw[if_pos hc]
     obtain⟨z1,z2,z3⟩:=aaq (L:=L) (d:=2) (x:=y) (by rw[← hcc];exact hc)
     have hr:nm r1=zcl y L.length:=e0.out hc;rw[← hcc,ef];rw[z3] at o8;obtain⟨L2,hL2⟩:∃ L2,L2=L++[zcl y L.length]:=⟨_,rfl⟩;rw[← hL2] at o8;have l2:Hid (L2.length≤100):=by
      have:=l40.out;show _≤_
      rw[hL2,List.length_append];show L.length+1≤100
      omega
     have rm:Hid (r1.m≤1000):=by
      have:r1.m=y.m:=show(nm r1).m=_ by rw[hr];rfl
      show _≤_
      rw[this];exact ym.out
     obtain⟨fl,hfl⟩:∃ l,l=zbk r1 M L2 2:=⟨_,rfl⟩;obtain⟨nz,hnz⟩:∃ n,n=zbq fl 0:=⟨_,rfl⟩;obtain⟨fb,hfb2⟩:∃ b,b=decide (fl≠[]):=⟨_,rfl⟩;have cF:=Lib.hid (F.first r1 o8.out (hgw.out W8 K8.out) r8.out (by omega) rm.out m100.out l2.out)
     rw[← hfl,← hnz,← hfb2] at cF;have BOK:Hid (fb=true→r1.k=y.k∧plC M L2 2 r1.k nz 1=0∧(zao (zai L2 r1.k) 1 nz (-1)).h=3∧(zao (zai L2 r1.k) 1 nz (-1)).d=nz∧I64 nz):=fun e=>by
      rw[hfb2] at e;have h0:0<fl.length:=List.length_pos_iff.2 (of_decide_eq_true e);have h1:nz∈zbk r1 M L2 2:=by rw[hnz,← hfl];exact zdo h0
      have h2:=zey.1 h1;rw[hL2] at h2;obtain⟨e1,e2,e3,e4⟩:=bind_ok (by rw[← hL2];exact C.ok o8.out) z2 hr h2
      rw[hL2];exact⟨e1,e2,e3,e4,NK.out _ (of_decide_eq_true (zey.1 h1)).1⟩
     have NIL:Hid (fb=false→fl.length=0):=fun e=>by
      rw[hfb2] at e;have:=of_decide_eq_false e
      by_cases h:fl=[]
      ·rw[h];rfl
      ·exact absurd h this
     have rk:Hid (I64 r1.k):=r8.out.rng.1;replace hr:=Lib.hid hr;replace hnz:=Lib.hid hnz;replace hfb2:=Lib.hid hfb2;replace hL2:=Lib.hid hL2;replace hcc:=Lib.hid hcc;replace hc:=Lib.hid hc;replace z1:=Lib.hid z1;replace z2:=Lib.hid z2;replace z3:=Lib.hid z3;clear ef;have X0:=zah B8.out;have z0:=X0.e0;have z1:=X0.e1;have z2:=X0.e2;have z3:=X0.e3;have z4:=X0.e4;have z5:=X0.e5;have z6:=X0.e6;have z7:=X0.e7;have z8:=X0.e8;clear X0;rw[hW8,hb8] at z0 z1 z2 z3 z4 z5 z6 z7 z8;unfold zab at hW8 z0 z1 z2 z3 z4 z5 z6 z7 z8;unfold zaa.val at cF;go_wp2_with fail;rw[← hW8,← hb8];replace hW8:=Lib.hid hW8;replace hb8:=Lib.hid hb8;clear z0 z1 z2 z3 z4 z5 z6 z7 z8;refine cF.out.mono ?_;rintro e' w9 ⟨rfl,k9⟩;have k9:Hid (Keep W8 w9):=k9;have K9:Hid (Keep w w9):=K8.out.trans k9.out;have B9:Hid (w9.heap[b8]?=some (.cells (zab r1) 26 (0,0))):=Keep.block k9.out B8.out;clear cF;cases fb with
     | false =>
       have l0:=NIL.out rfl;have cN:Hid (Calls Tryz.prog 11 #[.pointer (some ⟨q,0,none⟩),r1.val] w9 fun e w'=>∃ A c,e=.returned (.slice A 0 c)∧Hid (Keep w9 w')):=by
        refine(F.nodes r1 (C.keep o8.out k9.out) (hgw.out w9 K9.out) (r8.out.keep k9.out) (by omega) rm.out m100.out l2.out).mono ?_
        rintro e w' ⟨v,he,⟨A,c,e2,_,_⟩,_,k⟩;subst e2;rw[← hfl,l0] at he;exact⟨A,c,he,k⟩
       unfold zaa.val at cN;replace l0:=Lib.hid l0;replace hfl:=Lib.hid hfl;have X0:=zah B9.out;have z0:=X0.e0;have z1:=X0.e1;have z2:=X0.e2;have z3:=X0.e3;have z4:=X0.e4;have z5:=X0.e5;have z6:=X0.e6;have z7:=X0.e7;have z8:=X0.e8;clear X0;go_wp2_with fail;clear z0 z1 z2 z3 z4 z5 z6 z7 z8;refine cN.out.mono ?_;rintro e' w10 ⟨A10,c10,rfl,k10⟩;go_wp2;go_ret
       exact⟨rfl,K9.out.trans k10.out⟩
     | true =>
       replace hfl:=Lib.hid hfl;obtain⟨e1,e2,e3,e4,e5⟩:=BOK.out rfl;have cB:Hid (Calls Tryz.prog 19 #[.pointer (some ⟨q,0,none⟩),.int .i64 r1.k,.int .i64 nz] w9 fun e w'=>∃ r:zaa,e=.returned (.tuple #[r.val,.nilIface])∧Hid (r.h=3∧r.d=nz)∧Hid (Keep w w')):=by
        refine(C.bind r1.k nz (C.keep o8.out k9.out) (hgw.out w9 K9.out) rk.out e5 m100.out l2.out).mono ?_;rintro e w' ⟨r,he,h0,_,_,_,o,_⟩;have h1:=h0 e2;refine⟨r,by rw[he,e2];rfl,⟨?_,?_⟩,C.kp o⟩
        ·rw[← e3,← h1];rfl
        ·rw[← e4,← h1];rfl
       have z0:=(zah B9.out).e0;unfold zaa.val at cB;replace e1:=Lib.hid e1;replace e2:=Lib.hid e2;replace e3:=Lib.hid e3;replace e4:=Lib.hid e4;replace e5:=Lib.hid e5;go_wp2_with fail;clear z0;refine cB.out.mono ?_;rintro e' w10 ⟨r2,rfl,hd,K10⟩;have Z0:=zah (heap_alloc_new w10 (.cells (zab r2) 26));have z6:=Z0.e6;have z7:=Z0.e7;clear Z0;rw[hd.out.1] at z6;rw[hd.out.2] at z7;unfold zab at z6 z7;go_wp2;go_ret
       exact⟨rfl,K10.out.trans (Keep.one _ _)⟩
    ·have ef:zbu cc (wrI 2 y.m y.Z)=.iface 124 (.agg #[.int .i64 cc,.int .i64 (wrI 2 y.m y.Z)]):=by unfold zbu flt;rw[if_neg hc];rfl
     have OR:Hid (0≤zae y.m y.Z (2:Nat)∨kn=true):=by
      rcases aap (d:=2) (x:=y) l100.out (by rw[← hcc];exact hc) with h | h
      ·exact Or.inl h
      ·refine Or.inr ?_
       rw[hkn.out,← yk.out.1];exact decide_eq_true h
     rw[← hcc,ef];clear ef;obtain⟨wv,hwv⟩:∃ z,z=zae y.m y.Z (2:Nat):=⟨_,rfl⟩;have cW:Hid (Calls Tryz.prog 10 #[.slice y.A y.m y.c,.int .i64 2] W8 fun e' w'=>e'=.returned (.int .i64 wv)∧w'=W8):=by rw[hwv];exact zeg y.A y.m y.c y.Z 2 W8 (yis.out W8 K8.out).rd
     rw[← hwv] at OR;have p4:=(zah BP8.out).e4;rw[hW8] at p4;unfold zab at hW8 p4;replace hcc:=Lib.hid hcc;replace hc:=Lib.hid hc;replace hwv:=Lib.hid hwv
     by_cases hw:0≤wv
     ·have hwb:decide (0≤wv)=true:=decide_eq_true hw
      replace hw:=Lib.hid hw;go_wp2_with fail;rw[← hW8];replace hW8:=Lib.hid hW8;refine cW.out.mono ?_;rintro e' w9 ⟨rfl,rfl⟩;go_wp2;go_ret
      exact⟨rfl,K8.out⟩
     ·have hwb:decide (0≤wv)=false:=decide_eq_false hw
      obtain rfl:kn=true:=OR.out.resolve_left hw;replace hw:=Lib.hid hw;go_wp2_with fail;rw[← hW8];replace hW8:=Lib.hid hW8;refine cW.out.mono ?_;rintro e' w9 ⟨rfl,rfl⟩;go_wp2;go_ret
      exact⟨rfl,K8.out⟩
end Go.Proofs.YtihjgcibpfajkaaGreatDoor.T17
namespace Go.Proofs.YtihjgcibpfajkaaGreatDoor.T14
open Go.RowKit Go.Sort Go.Lib V12 T13
theorem ON.old{w0 w w1:World}{d:Nat}{s:Int}{q:Nat}{N:List T12.NodeV}{X Z:Nat→Prop}(o:ON w d s q N X w1)(k0:Keep w0 w)(hZ:∀ i,Z i→w0.heap.size≤i∧i<w.heap.size):ON w0 d s q N (fun i=>X i∨Z i) w1:=by
 obtain⟨t,m,E,h,hL,hd,k,hF,hX⟩:=o;refine⟨t,m,E,h,hL,hd,k0.trans k,fun i hi=>⟨Nat.le_trans k0.size (hF i hi).1,?_⟩,?_⟩
 ·rintro(h1 | h1)
  ·exact(hF i hi).2 h1
  ·have:=(hZ i h1).2
   have:=(hF i hi).1;omega
 ·rintro i (h1 | h1)
  ·exact hX i h1
  ·exact Nat.lt_of_lt_of_le (hZ i h1).2 k.size
theorem zzz{w0 w w1:World}{s:Int}{q:Nat}{L:List zaa}{X Z:Nat→Prop}(o:OSd w s q L X w1)(k0:Keep w0 w)(hZ:∀ i,Z i→w0.heap.size≤i∧i<w.heap.size):OSd w0 s q L (fun i=>X i∨Z i) w1:=by
 obtain⟨t,m,A,c,P,h,hL,k,hX⟩:=o;have hs:=k0.size;refine⟨t,m,A,c,P,⟨h.hq,h.tb,h.rp.base hs,Nat.le_trans hs h.bq,Nat.le_trans hs h.bt,Nat.le_trans hs h.bm,h.lk⟩,hL,k0.trans k,?_⟩;rintro i (h1 | h1)
 ·exact hX i h1
 ·have h2:=hZ i h1
  refine⟨Nat.lt_of_lt_of_le h2.2 k.size,fun hf=>?_⟩
  have:=(h.lt i hf).1;omega
end Go.Proofs.YtihjgcibpfajkaaGreatDoor.T14
namespace Go.Proofs.YtihjgcibpfajkaaGreatDoor.T17
open Go.RowKit Go.Sort Go.Lib V12 T13 T14
theorem old17{w0 w w1:World}{d q:Nat}{M:List NV}{L:List zaa}{X Z:Nat→Prop}(h:CSd w d q M L X w1)(k0:Keep w0 w)(hZ:∀ i,Z i→w0.heap.size≤i∧i<w.heap.size):CSd w0 d q M L (fun i=>X i∨Z i) w1:=by
 obtain⟨qn,qp,N,Xn,Xp,h⟩:=h;refine⟨qn,qp,N,fun i=>Xn i∨Z i,fun i=>Xp i∨Z i,h.blk,Nat.le_trans k0.size h.low,h.on.old k0 hZ,zzz h.os k0 hZ,Or.inl h.qn',Or.inl h.qp',?_,?_,fun i hi=>(h.cov i hi).imp Or.inl Or.inl,h.nds,h.use,h.ok⟩
 ·rintro(h1 | h1)
  ·exact h.qx h1
  ·have:=(hZ q h1).2
   have:=h.low;omega
 ·rintro i (h1 | h1)
  ·exact⟨Or.inl (h.sub i h1).1,Or.inl (h.sub i h1).2⟩
  ·exact⟨Or.inr h1,Or.inr h1⟩
end Go.Proofs.YtihjgcibpfajkaaGreatDoor.T17
