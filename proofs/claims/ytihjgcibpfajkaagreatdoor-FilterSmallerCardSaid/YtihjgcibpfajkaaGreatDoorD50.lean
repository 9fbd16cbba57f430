/-
  A smaller request. No condition, no walk.
  The law of P17.1: a smaller request fits wherever a greater one fits. Condition: errors.errorType holds its own.
-/
import Derived.Test.YtihjgcibpfajkaaGreatDoorD18
import Derived.Test.YtihjgcibpfajkaaGreatDoorD47
import Derived.Laws.Closers25
namespace Go.Proofs.YtihjgcibpfajkaaGreatDoor.T17
open Go.RowKit Go.Sort Go.Lib V12 T13 T14 T15 T16
def zkx(w:World)(base:Nat)(A:Option Addr)(m:Nat)(Z:Nat→Int):Prop:=0<m→∃ g,A=some ⟨g,0,none⟩∧base≤g∧zdu w g m Z
theorem ztt{w:World}{base m:Nat}{v:Value}{Z:Nat→Int}(h:w.ownsRow base 2 1 v m ([]++zbo m Z)):∃ A c,v=.slice A m c∧zkx w base A m Z∧(A=none→m=0∧c=0):=by
 rw[List.nil_append] at h;obtain⟨A,c,rfl,hn⟩:=own_form h;refine⟨A,c,rfl,fun hp=>?_,hn⟩
 obtain⟨g,e,h1,h2⟩:=znp h hp;exact⟨g,e,h1,h2⟩
theorem zkx.keep{w w':World}{base:Nat}{A:Option Addr}{m:Nat}{Z:Nat→Int}(h:zkx w base A m Z)(k:Keep w w'):zkx w' base A m Z:=fun hp=>by
 obtain⟨g,e,h1,h2⟩:=h hp;exact⟨g,e,h1,h2.keep k⟩
theorem zkx.rd{w:World}{base:Nat}{A:Option Addr}{m:Nat}{Z Y:Nat→Int}(h:zkx w base A m Z)(e:∀ j,j<m→Z j=Y j)(hm:m≤1000)(hz:∀ j,j<m→-9223372036854775808≤Y j∧Y j≤9223372036854775807):Rd w A m Y :=
 ⟨by omega,hz,fun hp=>by
  obtain⟨g,e2,_,h2⟩:=h hp
  exact⟨g,0,e2,fun j hj=>by
   rw[Nat.zero_add,← e j hj]
   exact h2.cell hj⟩⟩
def hlf(z:Int):Int:=z.tdiv 2
theorem acn{z:Int}(h1:-9223372036854775808≤z)(h2:z≤9223372036854775807):-9223372036854775808≤hlf z∧hlf z≤9223372036854775807:=by
 have h:=tdiv_between z 2 (by omega)
 unfold hlf
 by_cases h0:0≤z
 ·have:=h.1 h0;omega
 ·have:=h.2 (by omega);omega
theorem zup{z:Int}(h1:-9223372036854775808≤z)(h2:z≤9223372036854775807):IntKind.i64.wrap (z.tdiv 2)=hlf z:=by
 exact wrap_i64_tdiv z 2 h1 h2 (by omega)
theorem zqj{z:Int}(h:Amt z):Amt (hlf z)∧hlf z≤z:=by
 unfold Amt at *;unfold hlf;rw[Int.tdiv_eq_ediv_of_nonneg h.1];omega
theorem zum{p q:zaa}{M:List NV}{L:List zaa}{d:Nat}{k:Int}(ok:Ok d M L)(hk:q.k=p.k)(hp:q.p=p.p)(hm:q.m=p.m)(hz:q.Z=fun j=>hlf (p.Z j))(h:zbx no p k M L d=true):zbx no q k M L d=true:=by
 refine zyx (fun j hj=>zzn (fun _ h=>h) (fun y h=>aat hk (by rw[hp];exact Int.le_refl _) h) (ok.amtL hj)) (fun hf=>?_) h
 obtain⟨_,h2,_⟩:=of_decide_eq_true hf;obtain⟨e1,e2⟩:=zcp h2;rw[hm,hz];refine⟨?_,fun j hj=>(zqj (e2 j (by omega))).2⟩
 rw[zdc fun j hj=>?_,if_pos (by rw[e1])]
 ·omega
 ·have:=(zqj (e2 j hj)).1
  unfold Amt at this;unfold zat;exact decide_eq_false (by omega)
end Go.Proofs.YtihjgcibpfajkaaGreatDoor.T17
namespace Go.Proofs.YtihjgcibpfajkaaGreatDoor.T17
open Go.RowKit Go.Sort Go.Lib V12 T13 T14 T15 T16
set_option maxRecDepth 100000 in
set_option maxHeartbeats 16000000 in
theorem sma_walk{CS:zba}(C:Con CS)(N:zga CS)(F:zik CS)(HA:ziv)(A:Option Addr)(n c:Nat)(Pn:Nat→C14.NdC)(B:Option Addr)(m e:Nat)(Pp:Nat→PlV)(p:zaa)(w:World)(hN:C14.RdC w A n Pn)(hP:zkz w B m Pp)(hpx:zaf w p)(hg:zaw w):Calls Tryz.prog 5 #[.slice A n c,.slice B m e,p.val] w fun e w'=>e=.returned (.bool true)∧Keep w w':=by
 have mixed:Tryz.prog.follows .mixedOrders=true:=by kernel_rfl
 obtain⟨W0,hW0⟩:∃ W0,W0=w.alloc (.cells (zab p) 26):=⟨_,rfl⟩;have K0:Hid (Keep w W0):=by rw[hW0];exact Keep.one _ _
 have BP:Hid (W0.heap[w.heap.size]?=some (.cells (zab p) 26 (0,0))):=by rw[hW0];exact heap_alloc_new _ _
 obtain⟨bp,hbp⟩:∃ b,b=w.heap.size:=⟨_,rfl⟩;rw[← hbp] at BP;have hg0:Hid (zaw W0):=hg.keep K0.out;have cB:=Lib.hid (zgn C N A n c Pn B m e Pp W0 (hN.keep K0.out) (hP.keep K0.out) hg0.out);have aw:Hid (∀ W2,Keep W0 W2→Calls Tryz.prog 8 #[] W2 fun e w'=>e=.returned (.bool true)∧Keep W2 w'):=fun W2 k=>HA W2 (hg0.out.keep k)
 have px0:=hpx.keep K0.out;replace hN:=Lib.hid hN;replace hP:=Lib.hid hP;replace hg:=Lib.hid hg;replace hpx:=Lib.hid hpx;replace px0:=Lib.hid px0;unfold zab at hW0;unfold zaa.val
 go_enter Tryz.func5,Tryz.ntmps5
 go_wp2_with fail;rw[← hW0,← hbp];replace hW0:=Lib.hid hW0;replace hbp:=Lib.hid hbp;refine cB.out.mono ?_;rintro e' w1 ⟨k1,⟨x,rfl⟩ | ⟨q,M,L,X,x,Q,P,rfl,ST,hM,hL⟩⟩
 ·obtain⟨W1,hW1⟩:∃ W1,W1=w1.alloc (.cells x.arr 30):=⟨_,rfl⟩
  have K1:Hid (Keep W0 W1):=by rw[hW1];exact k1.alloc _
  replace k1:=Lib.hid k1;have a1:=Lib.hid (aw.out W1 K1.out);unfold RcV.arr at hW1;unfold RcV.val;go_wp2_with fail;rw[← hW1];replace hW1:=Lib.hid hW1;refine a1.out.mono ?_;rintro e' w2 ⟨rfl,k2⟩;have K2:Hid (Keep W0 w2):=K1.out.trans k2;replace k2:=Lib.hid k2;clear a1;have a2:=Lib.hid (aw.out w2 K2.out);go_wp2_with fail;refine a2.out.mono ?_;rintro e' w3 ⟨rfl,k3⟩;replace k3:=Lib.hid k3;go_wp2;go_ret
  exact⟨rfl,K0.out.trans (K2.out.trans k3.out)⟩
 ·obtain⟨W1,hW1⟩:∃ W1,W1=w1.alloc (.cells x.arr 30):=⟨_,rfl⟩
  have K1:Hid (Keep W0 W1):=by rw[hW1];exact k1.alloc _
  replace k1:=Lib.hid k1;replace ST:=Lib.hid (ST.keep C (show Keep w1 W1 by rw[hW1];exact Keep.one _ _))
  replace hM:=Lib.hid hM;replace hL:=Lib.hid hL;have BX:Hid (W1.heap[w1.heap.size]?=some (.cells x.arr 30 (0,0))):=by rw[hW1];exact heap_alloc_new _ _
  have a1:=Lib.hid (aw.out W1 K1.out);unfold RcV.arr at hW1;unfold RcV.val;go_wp2_with fail;rw[← hW1];try replace hW1:=Lib.hid hW1
  refine a1.out.mono ?_;rintro e' w2 ⟨rfl,k2⟩;have K2:Hid (Keep W0 w2):=K1.out.trans k2;replace ST:=Lib.hid (ST.out.keep C k2);replace BX:Hid (w2.heap[w1.heap.size]?=some (.cells x.arr 30 (0,0))):=Keep.block k2 BX.out;replace k2:=Lib.hid k2;obtain⟨bx,hbx⟩:∃ b,b=w1.heap.size:=⟨_,rfl⟩;rw[← hbx] at BX ⊢;replace hbx:=Lib.hid hbx;clear a1;have X0:=zah (Keep.block K2.out BP.out);have x0:=X0.e0;have x1:=X0.e1;have x2:=X0.e2;have x3:=X0.e3;have x4:=X0.e4;have x5:=X0.e5;have x6:=X0.e6;have x7:=X0.e7;have x8:=X0.e8;clear X0;obtain⟨W3,hW3⟩:∃ W3,W3=w2.alloc (.cells (zab p) 26):=⟨_,rfl⟩;have B3:Hid (W3.heap[w2.heap.size]?=some (.cells (zab p) 26 (0,0))):=by rw[hW3];exact heap_alloc_new _ _
  have k23:Hid (Keep w2 W3):=by rw[hW3];exact Keep.one _ _
  have K3:Hid (Keep W0 W3):=K2.out.trans k23.out;replace ST:=Lib.hid (ST.out.keep C k23.out);replace BX:Hid (W3.heap[bx]?=some (.cells x.arr 30 (0,0))):=Keep.block k23.out BX.out;obtain⟨fb,hfb⟩:=zgq p;have cF:=Lib.hid (zgz (some ⟨w2.heap.size,0,none⟩) 1 1 (fun _=>p) W3 (zfa B3.out (px0.out.keep K3.out)) fb hfb)
  unfold zab at hW3;replace hfb:=Lib.hid hfb;go_wp2_with fail;rw[← hW3];replace hW3:=Lib.hid hW3;refine cF.out.mono ?_;rintro e' w4 ⟨rfl,rfl⟩;clear x0 x1 x2 x3 x4 x5 x6 x7 x8 cF;cases fb with
  | false =>
    have a2:=Lib.hid (aw.out W3 K3.out);go_wp2_with fail;refine a2.out.mono ?_;rintro e' w5 ⟨rfl,k5⟩;replace k5:=Lib.hid k5;go_wp2;go_ret
    exact⟨rfl,K0.out.trans (K3.out.trans k5.out)⟩
  | true =>
    have fx:=Lib.hid (hfb.out.1 rfl);have hb:-1073741824≤p.p∧p.p≤1073741824∧p.m≤20:=fx.out.2 0 (by omega)
    have l100:Hid (L.length≤100):=Nat.le_trans hL.out (by omega)
    have m100:Hid (M.length≤100):=Nat.le_trans hM.out (by omega)
    have pm:Hid (p.m≤1000):=Nat.le_trans hb.2.2 (by omega)
    replace hb:=Lib.hid hb;have KF:Hid (∀ Wz,Keep W3 Wz→CS W0 2 q M L X Wz∧zaw Wz∧zaf Wz p):=fun Wz kk=>⟨C.keep ST.out.o kk,hg0.out.keep (K3.out.trans kk),px0.out.keep (K3.out.trans kk)⟩
    have KW:Hid (∀ Wz,Keep W3 Wz→Keep W0 Wz):=fun Wz kk=>K3.out.trans kk
    obtain⟨fl,hfl⟩:∃ l,l=zbk p M L 2:=⟨_,rfl⟩;have cN:Hid (∀ Wz,Keep W3 Wz→Calls Tryz.prog 11 #[.pointer (some ⟨q,0,none⟩),p.val] Wz fun e w'=>∃ A c,e=.returned (.slice A (zbk p M L 2).length c)∧Hid (zcv w' (.slice A (zbk p M L 2).length c) (zbk p M L 2))∧Hid (∀ g,(Value.slice A (zbk p M L 2).length c).ownBlock=some g→Wz.heap.size≤g)∧Hid (Keep Wz w')):=fun Wz kk=>by
     obtain⟨k1,k2,k3⟩:=KF.out Wz kk;refine(F.nodes p k1 k2 k3 (by omega) pm.out m100.out l100.out).mono ?_
     rintro e w' ⟨v,he,⟨A,c,e2,hr,hn⟩,ho,k⟩;subst e2;exact⟨A,c,he,⟨A,c,rfl,hr,hn⟩,ho,k⟩
    rw[← hfl] at cN;have flL:Hid (fl.length≤100):=by rw[hfl];exact zgr m100.out
    replace hfl:=Lib.hid hfl;unfold zaa.val at cN;have X0:=zah (Keep.block K3.out BP.out);have p0:=X0.e0;have p1:=X0.e1;have p2:=X0.e2;have p3:=X0.e3;have p4:=X0.e4;have p5:=X0.e5;have p6:=X0.e6;have p7:=X0.e7;have p8:=X0.e8;clear X0;have cc:=Lib.hid (cN.out W3 (Keep.refl _));go_wp2_with fail;clear p0 p1 p2 p3 p4 p5 p6 p7 p8;refine cc.out.mono ?_;rintro e' w5 ⟨fA,fc,rfl,RF,_,K5⟩;clear cc cN;have px5:=Lib.hid (px0.out.keep (K3.out.trans K5.out));obtain⟨bq,hbq⟩:∃ b,b=w5.heap.size:=⟨_,rfl⟩;obtain⟨W6,hW6⟩:∃ W,W=w5.alloc (.cells (zab p) 26):=⟨_,rfl⟩;have s6:W6.heap.size=w5.heap.size+1:=by rw[hW6,World.size_alloc]
    obtain⟨W7,hW7⟩:∃ W,W=W6.alloc (.cells #[] 2):=⟨_,rfl⟩;have s7:W7.heap.size=w5.heap.size+1+1:=by rw[hW7,World.size_alloc,s6]
    have k57:Hid (Keep w5 W7):=by rw[hW7,hW6];exact(Keep.one _ _).alloc _
    have Bq7:Hid (W7.heap[bq]?=some (.cells (zab p) 26 (0,0))):=by show _=_;rw[hW7,hW6,hbq];exact(Keep.one _ _).block (heap_alloc_new _ _)
    have Be7:Hid (W7.heap[w5.heap.size+1]?=some (.cells #[] 2 (0,0))):=by show _=_;rw[hW7,← s6];exact heap_alloc_new _ _
    have Rp7:=Lib.hid ((px5.out.keep k57.out).rd);have nilp:=Lib.hid px5.out.nil;have pm20:Hid (p.m≤20):=hb.out.2.2;have X0:=zah (Keep.block (K3.out.trans K5.out) BP.out);have p0:=X0.e0;have p1:=X0.e1;have p2:=X0.e2;have p3:=X0.e3;have p4:=X0.e4;have p5:=X0.e5;have p6:=X0.e6;have p7:=X0.e7;have p8:=X0.e8;clear X0;have Y0:=zah (Keep.block (K3.out.trans (K5.out.trans (show Keep w5 W6 by rw[hW6];exact Keep.one _ _))) BP.out)
    have y4:=Y0.e4;clear Y0;have Z0:=zah (Keep.block (K3.out.trans (K5.out.trans k57.out)) BP.out);have z4:=Z0.e4;clear Z0;rw[hW6] at y4;rw[hW7,hW6] at z4;have E7:Hid (W7=(w5.alloc (.cells (zab p) 26)).alloc (.cells #[] 2)):=by show _=_;rw[hW7,hW6]
    unfold zab at y4 z4 E7;replace hW6:=Lib.hid hW6;replace hW7:=Lib.hid hW7;replace s6:=Lib.hid s6;replace s7:=Lib.hid s7;go_wp2_with (at_builtin;rw[← E7.out];refine ael Tryz.underlying24 Tryz.infoU14 rfl _ _ rfl (w5.heap.size+1) (.slice (some ⟨w5.heap.size+1,0,none⟩) 0 0) 0 [] (by simp[Act.eval]) (zjt (Nat.le_refl _) Be7.out) p.A p.m p.c p.Z (by simp[Act.eval]) Rp7.out nilp.out (by have:=pm20.out;omega) (by have:=s7.out;omega) p.m (by omega) ?_;intro v3 w8 hr3 hg3;obtain⟨qA,c3,rfl,IG8,qn⟩:=ztt hr3;have Bq8:Hid (w8.heap[w5.heap.size]?=some (.cells (zab p) 26 (0,0))):=zyt Bq7.out hbq hg3;have K8:Hid (Keep w5 w8):=znf k57.out (zjt (e:=2) (Nat.le_refl _) Be7.out) (Nat.le_succ _) hg3;have x4:=(zah Bq8.out).e4;have xf:=(zah Bq8.out).f 4;replace IG8:=Lib.hid IG8;replace hr3:=Lib.hid hr3;replace hg3:=Lib.hid hg3;replace qn:=Lib.hid qn)
    clear y4 z4 x4 xf p0 p1 p2 p3 p4 p5 p6 p7 p8;obtain⟨W9,hW9⟩:∃ W,W=w8.setCell ⟨w5.heap.size,4,none⟩ (.slice qA p.m c3):=⟨_,rfl⟩;rw[← hW9];have K9:Hid (Keep w5 W9):=by rw[hW9];exact K8.out.set (Nat.le_refl _) _
    obtain⟨z,hz⟩:∃ z:zaa,z={ p with A:=qA,c:=c3,Z:=fun j=>hlf (p.Z j) }:=⟨_,rfl⟩
    have B9:Hid (W9.heap[w5.heap.size]?=some (.cells (zab z) 26 (0,0))):=by
     show _=_
     rw[hW9,hz,heap_setCell_same w8 _ 4 _ _ _ Bq8.out];rfl
    have IG9:Hid (zkx W9 (w5.heap.size+1) qA p.m (fun i=>if i<0 then hlf (p.Z i) else p.Z i)):=fun hp=>by
     obtain⟨g,e1,e2,e3⟩:=IG8.out hp;refine⟨g,e1,e2,(e3.same ?_).congr fun i _=>by rw[if_neg (Nat.not_lt_zero i)]⟩
     rw[hW9];exact Below.heap_setCell _ _ _ _ (by show g≠w5.heap.size;omega)
    have zA:Hid (z.A=qA∧z.m=p.m∧z.c=c3):=by rw[hz];exact⟨rfl,rfl,rfl⟩
    have RF9:=Lib.hid (RF.out.keep K9.out);obtain⟨bz,hbz⟩:∃ b,b=w5.heap.size:=⟨_,rfl⟩;rw[← hbz] at B9 IG9 ⊢;replace hbz:=Lib.hid hbz;replace hW9:=Lib.hid hW9;replace hz:=Lib.hid hz;clear Bq8 IG8 hr3 hg3 Bq7 Be7 Rp7 hW6 hW7 E7 s6 s7 k57 K8;obtain⟨pmm,hpmm⟩:∃ m,m=p.m:=⟨_,rfl⟩;rw[← hpmm] at IG9 ⊢;have zA2:Hid (z.A=qA∧z.m=pmm∧z.c=c3):=by rw[hpmm];exact zA.out
    have pr:Hid (∀ j,j<pmm→-9223372036854775808≤p.Z j∧p.Z j≤9223372036854775807):=by rw[hpmm];exact px0.out.rd.range
    have pm20b:pmm≤20:=by rw[hpmm];exact pm20.out
    replace hpmm:=Lib.hid hpmm;generalize hwo:W9=wo at *;clear hwo zA;go_wp2
    go_loopg [11] pmm (fun gx s11 wr=>∃ j:Nat,j≤pmm∧gx=pmm - j∧s11=.int .i64 j∧Hid (Keep w5 wr)∧Hid (wr.heap[bz]?=some (.cells (zab z) 26 (0,0)))∧Hid (zkx wr (bz+1) qA pmm (fun i=>if i<j then hlf (p.Z i) else p.Z i)))
    case atStart=>exact⟨0,Nat.zero_le _,rfl,rfl,K9.out,B9.out,IG9.out⟩
    case round =>
     clear K9 B9 IG9 RF9;obtain⟨j,hj,rfl,rfl,KR,BR,IR⟩:=hrel;have x4:=(zah BR.out).e4;rw[zA2.out.1,zA2.out.2.1,zA2.out.2.2] at x4
     by_cases hlt:j<pmm
     ·obtain⟨gq,rfl,lgq,IG⟩:=IR.out (by omega)
      have IG2:Hid (∀ Wz,Keep wr Wz→zdu Wz gq pmm (fun i=>if i<j then hlf (p.Z i) else p.Z i)):=fun Wz kk=>IG.keep kk
      obtain⟨u,hu⟩:∃ u,u=p.Z j:=⟨_,rfl⟩;have ub:-9223372036854775808≤u∧u≤9223372036854775807:=by rw[hu];exact pr.out j hlt
      replace hu:=Lib.hid hu;replace lgq:=Lib.hid lgq;have CJ:Hid (∀ Wz,Keep wr Wz→Wz.cell? ⟨gq,j,none⟩=some (.int .i64 u)):=fun Wz kk=>by
       rw[(IG2.out Wz kk).cell hlt,if_neg (Nat.lt_irrefl j),hu.out]
      have CZ:Hid (∀ Wz,Keep wr Wz→Wz.cell? ⟨bz,4,none⟩=some (.slice (some ⟨gq,0,none⟩) pmm c3)):=fun Wz kk=>by
       have y:=(zah (Keep.block kk BR.out)).e4;rw[zA2.out.1,zA2.out.2.1,zA2.out.2.2] at y;exact y
      clear IG;go_upto_region 10 with fail
      clear x4;have HELD:∀ Wz,Keep wr Wz→(Wz.cell? ⟨bz,4,none⟩=some (.slice (some ⟨gq,0,none⟩) pmm c3)∧Wz.cell? ⟨gq,j,none⟩=some (.int .i64 u)):=fun Wz KK=>⟨CZ.out Wz KK,CJ.out Wz KK⟩
      refine OrdS.rest_start (fun w'=>w'.cell? ⟨bz,4,none⟩=some (.slice (some ⟨gq,0,none⟩) pmm c3)∧w'.cell? ⟨gq,j,none⟩=some (.int .i64 u)) [10] (by kernel_rfl) ?_ (fun hHeld=>?_)
      ·exact HELD _ (Keep.refl wr).drew
      obtain⟨wt0,hwt0⟩:∃ W,W=wr.drew:=⟨_,rfl⟩;have Kwt0:Hid (Keep wr wt0):=by rw[hwt0];exact(Keep.refl _).drew
      rw[← hwt0] at hHeld ⊢;replace hwt0:=Lib.hid hwt0;refine OrdS.tk (i:=0) (v:=.pointer (some ⟨bz,4,none⟩)) rfl (by kernel_rfl) (fun _ _ _ h=>h) (by rfl) (fun Wz hW=>by obtain⟨a0,a1⟩:=hW;go_simp) hHeld ?_
      simp only[Act.put,List.getElem_toArray,List.getElem_cons_zero,List.setIfInBounds_toArray,List.set_cons_zero,List.set_cons_succ];refine OrdS.tk (i:=1) (v:=.slice (some ⟨gq,0,none⟩) pmm c3) rfl (by kernel_rfl) (fun _ _ _ h=>h) (by rfl) (fun Wz hW=>by obtain⟨a0,a1⟩:=hW;go_simp) hHeld ?_
      simp only[Act.put,List.getElem_toArray,List.getElem_cons_succ,List.getElem_cons_zero,List.setIfInBounds_toArray,List.set_cons_zero,List.set_cons_succ];refine OrdS.tk (i:=2) (v:=.int .i64 j) rfl (by kernel_rfl) (fun _ _ _ h=>h) (by rfl) (fun Wz hW=>by obtain⟨a0,a1⟩:=hW;go_simp) hHeld ?_
      simp only[Act.put,List.getElem_toArray,List.getElem_cons_succ,List.getElem_cons_zero,List.setIfInBounds_toArray,List.set_cons_zero,List.set_cons_succ];refine OrdS.tk (i:=3) (v:=.pointer (some ⟨bz,4,none⟩)) rfl (by kernel_rfl) (fun _ _ _ h=>h) (by rfl) (fun Wz hW=>by obtain⟨a0,a1⟩:=hW;go_simp) hHeld ?_
      simp only[Act.put,List.getElem_toArray,List.getElem_cons_succ,List.getElem_cons_zero,List.setIfInBounds_toArray,List.set_cons_zero,List.set_cons_succ];refine OrdS.tk (i:=4) (v:=.slice (some ⟨gq,0,none⟩) pmm c3) rfl (by kernel_rfl) (fun _ _ _ h=>h) (by rfl) (fun Wz hW=>by obtain⟨a0,a1⟩:=hW;go_simp) hHeld ?_
      simp only[Act.put,List.getElem_toArray,List.getElem_cons_succ,List.getElem_cons_zero,List.setIfInBounds_toArray,List.set_cons_zero,List.set_cons_succ];refine OrdS.tk (i:=5) (v:=.int .i64 j) rfl (by kernel_rfl) (fun _ _ _ h=>h) (by rfl) (fun Wz hW=>by obtain⟨a0,a1⟩:=hW;go_simp) hHeld ?_
      simp only[Act.put,List.getElem_toArray,List.getElem_cons_succ,List.getElem_cons_zero,List.setIfInBounds_toArray,List.set_cons_zero,List.set_cons_succ];refine OrdS.tk (i:=6) (v:=.pointer (some ⟨gq,j,none⟩)) rfl (by kernel_rfl) (fun _ _ _ h=>h) (by rfl) (fun Wz hW=>by obtain⟨a0,a1⟩:=hW;go_simp) hHeld ?_
      simp only[Act.put,List.getElem_toArray,List.getElem_cons_succ,List.getElem_cons_zero,List.setIfInBounds_toArray,List.set_cons_zero,List.set_cons_succ];refine OrdS.tk (i:=7) (v:=.int .i64 u) rfl (by kernel_rfl) (fun _ _ _ h=>h) (by rfl) (fun Wz hW=>by obtain⟨a0,a1⟩:=hW;go_simp) hHeld ?_
      simp only[Act.put,List.getElem_toArray,List.getElem_cons_succ,List.getElem_cons_zero,List.setIfInBounds_toArray,List.set_cons_zero,List.set_cons_succ];refine OrdS.tk (i:=8) (v:=.int .i64 (hlf u)) rfl (by kernel_rfl) (fun _ _ _ h=>h) (by rfl) (fun Wz hW=>by obtain⟨a0,a1⟩:=hW;go_simp;exact zup ub.1 ub.2) hHeld ?_
      simp only[Act.put,List.getElem_toArray,List.getElem_cons_succ,List.getElem_cons_zero,List.setIfInBounds_toArray,List.set_cons_zero,List.set_cons_succ];refine OrdS.tk (i:=9) (v:=.pointer (some ⟨gq,j,none⟩)) rfl (by kernel_rfl) (fun _ _ _ h=>h) (by rfl) (fun Wz hW=>by obtain⟨a0,a1⟩:=hW;go_simp) hHeld ?_
      simp only[Act.put,List.getElem_toArray,List.getElem_cons_succ,List.getElem_cons_zero,List.setIfInBounds_toArray,List.set_cons_zero,List.set_cons_succ];refine OrdS.rest_ready (rs:=[10]) (by kernel_rfl) (by simp) ?_
      refine OrdS.Each.cons rfl (fun K hK=>?_) OrdS.Each.nil
      simp only[List.getElem_toArray,List.getElem_cons_succ,List.getElem_cons_zero];rw[if_pos (by rfl)]
      have g2:=CJ.out _ Kwt0.out;have gf:=(IG2.out _ Kwt0.out).frozen j
      go_simp
      refine hK.out _ _ (fun e=>absurd (by simp) e) ?_
      clear hK K;refine OrdS.rest_done (by kernel_rfl) ?_ _
      have IN:Hid (zkx (wt0.setCell ⟨gq,j,none⟩ (.int .i64 (hlf u))) (bz+1) (some ⟨gq,0,none⟩) pmm (fun i=>if i<j+1 then hlf (p.Z i) else p.Z i)):=fun _=>⟨gq,rfl,lgq.out,((IG2.out _ Kwt0.out).set (hlf u)).congr fun i hi=>by
       by_cases e:i=j
       ·rw[if_pos e,if_pos (by omega),e,hu.out]
       ·rw[if_neg e]
        by_cases e2:i<j
        ·rw[if_pos e2,if_pos (by omega)]
        ·rw[if_neg e2,if_neg (by omega)]⟩
      have KN:Hid (Keep w5 (wt0.setCell ⟨gq,j,none⟩ (.int .i64 (hlf u)))):=(KR.out.trans Kwt0.out).set (by have:=lgq.out;have:=hbz.out;show _≤gq;omega) _
      have BN:Hid ((wt0.setCell ⟨gq,j,none⟩ (.int .i64 (hlf u))).heap[bz]?=some (.cells (zab z) 26 (0,0))):=(Below.heap_setCell _ _ _ _ (by have:=lgq.out;show bz≠gq;omega)).trans (Keep.block Kwt0.out BR.out)
      clear IG2 CJ CZ hHeld HELD;go_wp2;go_roundg (pmm - (j+1))
      case measure=>omega
      case rel=>exact⟨j+1,hlt,rfl,by go_num,KN.out,BN.out,IN.out⟩
     ·obtain rfl:j=pmm:=by omega
      have KE:Hid (Keep W3 wr):=K5.out.trans KR.out;have ZI:Hid (∀ Wz,Keep wr Wz→zaf Wz z):=fun Wz kk=>by
       refine⟨?_,?_,?_⟩
       ·rw[zA2.out.1,zA2.out.2.1,hz.out]
        exact(IR.out.keep kk).rd (fun i hi=>if_pos hi) (by omega) fun i hi=>acn (pr.out i hi).1 (pr.out i hi).2
       ·rw[zA2.out.1,zA2.out.2.1,zA2.out.2.2,hpmm.out]
        exact qn.out
       ·rw[hz.out];exact px0.out.rng
      obtain⟨gl,hgl⟩:∃ l,l=zbk z M L 2:=⟨_,rfl⟩;have SUB:Hid (∀ k∈fl,decide (k∈gl)=true):=fun k hk=>by
       rw[hgl];rw[hfl.out] at hk;exact decide_eq_true (zyv (fun k h=>zum (C.ok ST.out.o) (by rw[hz.out]) (by rw[hz.out]) (by rw[hz.out]) (by rw[hz.out]) h) hk)
      have pmz:z.m≤1000:=by rw[zA2.out.2.1];omega
      have dz:decide (j<z.m)=false:=decide_eq_false (by rw[zA2.out.2.1];omega)
      have cN:Hid (∀ Wz,Keep wr Wz→Calls Tryz.prog 11 #[.pointer (some ⟨q,0,none⟩),z.val] Wz fun e w'=>∃ A c,e=.returned (.slice A gl.length c)∧Hid (zcv w' (.slice A gl.length c) gl)∧Hid (Keep Wz w')):=fun Wz kk=>by
       obtain⟨k1,k2,k3⟩:=KF.out Wz (KE.out.trans kk);refine(F.nodes z k1 k2 (ZI.out Wz kk) (by omega) pmz m100.out l100.out).mono ?_
       rintro e w' ⟨v,he,⟨A,c,e2,hr,hn⟩,_,k⟩;subst e2;rw[hgl];exact⟨A,c,he,⟨A,c,rfl,hr,hn⟩,k⟩
      unfold zaa.val at cN;replace hgl:=Lib.hid hgl;replace pmz:=Lib.hid pmz;clear x4;have X0:=zah BR.out;have z0:=X0.e0;have z1:=X0.e1;have z2:=X0.e2;have z3:=X0.e3;have z4:=X0.e4;have z5:=X0.e5;have z6:=X0.e6;have z7:=X0.e7;have z8:=X0.e8;clear X0;have cc:=Lib.hid (cN.out wr (Keep.refl _));go_wp2_with fail;clear z0 z1 z2 z3 z4 z5 z6 z7 z8;refine cc.out.mono ?_;rintro e' w10 ⟨gA,gc,rfl,RG,k10⟩;have RFa:=Lib.hid (RF.out.keep (KR.out.trans k10.out));have K10:Hid (Keep W3 w10):=KE.out.trans k10.out;obtain⟨nf,hnf⟩:∃ n,n=fl.length:=⟨_,rfl⟩;have bf:nf≤100:=by rw[hnf];exact flL.out
      obtain⟨A0,c0,ev,RD,_⟩:=RFa.out;simp only[Value.slice.injEq] at ev;obtain⟨rfl,_,rfl⟩:=ev;have RD:Hid (Rd w10 fA fl.length (zbq fl)):=RD;rw[← hnf] at RD;rw[← hnf];replace hnf:=Lib.hid hnf;replace k10:=Lib.hid k10;clear cc cN;generalize hwo:w10=wo at *;clear hwo;go_wp2
      go_loopg [13] nf (fun gx s13 wr=>∃ j:Nat,j≤nf∧gx=nf - j∧s13=.int .i64 j∧Hid (Keep wo wr))
      case atStart=>exact⟨0,Nat.zero_le _,rfl,rfl,Keep.refl _⟩
      case round =>
       obtain⟨i,hi,rfl,rfl,KS⟩:=hrel
       by_cases hlt:i<nf
       ·obtain⟨b,off,rfl,ca⟩:=(RD.out.keep KS.out).adr (by omega)
        have c0:=ca i hlt;clear ca;obtain⟨x,hx⟩:∃ x,x=zbq fl i:=⟨_,rfl⟩;rw[← hx] at c0;have cc:=Lib.hid (zmx (RG.out.keep KS.out) x);rw[hx,SUB.out _ (zdo (by rw[← hnf.out];exact hlt)),← hx] at cc
        replace hx:=Lib.hid hx;go_wp2_with fail;refine cc.out.mono ?_;rintro e' w11 ⟨rfl,k11⟩;have KN:Hid (Keep wo w11):=KS.out.trans k11;replace k11:=Lib.hid k11;clear cc c0;go_wp2;go_roundg (nf - (i+1))
        case measure=>omega
        case rel=>exact⟨i+1,hlt,rfl,by go_num,KN.out⟩
       ·obtain rfl:i=nf:=by omega
        go_wp2;go_ret
        exact⟨rfl,K0.out.trans (K3.out.trans (K10.out.trans KS.out))⟩
end Go.Proofs.YtihjgcibpfajkaaGreatDoor.T17
