/-
  An append to a slice of numbers that has no room, of what lies behind it. No condition.
  The law of P17.1: a node more does not change whether a pod fits on the others. Condition: errors.errorType holds its own.
-/
import Derived.Test.YtihjgcibpfajkaaGreatDoorD18
import Derived.Test.YtihjgcibpfajkaaGreatDoorD47
import Derived.ArgAppend
namespace Go.Proofs.YtihjgcibpfajkaaGreatDoor.T17
open Go.RowKit Go.Sort Go.Lib V12 T13 T14 T15 T16
theorem wp_cut{o:Oper}{a:Act}{w:World}{K:Act→World→Prop}{Q:Exit→Act→World→Prop}(s x:Operand)(ho:o.op=.call { callee:=.builtin .append,args:=#[s,x],argTypes:=#[36,36] })
  (b off n k c:Nat) (Z:Nat→Int) (hc:∀ j,j<n→w.cell? ⟨b,off+j,none⟩=some (.int .i64 (Z j))) (hr:∀ j,j<n→-9223372036854775808≤Z j∧Z j≤9223372036854775807) (hk:k<n) (hs:a.eval s=.slice (some ⟨b,off,none⟩) k k) {o2:Nat} (hx:a.eval x=.slice (some ⟨b,o2,none⟩) (n - (k+1)) c) (ho2:n - (k+1)≠0→o2=off+(k+1)) (hn:n≤1000)
  (h:∀ A' c' w',Rd w' A' (n - 1) (fun j=>if j<k then Z j else Z (j+1))→Keep w w'→K (a.put o.dst (.slice A' (n - 1) c')) w'):Oper.wp Tryz.prog o a w K Q:=by
 obtain⟨i0,hi0,hz0,hz1,hz2⟩:=info_parts Tryz.infoI16;have hnews:∀ j u,(zbo (n - (k+1)) fun t=>Z (k+1+t))[j]?=some u→w.cell? ((⟨b,off+(k+1),none⟩:Addr).add j)=some u:=fun j u hu=>by
  obtain⟨hj,rfl⟩:=zjz hu;rw[WideShapes.add_plain,Nat.add_assoc];exact hc _ (by omega)
 by_cases hm:n - (k+1)=0
 ·have hrun:=run_append_room_cells (P:=Tryz.prog) w 36 o.type 3 i0 Tryz.underlying36 hi0 b off k k ⟨b,o2,none⟩ 0 c [] (by simp) (fun j u hu=>by simp at hu) (fun u hu=>by simp at hu) (Nat.le_refl _) (fun j hj=>by simp at hj) (fun j hj=>by simp at hj)
  rw[hm] at hx;unfold Oper.wp;simp[execOp,ho,resolve,invoke,builtin,hs,hx,hrun,Result.andThen,World.setCells]
  have e1:n - 1=k:=by omega
  have:=h (some ⟨b,off,none⟩) k w ⟨by omega,fun j hj=>by rw[if_pos (by omega)];exact hr j (by omega),fun _=>⟨b,off,rfl,fun j hj=>by rw[if_pos (by omega)];exact hc j (by omega)⟩⟩ (Keep.refl w)
  rw[e1] at this;exact this
 ·obtain rfl:=ho2 hm
  have hol:∀ j u,(zbo k Z)[j]?=some u→w.cell? ((⟨b,off,none⟩:Addr).add j)=some u:=fun j u hu=>by
   obtain⟨hj,rfl⟩:=zjz hu;rw[WideShapes.add_plain];exact hc _ (by omega)
  obtain⟨v',w',hrun,r1,r2⟩:=run_append_arg_grows (P:=Tryz.prog) w 36 o.type 3 i0 _ 1 8 Tryz.underlying36 hi0 hz0 hz1 hz2 rfl (by decide) ⟨b,off,none⟩ k k (zbo k Z) (by rw[Nat.mul_one];exact zka k Z) hol ⟨b,off+(k+1),none⟩ (n - (k+1)) c (zbo (n - (k+1)) fun t=>Z (k+1+t)) (by rw[Nat.mul_one];exact zka _ _) hnews (by omega) (by unfold maxLen;omega) (by omega)
  unfold Oper.wp;simp[execOp,ho,resolve,invoke,builtin,hs,hx,hrun,Result.andThen]
  have e1:k+(n - (k+1))=n - 1:=by omega
  have e2:zbo k Z++zbo (n - (k+1)) (fun t=>Z (k+1+t))=zbo (n - 1) (fun j=>if j<k then Z j else Z (j+1)):=by
   refine List.ext_getElem? fun i=>?_
   unfold zbo
   by_cases h1:i<k
   ·rw[List.getElem?_append_left (by simp;omega),List.getElem?_map,List.getElem?_range h1,List.getElem?_map,List.getElem?_range (by omega)]
    simp[h1]
   ·rw[List.getElem?_append_right (by simp;omega)]
    by_cases h2:i<n - 1
    ·simp only[List.length_map,List.length_range]
     rw[List.getElem?_map,List.getElem?_range (by omega),List.getElem?_map,List.getElem?_range h2]
     simp only[Option.map_some,if_neg h1];rw[show k+1+(i - k)=i+1 by omega]
    ·rw[List.getElem?_eq_none (by simp;omega),List.getElem?_eq_none (by simp;omega)]
  rw[e1,e2] at r1;obtain⟨A',c',e3,hR,_⟩:=own_row r1 (by omega) fun j hj=>by
   by_cases h1:j<k
   ·rw[if_pos h1];exact hr j (by omega)
   ·rw[if_neg h1];exact hr (j+1) (by omega)
  subst e3;exact h A' c' w' hR (Below.grown (Keep.refl w) r2 (Nat.le_refl _) (fun g h=>by cases h))
end Go.Proofs.YtihjgcibpfajkaaGreatDoor.T17
namespace Go.Proofs.YtihjgcibpfajkaaGreatDoor.T17
open Go.RowKit Go.Sort Go.Lib V12 T13 T14 T15 T16
set_option maxRecDepth 100000 in
set_option maxHeartbeats 16000000 in
theorem add_walk{CS:zba}(C:Con CS)(N:zga CS)(F:zik CS)(HA:ziv)(A:Option Addr)(n c:Nat)(Pn:Nat→C14.NdC)(B:Option Addr)(m e:Nat)(Pp:Nat→PlV)(p:zaa)(k:Int)(CA:Option Addr)(cn ccp:Nat)(Z:Nat→Int)(w:World)(hN:C14.RdC w A n Pn)(hP:zkz w B m Pp)(hpx:zaf w p)(hg:zaw w)(hk:I64 k)(hCA:Rd w CA cn Z)(nilC:CA=none→cn=0∧ccp=0):Calls Tryz.prog 6 #[.slice A n c,.slice B m e,p.val,.agg #[.int .i64 k,.slice CA cn ccp]] w fun e w'=>e=.returned (.bool true)∧Keep w w':=by
 have mixed:Tryz.prog.follows .mixedOrders=true:=by kernel_rfl
 obtain⟨W0,hW0⟩:∃ W0,W0=(w.alloc (.cells (zab p) 26)).alloc (.cells #[.int .i64 k,.slice CA cn ccp] 55):=⟨_,rfl⟩;have K0:Hid (Keep w W0):=by rw[hW0];exact(Keep.one _ _).alloc _
 have BP:Hid (W0.heap[w.heap.size]?=some (.cells (zab p) 26 (0,0))):=by rw[hW0];exact(Keep.one _ _).block (heap_alloc_new _ _)
 obtain⟨bn,hbn⟩:∃ b,b=(w.alloc (.cells (zab p) 26)).heap.size:=⟨_,rfl⟩;have BN:Hid (W0.heap[bn]?=some (.cells #[.int .i64 k,.slice CA cn ccp] 55 (0,0))):=by rw[hW0,hbn];exact heap_alloc_new _ _
 rw[World.size_alloc] at hbn;obtain⟨bp,hbp⟩:∃ b,b=w.heap.size:=⟨_,rfl⟩;rw[← hbp] at BP;have hg0:Hid (zaw W0):=hg.keep K0.out;have cB:=Lib.hid (zgn C N A n c Pn B m e Pp W0 (hN.keep K0.out) (hP.keep K0.out) hg0.out);have aw:Hid (∀ W2,Keep W0 W2→Calls Tryz.prog 8 #[] W2 fun e w'=>e=.returned (.bool true)∧Keep W2 w'):=fun W2 k=>HA W2 (hg0.out.keep k)
 have px0:=hpx.keep K0.out;replace hN:=Lib.hid hN;replace hP:=Lib.hid hP;replace hg:=Lib.hid hg;replace hpx:=Lib.hid hpx;replace px0:=Lib.hid px0;unfold zab at hW0;unfold zaa.val
 go_enter Tryz.func6,Tryz.ntmps6
 go_wp2_with fail;rw[← hW0,← hbn,← hbp];replace hbn:=Lib.hid hbn;replace hW0:=Lib.hid hW0;replace hbp:=Lib.hid hbp;refine cB.out.mono ?_;rintro e' w1 ⟨k1,⟨x,rfl⟩ | ⟨q,M,L,X,x,Q,P,rfl,ST,hM,hL⟩⟩
 ·obtain⟨W1,hW1⟩:∃ W1,W1=w1.alloc (.cells x.arr 30):=⟨_,rfl⟩
  have K1:Hid (Keep W0 W1):=by rw[hW1];exact k1.alloc _
  replace k1:=Lib.hid k1;have a1:=Lib.hid (aw.out W1 K1.out);unfold RcV.arr at hW1;unfold RcV.val;go_wp2_with fail;rw[← hW1];replace hW1:=Lib.hid hW1;refine a1.out.mono ?_;rintro e' w2 ⟨rfl,k2⟩;have K2:Hid (Keep W0 w2):=K1.out.trans k2;replace k2:=Lib.hid k2;clear a1;have a2:=Lib.hid (aw.out w2 K2.out);go_wp2_with fail;refine a2.out.mono ?_;rintro e' w3 ⟨rfl,k3⟩;replace k3:=Lib.hid k3;go_wp2;go_ret
  exact⟨rfl,K0.out.trans (K2.out.trans k3.out)⟩
 ·obtain⟨W1,hW1⟩:∃ W1,W1=w1.alloc (.cells x.arr 30):=⟨_,rfl⟩
  have K1:Hid (Keep W0 W1):=by rw[hW1];exact k1.alloc _
  replace k1:=Lib.hid k1;replace ST:=Lib.hid (ST.keep C (show Keep w1 W1 by rw[hW1];exact Keep.one _ _))
  replace hM:=Lib.hid hM;replace hL:=Lib.hid hL;have BX:Hid (W1.heap[w1.heap.size]?=some (.cells x.arr 30 (0,0))):=by rw[hW1];exact heap_alloc_new _ _
  have a1:=Lib.hid (aw.out W1 K1.out);unfold RcV.arr at hW1;unfold RcV.val;go_wp2_with fail;rw[← hW1];try replace hW1:=Lib.hid hW1
  refine a1.out.mono ?_;rintro e' w2 ⟨rfl,k2⟩;have K2:Hid (Keep W0 w2):=K1.out.trans k2;replace ST:=Lib.hid (ST.out.keep C k2);replace BX:Hid (w2.heap[w1.heap.size]?=some (.cells x.arr 30 (0,0))):=Keep.block k2 BX.out;replace k2:=Lib.hid k2;obtain⟨bx,hbx⟩:∃ b,b=w1.heap.size:=⟨_,rfl⟩;rw[← hbx] at BX ⊢;replace hbx:=Lib.hid hbx;clear a1;have X0:=zah (Keep.block K2.out BP.out);have x0:=X0.e0;have x1:=X0.e1;have x2:=X0.e2;have x3:=X0.e3;have x4:=X0.e4;have x5:=X0.e5;have x6:=X0.e6;have x7:=X0.e7;have x8:=X0.e8;clear X0;obtain⟨W3,hW3⟩:∃ W3,W3=w2.alloc (.cells (zab p) 26):=⟨_,rfl⟩;have B3:Hid (W3.heap[w2.heap.size]?=some (.cells (zab p) 26 (0,0))):=by rw[hW3];exact heap_alloc_new _ _
  have k23:Hid (Keep w2 W3):=by rw[hW3];exact Keep.one _ _
  have K3:Hid (Keep W0 W3):=K2.out.trans k23.out;replace ST:=Lib.hid (ST.out.keep C k23.out);replace BX:Hid (W3.heap[bx]?=some (.cells x.arr 30 (0,0))):=Keep.block k23.out BX.out;obtain⟨fb,hfb⟩:=zgq p;have cF:=Lib.hid (zgz (some ⟨w2.heap.size,0,none⟩) 1 1 (fun _=>p) W3 (zfa B3.out (px0.out.keep K3.out)) fb hfb)
  unfold zab at hW3;replace hfb:=Lib.hid hfb;go_wp2_with fail;rw[← hW3];replace hW3:=Lib.hid hW3;refine cF.out.mono ?_;rintro e' w4 ⟨rfl,rfl⟩;clear x0 x1 x2 x3 x4 x5 x6 x7 x8 cF;cases fb with
  | false =>
    have a2:=Lib.hid (aw.out W3 K3.out);go_wp2_with fail;refine a2.out.mono ?_;rintro e' w5 ⟨rfl,k5⟩;replace k5:=Lib.hid k5;go_wp2;go_ret
    exact⟨rfl,K0.out.trans (K3.out.trans k5.out)⟩
  | true =>
    have fx:=Lib.hid (hfb.out.1 rfl);have hb:-1073741824≤p.p∧p.p≤1073741824∧p.m≤20:=fx.out.2 0 (by omega)
    have l100:Hid (L.length≤100):=Nat.le_trans hL.out (by omega)
    have m100:Hid (M.length≤100):=Nat.le_trans hM.out (by omega)
    have pm:Hid (p.m≤1000):=Nat.le_trans hb.2.2 (by omega)
    replace hb:=Lib.hid hb;have KF:Hid (∀ Wz,Keep W3 Wz→CS W0 2 q M L X Wz∧zaw Wz∧zaf Wz p):=fun Wz kk=>⟨C.keep ST.out.o kk,hg0.out.keep (K3.out.trans kk),px0.out.keep (K3.out.trans kk)⟩
    replace hk:=Lib.hid hk;replace hCA:=Lib.hid hCA;replace nilC:=Lib.hid nilC;have lM2:Hid (M.length≤20):=hM.out;have NC:Hid (∀ Wz,Keep W0 Wz→Wz.cell? ⟨bn,0,none⟩=some (.int .i64 k)∧Wz.cell? ⟨bn,1,none⟩=some (.slice CA cn ccp)):=fun Wz kk=>by
     have h:=Keep.block kk BN.out;exact⟨by rw[cell_of_row Wz _ _ _ _ _ h];rfl,by rw[cell_of_row Wz _ _ _ _ _ h];rfl⟩
    have n1:=(NC.out W3 K3.out).2
    by_cases hlen:(20:Int)<(cn:Int)
    ·have hlb:decide ((20:Int)<(cn:Int))=true:=decide_eq_true hlen
     replace hlen:=Lib.hid hlen;have a2:=Lib.hid (aw.out W3 (K3.out.trans (Keep.refl W3)));go_wp2_with fail;refine a2.out.mono ?_;rintro e' wa ⟨rfl,ka⟩;replace ka:=Lib.hid ka;go_wp2;go_ret
     exact⟨rfl,K0.out.trans (K3.out.trans ((Keep.refl W3).trans ka.out))⟩
    ·have hlb:decide ((20:Int)<(cn:Int))=false:=decide_eq_false hlen
     have hcn:Hid (cn≤1000):=by show _≤_;omega
     replace hlen:=Lib.hid hlen;obtain⟨fl,hfl⟩:∃ l,l=zbk p M L 2:=⟨_,rfl⟩;have cN:Hid (∀ Wz,Keep W3 Wz→Calls Tryz.prog 11 #[.pointer (some ⟨q,0,none⟩),p.val] Wz fun e w'=>∃ A c,e=.returned (.slice A (zbk p M L 2).length c)∧Hid (zcv w' (.slice A (zbk p M L 2).length c) (zbk p M L 2))∧Hid (∀ g,(Value.slice A (zbk p M L 2).length c).ownBlock=some g→Wz.heap.size≤g)∧Hid (Keep Wz w')):=fun Wz kk=>by
      obtain⟨k1,k2,k3⟩:=KF.out Wz kk;refine(F.nodes p k1 k2 k3 (by omega) pm.out m100.out l100.out).mono ?_
      rintro e w' ⟨v,he,⟨A,c,e2,hr,hn⟩,ho,k⟩;subst e2;exact⟨A,c,he,⟨A,c,rfl,hr,hn⟩,ho,k⟩
     rw[← hfl] at cN;replace hfl:=Lib.hid hfl;unfold zaa.val at cN;have X0:=zah (Keep.block K3.out BP.out);have p0:=X0.e0;have p1:=X0.e1;have p2:=X0.e2;have p3:=X0.e3;have p4:=X0.e4;have p5:=X0.e5;have p6:=X0.e6;have p7:=X0.e7;have p8:=X0.e8;clear X0;have cc:=Lib.hid (cN.out W3 (Keep.refl _));go_wp2_with fail;clear p0 p1 p2 p3 p4 p5 p6 p7 p8;refine cc.out.mono ?_;rintro e' w5 ⟨fA,fc,rfl,RF,fo,K5⟩;clear cc n1;have o5:=Lib.hid (C.more (Z:=fun i=>W3.heap.size≤i∧i<w5.heap.size) ST.out.o K5.out fun _ h=>h)
     obtain⟨cd,hcd⟩:∃ c,c=adC M 2 k cn Z:=⟨_,rfl⟩;obtain⟨M2,hM2⟩:∃ l,l=adL M 2 k cn Z:=⟨_,rfl⟩;have cA:=Lib.hid (C.addNode k CA cn ccp Z o5.out (hg0.out.keep (K3.out.trans K5.out)) (hCA.out.keep (K0.out.trans (K3.out.trans K5.out))) nilC.out hk.out hcn.out m100.out);rw[← hcd,← hM2] at cA;have m2:Hid (M2.length≤100):=by
      have:=lM2.out;show _≤_
      rw[hM2];unfold adL
      split
      ·rw[G.ins_len];omega
      ·omega
     obtain⟨n0,n1⟩:=NC.out w5 (K3.out.trans K5.out);go_wp2_with fail;refine cA.out.mono ?_;rintro e' w6 ⟨rfl,o6,sx⟩;have K6:Hid (Keep W0 w6):=C.kp o6;have RF6:Hid (zcv w6 (.slice fA fl.length fc) fl):=by
      obtain⟨A,c,e,hr,hn⟩:=RF.out;simp only[Value.slice.injEq] at e;obtain⟨rfl,_,rfl⟩:=e
      exact⟨_,_,rfl,⟨hr.small,hr.range,fun hp=>by
       obtain⟨b,off,rfl,hc⟩:=hr.adr hp;refine⟨b,off,rfl,fun j hj=>(World.cell?_of_block (sx b (Or.inr ⟨fo.out b rfl,?_⟩))).trans (hc j hj)⟩
       exact World.block_lt_of_cell? _ _ (hc j hj)⟩,hn⟩
     replace o6:=Lib.hid o6;replace sx:=Lib.hid sx;clear cA n0 n1 cN;obtain⟨gl,hgl⟩:∃ l,l=zbk p M2 L 2:=⟨_,rfl⟩;have glL:Hid (gl.length≤100):=by rw[hgl];exact zgr m2.out
     have cN:Hid (∀ Wz,Keep w6 Wz→Calls Tryz.prog 11 #[.pointer (some ⟨q,0,none⟩),p.val] Wz fun e w'=>∃ A c,e=.returned (.slice A gl.length c)∧Hid (zcv w' (.slice A gl.length c) gl)∧Hid (Keep Wz w')):=fun Wz kk=>by
      refine(F.nodes p (C.keep o6.out kk) (hg0.out.keep (K6.out.trans kk)) (px0.out.keep (K6.out.trans kk)) (by omega) pm.out m2.out l100.out).mono ?_
      rintro e w' ⟨v,he,⟨A,c,e2,hr,hn⟩,_,kz⟩;subst e2;rw[hgl];exact⟨A,c,he,⟨A,c,rfl,hr,hn⟩,kz⟩
     unfold zaa.val at cN;have eq_ids:Hid (∀ (Wz:World) (A B:Option Addr) (c e n:Nat) (Y:Nat→Int),zcv Wz (.slice A fl.length c) fl→Rd Wz B n Y→fl.length=n→(∀ j,j<n→zbq fl j=Y j)→Calls Tryz.prog 21 #[.slice A fl.length c,.slice B n e] Wz fun e w'=>e=.returned (.bool true)∧Keep Wz w'):=fun Wz A B c e n Y h1 h2 hn hY=>by
      obtain⟨A1,c1,e1,hr,_⟩:=h1;simp only[Value.slice.injEq] at e1;obtain⟨rfl,_,rfl⟩:=e1;refine(zli A B fl.length n c e (zbq fl) Y Wz hr h2).mono ?_;rintro e' w' ⟨h3,h4⟩;rw[zhb hn fun j hj=>hY j (by omega)] at h3
      exact⟨h3,h4.keep⟩
     have eq_ids2:Hid (∀ (Wz:World) (A B:Option Addr) (c e n:Nat) (Y:Nat→Int),zcv Wz (.slice A fl.length c) fl→Rd Wz B n Y→fl.length=n→(∀ j,j<n→zbq fl j=Y j)→Calls Tryz.prog 21 #[.slice B n e,.slice A fl.length c] Wz fun e w'=>e=.returned (.bool true)∧Keep Wz w'):=fun Wz A B c e n Y h1 h2 hn hY=>by
      obtain⟨A1,c1,e1,hr,_⟩:=h1;simp only[Value.slice.injEq] at e1;obtain⟨rfl,_,rfl⟩:=e1;refine(zli B A n fl.length e c Y (zbq fl) Wz h2 hr).mono ?_;rintro e' w' ⟨h3,h4⟩;rw[zhb hn.symm fun j hj=>(hY j hj).symm] at h3
      exact⟨h3,h4.keep⟩
     have X0:=zah (Keep.block K6.out BP.out);have p0:=X0.e0;have p1:=X0.e1;have p2:=X0.e2;have p3:=X0.e3;have p4:=X0.e4;have p5:=X0.e5;have p6:=X0.e6;have p7:=X0.e7;have p8:=X0.e8;clear X0
     by_cases hc:cd=0
     ·have ef:zbu cd (wrI 2 cn Z)=.nilIface:=by unfold zbu;rw[if_pos hc]
      have hx:k∉nk M:=(zgl (by rw[← hcd];exact hc)).2
      have ei:M2=G.ins NV.k ⟨k,Z⟩ M:=by rw[hM2];unfold adL;rw[← hcd,if_pos hc]
      have WO:Hid (gl.filter (fun j=>decide (j≠k))=fl):=by
       show _=_
       rw[hgl,hfl.out,ei];exact zye (x:=⟨k,Z⟩) (C.ok ST.out.o).srt hx
      have ND:Hid (gl.Nodup):=by
       rw[hgl,ei];exact zov (G.ins_sorted (C.ok ST.out.o).srt hx)
      rw[ef];replace hc:=Lib.hid hc;replace hcd:=Lib.hid hcd;replace hM2:=Lib.hid hM2;replace hgl:=Lib.hid hgl;replace hx:=Lib.hid hx;replace ei:=Lib.hid ei;clear ef;have cc:=Lib.hid (cN.out w6 (Keep.refl _));go_wp2_with fail;clear p0 p1 p2 p3 p4 p5 p6 p7 p8;refine cc.out.mono ?_;rintro e' w7 ⟨gA,gc,rfl,RG,K7⟩;have RF7:=Lib.hid (RF6.out.keep K7.out);have n0:=(NC.out w7 (K6.out.trans K7.out)).1;obtain⟨A0,c0,ev,hRG,hRn⟩:=RG.out;simp only[Value.slice.injEq] at ev;obtain⟨rfl,_,rfl⟩:=ev;have RD:Hid (Rd w7 gA gl.length (zbq gl)):=hRG;replace hRG:=Lib.hid hRG;replace hRn:=Lib.hid hRn;clear cc;have ci:=Lib.hid (zqk gA gl.length gc (zbq gl) k w7 RD.out);go_wp2_with fail;clear n0;refine ci.out.mono ?_;rintro e' w8 ⟨r,rfl,hr,k8⟩;have K8:Hid (Keep w7 w8):=k8;replace k8:=Lib.hid k8;clear ci;rcases hr with ⟨er,ho⟩ | ⟨i,hi,er,hz,_⟩
      ·have rb:decide (0≤r)=false:=by rw[er];rfl
       have hk2:k∉gl:=fun h=>by
        obtain⟨j,hj,e⟩:=znk h;exact ho j hj e
       have e0:fl=gl:=WO.out.symm.trans (aek hk2);have ce:=Lib.hid (eq_ids.out w8 fA gA fc gc gl.length (zbq gl) (RF7.out.keep K8.out) (RD.out.keep K8.out) (by rw[e0]) (fun j _=>by rw[e0]))
       replace er:=Lib.hid er;replace ho:=Lib.hid ho;replace hk2:=Lib.hid hk2;replace e0:=Lib.hid e0;go_wp2_with fail;refine ce.out.mono ?_;rintro e' w9 ⟨rfl,k9⟩;replace k9:=Lib.hid k9;go_wp2;go_ret
       exact⟨rfl,K0.out.trans (K6.out.trans (K7.out.trans (K8.out.trans k9.out)))⟩
      ·have rb:decide ((0:Int)≤(i:Int))=true:=decide_eq_true (by omega)
       obtain⟨gb,go,hgA,gcs⟩:=(RD.out.keep K8.out).adr (by omega)
       have e0:Hid (fl=gl.take i++gl.drop (i+1)):=by
        show _=_
        rw[← WO.out,← aej ND.out hi,hz]
       have e1:Hid (fl.length=gl.length - 1):=by show _=_;rw[e0.out,zmh hi]
       have e2:Hid (∀ j,j<gl.length - 1→zbq fl j=if j<i then zbq gl j else zbq gl (j+1)):=fun j _=>by rw[e0.out];exact adg gl hi
       have grg:=Lib.hid RD.out.range;subst hgA;subst er;obtain⟨ng,hng⟩:∃ n,n=gl.length:=⟨_,rfl⟩;rw[← hng] at e1 e2 grg gcs hi;rw[← hng];have gb100:ng≤100:=by rw[hng];exact glL.out
       have GC:Hid (∀ Wz,Keep w8 Wz→∀ j,j<ng→Wz.cell? ⟨gb,go+j,none⟩=some (.int .i64 (zbq gl j))):=fun Wz kk j hj=>kk.cell (gcs j hj)
       obtain⟨i1,hi1⟩:∃ n,n=i+1:=⟨_,rfl⟩;have wi:IntKind.i64.wrap ((i:Int)+1)=(i1:Int):=by
        have e:(i1:Int)=(i:Int)+1:=by omega
        rw[e];exact IntWalk.i64_in _ (by omega)
       have li1:i1≤ng:=by omega
       have lcc:ng≤gc:=by rw[hng];exact hRn.out.2
       have lci:i≤gc:=by omega
       obtain⟨o2,ho2⟩:∃ o,o=if gc=i1 then go else go+i1:=⟨_,rfl⟩
       replace ho2:=Lib.hid ho2;replace hi1:=Lib.hid hi1;clear gcs;replace hz:=Lib.hid hz;replace hng:=Lib.hid hng;go_upto_region 10 with fail
       have HELD:∀ Wz,Keep w8 Wz→(True):=fun Wz KK=>trivial
       refine wp_region_held_drew (S:=fun w'=>True) (by kernel_rfl) ?_ (fun hHeld=>?_)
       ·exact HELD _ (by repeat (with_reducible first | exact Keep.refl w8 | apply Keep.alloc | apply Keep.drew | apply Keep.drewN))
       refine wpAnyH_take (i:=0) (v:=.slice (some ⟨gb,go,none⟩) ng gc) rfl (by kernel_rfl) (by kernel_rfl) (by kernel_rfl) (fun _ _ _ h=>h) (Or.inl ⟨by rfl,fun Wz hW=>by obtain _:=hW;go_simp⟩) hHeld ?_
       simp only[Act.put,List.getElem_toArray,List.getElem_cons_zero,List.setIfInBounds_toArray,List.set_cons_zero,List.set_cons_succ];refine wpAnyH_take (i:=1) (v:=.int .i64 i) rfl (by kernel_rfl) (by kernel_rfl) (by kernel_rfl) (fun _ _ _ h=>h) (Or.inl ⟨by rfl,fun Wz hW=>by obtain _:=hW;go_simp⟩) hHeld ?_
       simp only[Act.put,List.getElem_toArray,List.getElem_cons_succ,List.getElem_cons_zero,List.setIfInBounds_toArray,List.set_cons_zero,List.set_cons_succ];refine wpAnyH_take (i:=2) (v:=.int .i64 i) rfl (by kernel_rfl) (by kernel_rfl) (by kernel_rfl) (fun _ _ _ h=>h) (Or.inl ⟨by rfl,fun Wz hW=>by obtain _:=hW;go_simp⟩) hHeld ?_
       simp only[Act.put,List.getElem_toArray,List.getElem_cons_succ,List.getElem_cons_zero,List.setIfInBounds_toArray,List.set_cons_zero,List.set_cons_succ];refine wpAnyH_take (i:=4) (v:=.slice (some ⟨gb,go,none⟩) ng gc) rfl (by kernel_rfl) (by kernel_rfl) (by kernel_rfl) (fun _ _ _ h=>h) (Or.inl ⟨by rfl,fun Wz hW=>by obtain _:=hW;go_simp⟩) hHeld ?_
       simp only[Act.put,List.getElem_toArray,List.getElem_cons_succ,List.getElem_cons_zero,List.setIfInBounds_toArray,List.set_cons_zero,List.set_cons_succ];refine wpAnyH_take (i:=5) (v:=.int .i64 i) rfl (by kernel_rfl) (by kernel_rfl) (by kernel_rfl) (fun _ _ _ h=>h) (Or.inl ⟨by rfl,fun Wz hW=>by obtain _:=hW;go_simp⟩) hHeld ?_
       simp only[Act.put,List.getElem_toArray,List.getElem_cons_succ,List.getElem_cons_zero,List.setIfInBounds_toArray,List.set_cons_zero,List.set_cons_succ];refine wpAnyH_take (i:=6) (v:=.int .i64 (i1:Nat)) rfl (by kernel_rfl) (by kernel_rfl) (by kernel_rfl) (fun _ _ _ h=>h) (Or.inl ⟨by rfl,fun Wz hW=>by obtain _:=hW;go_simp⟩) hHeld ?_
       simp only[Act.put,List.getElem_toArray,List.getElem_cons_succ,List.getElem_cons_zero,List.setIfInBounds_toArray,List.set_cons_zero,List.set_cons_succ];refine wpAnyH_take (i:=3) (v:=.slice (some ⟨gb,go,none⟩) i i) rfl (by kernel_rfl) (by kernel_rfl) (by kernel_rfl) (fun _ _ _ h=>h) (Or.inl ⟨by rfl,fun Wz hW=>by obtain _:=hW;go_simp⟩) hHeld ?_
       simp only[Act.put,List.getElem_toArray,List.getElem_cons_succ,List.getElem_cons_zero,List.setIfInBounds_toArray,List.set_cons_zero,List.set_cons_succ];refine wpAnyH_take (i:=7) (v:=.slice (some ⟨gb,o2,none⟩) (ng - i1) (gc - i1)) rfl (by kernel_rfl) (by kernel_rfl) (by kernel_rfl) (fun _ _ _ h=>h) (Or.inl ⟨by rfl,fun Wz hW=>by obtain _:=hW;go_simp;rw[ho2.out];split<;>rfl⟩) hHeld ?_
       simp only[Act.put,List.getElem_toArray,List.getElem_cons_succ,List.getElem_cons_zero,List.setIfInBounds_toArray,List.set_cons_zero,List.set_cons_succ];refine wpAnyH_ready (rs:=[8]) (by kernel_rfl) (by simp) ?_
       refine AllReadyH.cons rfl (fun K hK=>?_) AllReadyH.nil
       simp only[List.getElem_toArray,List.getElem_cons_succ,List.getElem_cons_zero];rw[if_pos (by rfl)]
       refine wp_cut (.tmp 63) (.tmp 67) rfl gb go ng i (gc - i1) (zbq gl) (GC.out _ (Keep.refl w8).drew) grg.out hi (by simp[Act.eval]) (o2:=o2) (by rw[← hi1.out];simp[Act.eval]) (fun hm=>by rw[ho2.out,hi1.out,if_neg (by omega)]) (by omega) ?_
       intro A9 c9 w9 R9 k9;have K9:Hid (Keep w8 w9):=(Keep.refl w8).drew.trans k9;replace k9:=Lib.hid k9;refine hK.out _ _ trivial (fun hHeld=>?_)
       clear hK K;try simp only[Act.put,List.setIfInBounds_toArray,List.set_cons_zero,List.set_cons_succ]
       refine wpAnyH_take (i:=9) (v:=.slice A9 (ng - 1) c9) rfl (by kernel_rfl) (by kernel_rfl) (by kernel_rfl) (fun _ _ _ h=>h) (Or.inl ⟨by rfl,fun Wz hW=>by obtain _:=hW;go_simp⟩) hHeld ?_
       simp only[Act.put,List.getElem_toArray,List.getElem_cons_succ,List.getElem_cons_zero,List.setIfInBounds_toArray,List.set_cons_zero,List.set_cons_succ];refine wpAnyH_done (by kernel_rfl) ?_ _
       clear hHeld HELD;have ce:=Lib.hid (eq_ids.out w9 fA A9 fc c9 (ng - 1) _ (RF7.out.keep (K8.out.trans K9.out)) R9 e1.out e2.out);replace R9:=Lib.hid R9;go_wp2_with fail;refine ce.out.mono ?_;rintro e' wb ⟨rfl,kb⟩;replace kb:=Lib.hid kb;go_wp2;go_ret
       exact⟨rfl,K0.out.trans (K6.out.trans (K7.out.trans (K8.out.trans (K9.out.trans kb.out))))⟩
     ·have ef:zbu cd (wrI 2 cn Z)=.iface 124 (.agg #[.int .i64 cd,.int .i64 (wrI 2 cn Z)]):=by unfold zbu flt;rw[if_neg hc];rfl
      have eM:Hid (gl=fl):=by
       show _=_
       rw[hgl,hfl.out,hM2];unfold adL;rw[← hcd,if_neg hc]
      rw[ef];clear ef;replace hc:=Lib.hid hc;replace hcd:=Lib.hid hcd;replace hM2:=Lib.hid hM2;replace hgl:=Lib.hid hgl;have cc:=Lib.hid (cN.out w6 (Keep.refl _));go_wp2_with fail;clear p0 p1 p2 p3 p4 p5 p6 p7 p8;refine cc.out.mono ?_;rintro e' w7 ⟨gA,gc,rfl,RG,K7⟩;obtain⟨A0,c0,ev,hRG,hRn⟩:=RG.out;simp only[Value.slice.injEq] at ev;obtain⟨rfl,_,rfl⟩:=ev;have ce:=Lib.hid (eq_ids2.out w7 fA gA fc gc gl.length (zbq gl) (RF6.out.keep K7.out) hRG (by rw[eM.out]) (fun j _=>by rw[eM.out]))
      replace hRG:=Lib.hid hRG;replace hRn:=Lib.hid hRn;clear cc;go_wp2_with fail;refine ce.out.mono ?_;rintro e' w8 ⟨rfl,k8⟩;replace k8:=Lib.hid k8;go_wp2;go_ret
      exact⟨rfl,K0.out.trans (K6.out.trans (K7.out.trans k8.out))⟩
end Go.Proofs.YtihjgcibpfajkaaGreatDoor.T17
