/-
  The reference's Submit. Condition: at most 1000 pods.
-/
import Derived.Test.YtihjgcibpfajkaaGreatDoorD5
namespace Go.Proofs.YtihjgcibpfajkaaGreatDoor.T13
open Go.RowKit Go.Sort Go.Lib V12
theorem zco{W:World}{base k:Nat}(hb:base≤k)(h:W.heap[k]?=some (.cells #[] 26 (0,0))):W.ownsRow base 26 9 (.slice (some ⟨k,0,none⟩) 0 0) 0 []:=
 ⟨rfl,.inr ⟨k,0,#[],rfl,hb,h,Nat.le_refl _,Nat.zero_le _,rfl,rfl⟩⟩
def aeh(x:zaa)(a:Int):zaa:={ x with a:=a,h:=1,d:=-1,t:=-1 }
def zfc(B:Option Addr)(cp N:Nat)(P:Nat→zaa)(x:zaa)(W w':World)(B':Option Addr)(c' N':Nat)(P':Nat→zaa)(code:Int):Prop :=
 (code≠0∧B'=B∧c'=cp∧N'=N∧P'=P)∨(code=0∧N'=N+1∧P'=put P N (aeh x N)∧w'.ownsRow W.heap.size 26 9 (.slice B' N' c') N' (zaq P' N'))
set_option maxRecDepth 100000 in
set_option maxHeartbeats 16000000 in
theorem zwi(B:Option Addr)(cp N:Nat)(P:Nat→zaa)(s:Int)(x:zaa)(W:World)(hR:zax W B N P)(hB:B=none→N=0∧cp=0)(hk:0≤findN P x.k N):
  Calls Tryz.prog 48 #[.slice B N cp,.int .i64 s,x.val] W fun e w'=>∃ B' c' N' P',e=.returned (.tuple #[.slice B' N' c',.int .i64 6])∧Keep W w'∧(B'=B∧c'=cp∧N'=N∧P'=P):=by
 obtain⟨W0,hW0⟩:∃ W0,W0=W.alloc (.cells (zab x) 26):=⟨_,rfl⟩;obtain⟨b,hb⟩:∃ b,b=W.heap.size:=⟨_,rfl⟩;have K0:Hid (Keep W W0):=by rw[hW0];exact Keep.one _ _
 have X0:W0.heap[b]?=some (.cells (zab x) 26 (0,0)):=by rw[hW0,hb];exact heap_alloc_new _ _
 have cF:=Lib.hid (zch B N cp P x.k W0 (hR.keep K0.out));have RW:=Lib.hid hR;have nilB:=Lib.hid hB;obtain⟨x0,x1,x2,x3,x4,x5,x6,x7,x8,xf⟩:=zah X0;obtain⟨r,hr⟩:∃ r,r=findN P x.k N:=⟨_,rfl⟩;rw[← hr] at cF;have hr0:0≤r:=by rw[hr];exact hk
 replace hr:=Lib.hid hr;unfold zaa.val;unfold zab at hW0;replace X0:=Lib.hid X0;clear hR hB
 go_enter Tryz.func48,Tryz.ntmps48
 go_wp2_with fail;rw[← hW0,← hb];replace hW0:=Lib.hid hW0;replace hb:=Lib.hid hb;refine cF.out.mono ?_;rintro e w1 ⟨rfl,rfl⟩;go_wp2;go_ret2
 exact⟨B,cp,N,P,rfl,K0.out,rfl,rfl,rfl,rfl⟩
set_option maxRecDepth 100000 in
set_option maxHeartbeats 16000000 in
theorem zsx(B:Option Addr)(cp N:Nat)(P:Nat→zaa)(s:Int)(x:zaa)(W:World)(hR:zax W B N P)(hB:B=none→N=0∧cp=0)(hk:¬0≤findN P x.k N)(hf:s≤N):
  Calls Tryz.prog 48 #[.slice B N cp,.int .i64 s,x.val] W fun e w'=>∃ B' c' N' P',e=.returned (.tuple #[.slice B' N' c',.int .i64 7])∧Keep W w'∧(B'=B∧c'=cp∧N'=N∧P'=P):=by
 obtain⟨W0,hW0⟩:∃ W0,W0=W.alloc (.cells (zab x) 26):=⟨_,rfl⟩;obtain⟨b,hb⟩:∃ b,b=W.heap.size:=⟨_,rfl⟩;have K0:Hid (Keep W W0):=by rw[hW0];exact Keep.one _ _
 have X0:W0.heap[b]?=some (.cells (zab x) 26 (0,0)):=by rw[hW0,hb];exact heap_alloc_new _ _
 have cF:=Lib.hid (zch B N cp P x.k W0 (hR.keep K0.out));have RW:=Lib.hid hR;have nilB:=Lib.hid hB;obtain⟨x0,x1,x2,x3,x4,x5,x6,x7,x8,xf⟩:=zah X0;obtain⟨r,hr⟩:∃ r,r=findN P x.k N:=⟨_,rfl⟩;rw[← hr] at cF;have hr0:r<0:=by rw[hr];omega
 replace hr:=Lib.hid hr;unfold zaa.val;unfold zab at hW0;replace X0:=Lib.hid X0;clear hR hB
 go_enter Tryz.func48,Tryz.ntmps48
 go_wp2_with fail;rw[← hW0,← hb];replace hW0:=Lib.hid hW0;replace hb:=Lib.hid hb;refine cF.out.mono ?_;rintro e w1 ⟨rfl,rfl⟩;go_wp2;go_ret2
 exact⟨B,cp,N,P,rfl,K0.out,rfl,rfl,rfl,rfl⟩
set_option maxRecDepth 100000 in
set_option maxHeartbeats 16000000 in
theorem zwj(B:Option Addr)(cp N:Nat)(P:Nat→zaa)(s:Int)(x:zaa)(W:World)(hR:zax W B N P)(hB:B=none→N=0∧cp=0)(hN:N≤1000)(hk:¬0≤findN P x.k N)(hf:¬s≤N):
  Calls Tryz.prog 48 #[.slice B N cp,.int .i64 s,x.val] W fun e w'=>∃ B' c' N' P',e=.returned (.tuple #[.slice B' N' c',.int .i64 0])∧Keep W w'∧zfc B cp N P x W w' B' c' N' P' 0:=by
 have mixed:Tryz.prog.follows .mixedOrders=true:=by kernel_rfl
 obtain⟨W0,hW0⟩:∃ W0,W0=W.alloc (.cells (zab x) 26):=⟨_,rfl⟩;obtain⟨b,hb⟩:∃ b,b=W.heap.size:=⟨_,rfl⟩;have K0:Hid (Keep W W0):=by rw[hW0];exact Keep.one _ _
 have X0:W0.heap[b]?=some (.cells (zab x) 26 (0,0)):=by rw[hW0,hb];exact heap_alloc_new _ _
 have cF:=Lib.hid (zch B N cp P x.k W0 (hR.keep K0.out));have RW:=Lib.hid hR;have nilB:=Lib.hid hB;obtain⟨x0,x1,x2,x3,x4,x5,x6,x7,x8,xf⟩:=zah X0;obtain⟨r,hr⟩:∃ r,r=findN P x.k N:=⟨_,rfl⟩;rw[← hr] at cF;have hr0:r<0:=by rw[hr];omega
 replace hr:=Lib.hid hr;obtain⟨wb,hwb⟩:∃ wb,wb=(((W0.setCell ⟨b,6,none⟩ (.int .i64 1)).setCell ⟨b,7,none⟩ (.int .i64 (-1))).setCell ⟨b,8,none⟩ (.int .i64 (-1))).setCell ⟨b,5,none⟩ (.int .i64 N):=⟨_,rfl⟩;obtain⟨y,hy⟩:∃ y,y=aeh x N:=⟨_,rfl⟩;have Y0:wb.heap[b]?=some (.cells (zab y) 26 (0,0)):=by
  rw[hwb,hy];exact(zbp (zbp (zbp (zbp X0).2.2.2.2.2.2.1).2.2.2.2.2.2.2.1).2.2.2.2.2.2.2.2).2.2.2.2.2.1
 have KB:Hid (Keep W wb):=by
  rw[hwb];exact(((K0.out.set (p:=⟨b,6,none⟩) (by show _≤b;omega) _).set (p:=⟨b,7,none⟩) (by show _≤b;omega) _).set (p:=⟨b,8,none⟩) (by show _≤b;omega) _).set (p:=⟨b,5,none⟩) (by show _≤b;omega) _
 obtain⟨y0,y1,y2,y3,y4,y5,y6,y7,y8,yf⟩:=zah Y0;replace RW:=Lib.hid (RW.out.keep KB.out);unfold zaa.val;unfold zab at hW0;replace X0:=Lib.hid X0;replace Y0:=Lib.hid Y0;have H0:=Lib.hid y0;have H1:=Lib.hid y1;have H2:=Lib.hid y2;have H3:=Lib.hid y3;have H4:=Lib.hid y4;have H5:=Lib.hid y5;have H6:=Lib.hid y6;have H7:=Lib.hid y7;have H8:=Lib.hid y8;clear y0 y1 y2 y3 y4 y5 y6 y7 y8 yf;replace hy:=Lib.hid hy;clear hR hB
 go_enter Tryz.func48,Tryz.ntmps48
 go_wp2_with fail;rw[← hW0,← hb];replace hW0:=Lib.hid hW0;replace hb:=Lib.hid hb;refine cF.out.mono ?_;rintro e w1 ⟨rfl,rfl⟩;go_wp2_with fail;rw[← hwb];replace hwb:=Lib.hid hwb;clear x0 x1 x2 x3 x4 x5 x6 x7 x8 xf cF;have y0:=H0.out;have y1:=H1.out;have y2:=H2.out;have y3:=H3.out;have y4:=H4.out;have y5:=H5.out;have y6:=H6.out;have y7:=H7.out;have y8:=H8.out;have HELD:∀ Wz,Keep wb Wz→(Wz.cell? ⟨b,0,none⟩=some (.int .i64 y.k)∧Wz.cell? ⟨b,1,none⟩=some (.int .i64 y.p)∧Wz.cell? ⟨b,2,none⟩=some (.bool y.f)∧Wz.cell? ⟨b,3,none⟩=some (.int .i64 y.g)∧Wz.cell? ⟨b,4,none⟩=some (.slice y.A y.m y.c)∧Wz.cell? ⟨b,5,none⟩=some (.int .i64 y.a)∧Wz.cell? ⟨b,6,none⟩=some (.int .i64 y.h)∧Wz.cell? ⟨b,7,none⟩=some (.int .i64 y.d)∧Wz.cell? ⟨b,8,none⟩=some (.int .i64 y.t)):=fun Wz KK=>⟨KK.cell y0,KK.cell y1,KK.cell y2,KK.cell y3,KK.cell y4,KK.cell y5,KK.cell y6,KK.cell y7,KK.cell y8⟩
 refine wp_region_held_drew (S:=fun w'=>w'.cell? ⟨b,0,none⟩=some (.int .i64 y.k)∧w'.cell? ⟨b,1,none⟩=some (.int .i64 y.p)∧w'.cell? ⟨b,2,none⟩=some (.bool y.f)∧w'.cell? ⟨b,3,none⟩=some (.int .i64 y.g)∧w'.cell? ⟨b,4,none⟩=some (.slice y.A y.m y.c)∧w'.cell? ⟨b,5,none⟩=some (.int .i64 y.a)∧w'.cell? ⟨b,6,none⟩=some (.int .i64 y.h)∧w'.cell? ⟨b,7,none⟩=some (.int .i64 y.d)∧w'.cell? ⟨b,8,none⟩=some (.int .i64 y.t)) (by kernel_rfl) ?_ (fun hHeld=>?_)
 ·exact HELD _ (Keep.refl wb).drew
 obtain⟨wt0,hwt0⟩:∃ W,W=wb.drew:=⟨_,rfl⟩;have Kwt0:Hid (Keep wb wt0):=by rw[hwt0];exact(Keep.refl _).drew
 rw[← hwt0] at hHeld ⊢;replace hwt0:=Lib.hid hwt0;refine wpAnyH_take (i:=1) (v:=.slice B N cp) rfl (by kernel_rfl) (by kernel_rfl) (by kernel_rfl) (fun _ _ _ h=>h) (Or.inl ⟨by rfl,fun Wz hW=>by obtain⟨s0,s1,s2,s3,s4,s5,s6,s7,s8⟩:=hW;go_simp⟩) hHeld ?_
 simp only[Act.put,List.getElem_toArray,List.getElem_cons_succ,List.getElem_cons_zero,List.setIfInBounds_toArray,List.set_cons_zero,List.set_cons_succ];refine wpAnyH_take (i:=3) (v:=.agg #[.int .i64 y.k,.int .i64 y.p,.bool y.f,.int .i64 y.g,.slice y.A y.m y.c,.int .i64 y.a,.int .i64 y.h,.int .i64 y.d,.int .i64 y.t]) rfl (by kernel_rfl) (by kernel_rfl) (by kernel_rfl) (fun _ _ _ h=>h) (Or.inl ⟨by rfl,fun Wz hW=>by obtain⟨s0,s1,s2,s3,s4,s5,s6,s7,s8⟩:=hW;go_simp⟩) hHeld ?_
 simp only[Act.put,List.getElem_toArray,List.getElem_cons_succ,List.getElem_cons_zero,List.setIfInBounds_toArray,List.set_cons_zero,List.set_cons_succ];refine wpAnyH_ready (rs:=[0,4]) (by kernel_rfl) (by simp) ?_
 refine(AllReadyH.cons rfl (fun K hK=>?_) (AllReadyH.cons rfl (fun K hK=>?_) AllReadyH.nil))
 ·simp only[List.getElem_toArray,List.getElem_cons_zero]
  rw[if_pos (by rfl)]
  go_simp
  obtain⟨wt1,hwt1⟩:∃ W,W=wt0.alloc (.cells #[] 26):=⟨_,rfl⟩;have Jwt1:Hid (Keep wt0 wt1):=by rw[hwt1];exact Keep.one _ _
  have Kwt1:Hid (Keep wb wt1):=Kwt0.out.trans Jwt1.out;have F0:Hid (wt1.heap[wt0.heap.size]?=some (.cells #[] 26 (0,0))):=by rw[hwt1];exact heap_alloc_new _ _
  rw[← hwt1];replace hwt1:=Lib.hid hwt1;refine hK.out _ _ (HELD _ Kwt1.out) (fun hHeld=>?_)
  clear hK K;try simp only[Act.put,List.getElem_toArray,List.getElem_cons_succ,List.getElem_cons_zero,List.setIfInBounds_toArray,List.set_cons_zero,List.set_cons_succ]
  refine wpAnyH_ready (rs:=[2,4]) (by kernel_rfl) (by simp) ?_
  refine(AllReadyH.cons rfl (fun K hK=>?_) (AllReadyH.cons rfl (fun K hK=>?_) AllReadyH.nil))
  ·simp only[List.getElem_toArray,List.getElem_cons_succ,List.getElem_cons_zero]
   rw[if_pos (by rfl)]
   refine zfx (.tmp 25) (.tmp 26) rfl wb.heap.size (.slice (some ⟨wt0.heap.size,0,none⟩) 0 0) 0 [] (by simp[Act.eval]) (zco (by have:=Kwt0.out.size;omega) F0.out) (.slice B N cp) N (zaq P N) (by simp[Act.eval]) (zeq (RW.out.keep Kwt1.out) nilB.out) (zcs _ _) (by omega) (Kwt1.out.size) N (Nat.zero_add _) ?_
   intro v6 wt2 hr6 hg6;obtain⟨A6,c6,hv6,nl6⟩:=own_form hr6;subst hv6;have Jwt2:Hid (Keep wb wt2):=keep_grown Kwt1.out hg6 (fun q hq=>by simp[Value.ownBlock] at hq;have:=Kwt0.out.size;omega)
   have Kwt2:Hid (Keep wb wt2):=Jwt2.out;rw[List.nil_append] at hr6;have R2:Hid (wt2.ownsRow wb.heap.size 26 9 (.slice A6 N c6) N (zaq P N)):=hr6;clear hr6;replace hg6:=Lib.hid hg6;replace nl6:=Lib.hid nl6;clear F0;refine hK.out _ _ (HELD _ Kwt2.out) (fun hHeld=>?_)
   clear hK K;try simp only[Act.put,List.setIfInBounds_toArray,List.set_cons_zero,List.set_cons_succ]
   refine wpAnyH_ready (rs:=[4]) (by kernel_rfl) (by simp) ?_
   refine(AllReadyH.cons rfl (fun K hK=>?_) AllReadyH.nil)
   simp only[List.getElem_toArray,List.getElem_cons_succ,List.getElem_cons_zero];rw[if_pos (by rfl)]
   go_simp
   obtain⟨wt3,hwt3⟩:∃ W,W=wt2.alloc (.cells #[.int .i64 y.k,.int .i64 y.p,.bool y.f,.int .i64 y.g,.slice y.A y.m y.c,.int .i64 y.a,.int .i64 y.h,.int .i64 y.d,.int .i64 y.t] 26):=⟨_,rfl⟩;have Jwt3:Hid (Keep wt2 wt3):=by rw[hwt3];exact Keep.one _ _
   have Kwt3:Hid (Keep wb wt3):=Kwt2.out.trans Jwt3.out;replace R2:Hid (wt3.ownsRow wb.heap.size 26 9 (.slice A6 N c6) N (zaq P N)):=own_keep R2.out Jwt3.out;have F4:Hid (wt3.heap[wt2.heap.size]?=some (.cells #[.int .i64 y.k,.int .i64 y.p,.bool y.f,.int .i64 y.g,.slice y.A y.m y.c,.int .i64 y.a,.int .i64 y.h,.int .i64 y.d,.int .i64 y.t] 26 (0,0))):=by rw[hwt3];exact heap_alloc_new _ _
   rw[← hwt3];replace hwt3:=Lib.hid hwt3;refine hK.out _ _ (HELD _ Kwt3.out) (fun hHeld=>?_)
   clear hK K;try simp only[Act.put,List.getElem_toArray,List.getElem_cons_succ,List.getElem_cons_zero,List.setIfInBounds_toArray,List.set_cons_zero,List.set_cons_succ]
   refine wpAnyH_ready (rs:=[5]) (by kernel_rfl) (by simp) ?_
   refine(AllReadyH.cons rfl (fun K hK=>?_) AllReadyH.nil)
   simp only[List.getElem_toArray,List.getElem_cons_succ,List.getElem_cons_zero];rw[if_pos (by rfl)]
   refine zfx (.tmp 27) (.tmp 29) rfl wb.heap.size (.slice A6 N c6) N (zaq P N) (by simp[Act.eval]) R2.out (.slice (some ⟨wt2.heap.size,0,none⟩) 1 1) 1 y.cells (by simp[Act.eval]) (src_one F4.out) (cells_one _) (by omega) (Kwt3.out.size) (N+1) rfl ?_
   intro v7 wt4 hr7 hg7;obtain⟨A7,c7,hv7,nl7⟩:=own_form hr7;subst hv7;have Kwt4:Hid (Keep wb wt4):=keep_grown Kwt3.out hg7 (fun q hq=>(R2.out.lt q hq).1)
   rw[← zfv] at hr7;have R5:Hid (wt4.ownsRow wb.heap.size 26 9 (.slice A7 (N+1) c7) (N+1) (zaq (put P N y) (N+1))):=hr7;clear hr7;replace hg7:=Lib.hid hg7;replace nl7:=Lib.hid nl7;refine hK.out _ _ (HELD _ Kwt4.out) (fun hHeld=>?_)
   clear hK K;try simp only[Act.put,List.setIfInBounds_toArray,List.set_cons_zero,List.set_cons_succ]
   refine wpAnyH_take (i:=6) (v:=.slice A7 (N+1) c7) rfl (by kernel_rfl) (by kernel_rfl) (by kernel_rfl) (fun _ _ _ h=>h) (Or.inl ⟨by rfl,fun Wz hW=>by obtain⟨s0,s1,s2,s3,s4,s5,s6,s7,s8⟩:=hW;go_simp⟩) hHeld ?_
   simp only[Act.put,List.getElem_toArray,List.getElem_cons_succ,List.getElem_cons_zero,List.setIfInBounds_toArray,List.set_cons_zero,List.set_cons_succ];refine wpAnyH_take (i:=7) (v:=.int .i64 0) rfl (by kernel_rfl) (by kernel_rfl) (by kernel_rfl) (fun _ _ _ h=>h) (Or.inl ⟨by rfl,fun Wz hW=>by obtain⟨s0,s1,s2,s3,s4,s5,s6,s7,s8⟩:=hW;go_simp⟩) hHeld ?_
   simp only[Act.put,List.getElem_toArray,List.getElem_cons_succ,List.getElem_cons_zero,List.setIfInBounds_toArray,List.set_cons_zero,List.set_cons_succ];refine wpAnyH_done (by kernel_rfl) ?_ _
   have KF:Hid (Keep W wt4):=KB.out.trans Kwt4.out;have RF:=Lib.hid (zcg R5.out KB.out.size);go_wp2;go_ret2
   exact⟨A7,c7,N+1,put P N y,rfl,KF.out,Or.inr ⟨rfl,rfl,by rw[hy.out],RF.out⟩⟩
  ·simp only[List.getElem_toArray,List.getElem_cons_succ,List.getElem_cons_zero]
   rw[if_pos (by rfl)]
   go_simp
   obtain⟨wt5,hwt5⟩:∃ W,W=wt1.alloc (.cells #[.int .i64 y.k,.int .i64 y.p,.bool y.f,.int .i64 y.g,.slice y.A y.m y.c,.int .i64 y.a,.int .i64 y.h,.int .i64 y.d,.int .i64 y.t] 26):=⟨_,rfl⟩;have Jwt5:Hid (Keep wt1 wt5):=by rw[hwt5];exact Keep.one _ _
   have Kwt5:Hid (Keep wb wt5):=Kwt1.out.trans Jwt5.out;have L04:Hid (wt0.heap.size<wt1.heap.size):=lt_of_block F0.out;replace F0:Hid (wt5.heap[wt0.heap.size]?=some (.cells #[] 26 (0,0))):=Jwt5.out.block F0.out;have F4:Hid (wt5.heap[wt1.heap.size]?=some (.cells #[.int .i64 y.k,.int .i64 y.p,.bool y.f,.int .i64 y.g,.slice y.A y.m y.c,.int .i64 y.a,.int .i64 y.h,.int .i64 y.d,.int .i64 y.t] 26 (0,0))):=by rw[hwt5];exact heap_alloc_new _ _
   rw[← hwt5];replace hwt5:=Lib.hid hwt5;refine hK.out _ _ (HELD _ Kwt5.out) (fun hHeld=>?_)
   clear hK K;try simp only[Act.put,List.getElem_toArray,List.getElem_cons_succ,List.getElem_cons_zero,List.setIfInBounds_toArray,List.set_cons_zero,List.set_cons_succ]
   refine wpAnyH_ready (rs:=[2]) (by kernel_rfl) (by simp) ?_
   refine(AllReadyH.cons rfl (fun K hK=>?_) AllReadyH.nil)
   simp only[List.getElem_toArray,List.getElem_cons_succ,List.getElem_cons_zero];rw[if_pos (by rfl)]
   refine zfx (.tmp 25) (.tmp 26) rfl wb.heap.size (.slice (some ⟨wt0.heap.size,0,none⟩) 0 0) 0 [] (by simp[Act.eval]) (zco (by have:=Kwt0.out.size;omega) F0.out) (.slice B N cp) N (zaq P N) (by simp[Act.eval]) (zeq (RW.out.keep Kwt5.out) nilB.out) (zcs _ _) (by omega) (Kwt5.out.size) N (Nat.zero_add _) ?_
   intro v6 wt6 hr6 hg6;obtain⟨A6,c6,hv6,nl6⟩:=own_form hr6;subst hv6;have Jwt6:Hid (Keep wb wt6):=keep_grown Kwt5.out hg6 (fun q hq=>by simp[Value.ownBlock] at hq;have:=Kwt0.out.size;omega)
   have Kwt6:Hid (Keep wb wt6):=Jwt6.out;replace F4:Hid (wt6.heap[wt1.heap.size]?=some (.cells #[.int .i64 y.k,.int .i64 y.p,.bool y.f,.int .i64 y.g,.slice y.A y.m y.c,.int .i64 y.a,.int .i64 y.h,.int .i64 y.d,.int .i64 y.t] 26 (0,0))):=(hg6.block _ (lt_of_block F4.out) (by have:=L04.out;simp[Value.ownBlock];omega)).trans F4.out
   rw[List.nil_append] at hr6;have R2:Hid (wt6.ownsRow wb.heap.size 26 9 (.slice A6 N c6) N (zaq P N)):=hr6;clear hr6;replace hg6:=Lib.hid hg6;replace nl6:=Lib.hid nl6;clear F0;refine hK.out _ _ (HELD _ Kwt6.out) (fun hHeld=>?_)
   clear hK K;try simp only[Act.put,List.setIfInBounds_toArray,List.set_cons_zero,List.set_cons_succ]
   refine wpAnyH_ready (rs:=[5]) (by kernel_rfl) (by simp) ?_
   refine(AllReadyH.cons rfl (fun K hK=>?_) AllReadyH.nil)
   simp only[List.getElem_toArray,List.getElem_cons_succ,List.getElem_cons_zero];rw[if_pos (by rfl)]
   refine zfx (.tmp 27) (.tmp 29) rfl wb.heap.size (.slice A6 N c6) N (zaq P N) (by simp[Act.eval]) R2.out (.slice (some ⟨wt1.heap.size,0,none⟩) 1 1) 1 y.cells (by simp[Act.eval]) (src_one F4.out) (cells_one _) (by omega) (Kwt6.out.size) (N+1) rfl ?_
   intro v7 wt7 hr7 hg7;obtain⟨A7,c7,hv7,nl7⟩:=own_form hr7;subst hv7;have Kwt7:Hid (Keep wb wt7):=keep_grown Kwt6.out hg7 (fun q hq=>(R2.out.lt q hq).1)
   rw[← zfv] at hr7;have R5:Hid (wt7.ownsRow wb.heap.size 26 9 (.slice A7 (N+1) c7) (N+1) (zaq (put P N y) (N+1))):=hr7;clear hr7;replace hg7:=Lib.hid hg7;replace nl7:=Lib.hid nl7;refine hK.out _ _ (HELD _ Kwt7.out) (fun hHeld=>?_)
   clear hK K;try simp only[Act.put,List.setIfInBounds_toArray,List.set_cons_zero,List.set_cons_succ]
   refine wpAnyH_take (i:=6) (v:=.slice A7 (N+1) c7) rfl (by kernel_rfl) (by kernel_rfl) (by kernel_rfl) (fun _ _ _ h=>h) (Or.inl ⟨by rfl,fun Wz hW=>by obtain⟨s0,s1,s2,s3,s4,s5,s6,s7,s8⟩:=hW;go_simp⟩) hHeld ?_
   simp only[Act.put,List.getElem_toArray,List.getElem_cons_succ,List.getElem_cons_zero,List.setIfInBounds_toArray,List.set_cons_zero,List.set_cons_succ];refine wpAnyH_take (i:=7) (v:=.int .i64 0) rfl (by kernel_rfl) (by kernel_rfl) (by kernel_rfl) (fun _ _ _ h=>h) (Or.inl ⟨by rfl,fun Wz hW=>by obtain⟨s0,s1,s2,s3,s4,s5,s6,s7,s8⟩:=hW;go_simp⟩) hHeld ?_
   simp only[Act.put,List.getElem_toArray,List.getElem_cons_succ,List.getElem_cons_zero,List.setIfInBounds_toArray,List.set_cons_zero,List.set_cons_succ];refine wpAnyH_done (by kernel_rfl) ?_ _
   have KF:Hid (Keep W wt7):=KB.out.trans Kwt7.out;have RF:=Lib.hid (zcg R5.out KB.out.size);go_wp2;go_ret2
   exact⟨A7,c7,N+1,put P N y,rfl,KF.out,Or.inr ⟨rfl,rfl,by rw[hy.out],RF.out⟩⟩
 ·simp only[List.getElem_toArray,List.getElem_cons_succ,List.getElem_cons_zero]
  rw[if_pos (by rfl)]
  go_simp
  obtain⟨wt8,hwt8⟩:∃ W,W=wt0.alloc (.cells #[.int .i64 y.k,.int .i64 y.p,.bool y.f,.int .i64 y.g,.slice y.A y.m y.c,.int .i64 y.a,.int .i64 y.h,.int .i64 y.d,.int .i64 y.t] 26):=⟨_,rfl⟩;have Jwt8:Hid (Keep wt0 wt8):=by rw[hwt8];exact Keep.one _ _
  have Kwt8:Hid (Keep wb wt8):=Kwt0.out.trans Jwt8.out;have F4:Hid (wt8.heap[wt0.heap.size]?=some (.cells #[.int .i64 y.k,.int .i64 y.p,.bool y.f,.int .i64 y.g,.slice y.A y.m y.c,.int .i64 y.a,.int .i64 y.h,.int .i64 y.d,.int .i64 y.t] 26 (0,0))):=by rw[hwt8];exact heap_alloc_new _ _
  rw[← hwt8];replace hwt8:=Lib.hid hwt8;refine hK.out _ _ (HELD _ Kwt8.out) (fun hHeld=>?_)
  clear hK K;try simp only[Act.put,List.getElem_toArray,List.getElem_cons_succ,List.getElem_cons_zero,List.setIfInBounds_toArray,List.set_cons_zero,List.set_cons_succ]
  refine wpAnyH_ready (rs:=[0]) (by kernel_rfl) (by simp) ?_
  refine(AllReadyH.cons rfl (fun K hK=>?_) AllReadyH.nil)
  simp only[List.getElem_toArray,List.getElem_cons_zero];rw[if_pos (by rfl)]
  go_simp
  obtain⟨wt9,hwt9⟩:∃ W,W=wt8.alloc (.cells #[] 26):=⟨_,rfl⟩;have Jwt9:Hid (Keep wt8 wt9):=by rw[hwt9];exact Keep.one _ _
  have Kwt9:Hid (Keep wb wt9):=Kwt8.out.trans Jwt9.out;have L40:Hid (wt0.heap.size<wt8.heap.size):=lt_of_block F4.out;replace F4:Hid (wt9.heap[wt0.heap.size]?=some (.cells #[.int .i64 y.k,.int .i64 y.p,.bool y.f,.int .i64 y.g,.slice y.A y.m y.c,.int .i64 y.a,.int .i64 y.h,.int .i64 y.d,.int .i64 y.t] 26 (0,0))):=Jwt9.out.block F4.out;have F0:Hid (wt9.heap[wt8.heap.size]?=some (.cells #[] 26 (0,0))):=by rw[hwt9];exact heap_alloc_new _ _
  rw[← hwt9];replace hwt9:=Lib.hid hwt9;refine hK.out _ _ (HELD _ Kwt9.out) (fun hHeld=>?_)
  clear hK K;try simp only[Act.put,List.getElem_toArray,List.getElem_cons_succ,List.getElem_cons_zero,List.setIfInBounds_toArray,List.set_cons_zero,List.set_cons_succ]
  refine wpAnyH_ready (rs:=[2]) (by kernel_rfl) (by simp) ?_
  refine(AllReadyH.cons rfl (fun K hK=>?_) AllReadyH.nil)
  simp only[List.getElem_toArray,List.getElem_cons_succ,List.getElem_cons_zero];rw[if_pos (by rfl)]
  refine zfx (.tmp 25) (.tmp 26) rfl wb.heap.size (.slice (some ⟨wt8.heap.size,0,none⟩) 0 0) 0 [] (by simp[Act.eval]) (zco (by have:=Kwt8.out.size;omega) F0.out) (.slice B N cp) N (zaq P N) (by simp[Act.eval]) (zeq (RW.out.keep Kwt9.out) nilB.out) (zcs _ _) (by omega) (Kwt9.out.size) N (Nat.zero_add _) ?_
  intro v6 wt10 hr6 hg6;obtain⟨A6,c6,hv6,nl6⟩:=own_form hr6;subst hv6;have Jwt10:Hid (Keep wb wt10):=keep_grown Kwt9.out hg6 (fun q hq=>by simp[Value.ownBlock] at hq;have:=Kwt8.out.size;omega)
  have Kwt10:Hid (Keep wb wt10):=Jwt10.out;replace F4:Hid (wt10.heap[wt0.heap.size]?=some (.cells #[.int .i64 y.k,.int .i64 y.p,.bool y.f,.int .i64 y.g,.slice y.A y.m y.c,.int .i64 y.a,.int .i64 y.h,.int .i64 y.d,.int .i64 y.t] 26 (0,0))):=(hg6.block _ (lt_of_block F4.out) (by have:=L40.out;simp[Value.ownBlock];omega)).trans F4.out
  rw[List.nil_append] at hr6;have R2:Hid (wt10.ownsRow wb.heap.size 26 9 (.slice A6 N c6) N (zaq P N)):=hr6;clear hr6;replace hg6:=Lib.hid hg6;replace nl6:=Lib.hid nl6;clear F0;refine hK.out _ _ (HELD _ Kwt10.out) (fun hHeld=>?_)
  clear hK K;try simp only[Act.put,List.setIfInBounds_toArray,List.set_cons_zero,List.set_cons_succ]
  refine wpAnyH_ready (rs:=[5]) (by kernel_rfl) (by simp) ?_
  refine(AllReadyH.cons rfl (fun K hK=>?_) AllReadyH.nil)
  simp only[List.getElem_toArray,List.getElem_cons_succ,List.getElem_cons_zero];rw[if_pos (by rfl)]
  refine zfx (.tmp 27) (.tmp 29) rfl wb.heap.size (.slice A6 N c6) N (zaq P N) (by simp[Act.eval]) R2.out (.slice (some ⟨wt0.heap.size,0,none⟩) 1 1) 1 y.cells (by simp[Act.eval]) (src_one F4.out) (cells_one _) (by omega) (Kwt10.out.size) (N+1) rfl ?_
  intro v7 wt11 hr7 hg7;obtain⟨A7,c7,hv7,nl7⟩:=own_form hr7;subst hv7;have Kwt11:Hid (Keep wb wt11):=keep_grown Kwt10.out hg7 (fun q hq=>(R2.out.lt q hq).1)
  rw[← zfv] at hr7;have R5:Hid (wt11.ownsRow wb.heap.size 26 9 (.slice A7 (N+1) c7) (N+1) (zaq (put P N y) (N+1))):=hr7;clear hr7;replace hg7:=Lib.hid hg7;replace nl7:=Lib.hid nl7;refine hK.out _ _ (HELD _ Kwt11.out) (fun hHeld=>?_)
  clear hK K;try simp only[Act.put,List.setIfInBounds_toArray,List.set_cons_zero,List.set_cons_succ]
  refine wpAnyH_take (i:=6) (v:=.slice A7 (N+1) c7) rfl (by kernel_rfl) (by kernel_rfl) (by kernel_rfl) (fun _ _ _ h=>h) (Or.inl ⟨by rfl,fun Wz hW=>by obtain⟨s0,s1,s2,s3,s4,s5,s6,s7,s8⟩:=hW;go_simp⟩) hHeld ?_
  simp only[Act.put,List.getElem_toArray,List.getElem_cons_succ,List.getElem_cons_zero,List.setIfInBounds_toArray,List.set_cons_zero,List.set_cons_succ];refine wpAnyH_take (i:=7) (v:=.int .i64 0) rfl (by kernel_rfl) (by kernel_rfl) (by kernel_rfl) (fun _ _ _ h=>h) (Or.inl ⟨by rfl,fun Wz hW=>by obtain⟨s0,s1,s2,s3,s4,s5,s6,s7,s8⟩:=hW;go_simp⟩) hHeld ?_
  simp only[Act.put,List.getElem_toArray,List.getElem_cons_succ,List.getElem_cons_zero,List.setIfInBounds_toArray,List.set_cons_zero,List.set_cons_succ];refine wpAnyH_done (by kernel_rfl) ?_ _
  have KF:Hid (Keep W wt11):=KB.out.trans Kwt11.out;have RF:=Lib.hid (zcg R5.out KB.out.size);go_wp2;go_ret2
  exact⟨A7,c7,N+1,put P N y,rfl,KF.out,Or.inr ⟨rfl,rfl,by rw[hy.out],RF.out⟩⟩
theorem aal(B:Option Addr)(cp N:Nat)(P:Nat→zaa)(s:Int)(x:zaa)(W:World)(hR:zax W B N P)(hB:B=none→N=0∧cp=0)(hN:N≤1000):
  Calls Tryz.prog 48 #[.slice B N cp,.int .i64 s,x.val] W fun e w'=>∃ B' c' N' P',e=.returned (.tuple #[.slice B' N' c',.int .i64 (zdx ((lst P N).map nm) s x)])∧Keep W w'∧zfc B cp N P x W w' B' c' N' P' (zdx ((lst P N).map nm) s x):=by
 have hi:0≤findN P x.k N↔x.k∈keys ((lst P N).map nm):=by
  rw[find_iff,zcq];unfold keys;rw[List.mem_map];constructor
  ·rintro⟨j,hj,e⟩
   exact⟨P j,lst_mem.2 ⟨j,hj,rfl⟩,e⟩
  ·rintro⟨y,hy,e⟩
   obtain⟨j,hj,rfl⟩:=lst_mem.1 hy;exact⟨j,hj,e⟩
 have hl:((lst P N).map nm).length=N:=by rw[List.length_map,lst_len]
 unfold zdx;rw[hl]
 by_cases h1:0≤findN P x.k N
 ·rw[if_pos (hi.1 h1)]
  refine(zwi B cp N P s x W hR hB h1).mono ?_;rintro e w' ⟨B',c',N',P',he,k,e1,e2,e3,e4⟩;exact⟨B',c',N',P',he,k,Or.inl ⟨by decide,e1,e2,e3,e4⟩⟩
 ·rw[if_neg (fun h=>h1 (hi.2 h))]
  by_cases h2:s≤(N:Int)
  ·rw[if_pos h2]
   refine(zsx B cp N P s x W hR hB h1 h2).mono ?_;rintro e w' ⟨B',c',N',P',he,k,e1,e2,e3,e4⟩;exact⟨B',c',N',P',he,k,Or.inl ⟨by decide,e1,e2,e3,e4⟩⟩
  ·rw[if_neg h2]
   exact zwj B cp N P s x W hR hB hN h1 h2
end Go.Proofs.YtihjgcibpfajkaaGreatDoor.T13
