/-
  The law of P16.1, P16.2: the load and the fit are those of the reference. Condition: errors.errorType holds its own.
-/
import Derived.Test.YtclfbplbccehkaaGreatDoorD22
namespace Go.Proofs.YtclfbplbccehkaaGreatDoor.T16
open Go.RowKit Go.Sort Go.Lib V12 T13 T14 T15
set_option maxRecDepth 100000 in
set_option maxHeartbeats 16000000 in
theorem mat_walk {CS:PredC} (C:Con CS) (N:NewXOk CS) (F:ConL CS) (HA:AwOk) (A:Option Addr) (n c:Nat) (Pn:Nat→C14.NdC) (B:Option Addr) (m e:Nat) (Pp:Nat→PlV) (p:PodV) (nd:Int) (WA:Option Addr) (wn wc:Nat) (O:Int→Bool) (w:World) (hN:C14.RdC w A n Pn) (hP:RdPl w B m Pp) (hpx:PodIs w p) (hg:ErrT w) (hnd:I64 nd) (hS:SetOf w WA wn O) (hwn:wn≤9223372036854775807):Calls Tryz.prog 3 #[.slice A n c,.slice B m e,p.val,.int .i64 nd,.slice WA wn wc] w fun e w'=>e = .returned (.bool true)∧Keep w w':=by
  have mixed:Tryz.prog.follows .mixedOrders = true:=by kernel_rfl
  obtain ⟨W0,hW0⟩:∃ W0,W0 = w.alloc (.cells (podB p) 26):=⟨_,rfl⟩
  have K0:Hid (Keep w W0):=by rw [hW0];exact Keep.one _ _
  have BP:Hid (W0.heap[w.heap.size]? = some (.cells (podB p) 26 (0,0))):=by rw [hW0];exact heap_alloc_new _ _
  obtain ⟨bp,hbp⟩:∃ b,b = w.heap.size:=⟨_,rfl⟩
  rw [← hbp] at BP
  have hg0:Hid (ErrT W0):=hg.keep K0.out
  have cB:=Lib.hid (build_fn C N A n c Pn B m e Pp W0 (hN.keep K0.out) (hP.keep K0.out) hg0.out)
  have aw:Hid (∀ W2,Keep W0 W2→Calls Tryz.prog 9 #[] W2 fun e w'=>e = .returned (.bool true)∧Keep W2 w'):=fun W2 k=>HA W2 (hg0.out.keep k)
  have px0:=hpx.keep K0.out
  replace hN:=Lib.hid hN
  replace hP:=Lib.hid hP
  replace hg:=Lib.hid hg
  replace hpx:=Lib.hid hpx
  replace px0:=Lib.hid px0
  unfold podB at hW0
  unfold PodV.val
  go_enter Tryz.func3,Tryz.ntmps3
  go_wp2_with fail
  rw [← hW0,← hbp]
  replace hW0:=Lib.hid hW0
  replace hbp:=Lib.hid hbp
  refine cB.out.mono ?_
  rintro e' w1 ⟨k1,⟨x,rfl⟩ | ⟨q,M,L,X,x,Q,P,rfl,ST,hM,hL⟩⟩
  · obtain ⟨W1,hW1⟩:∃ W1,W1 = w1.alloc (.cells x.arr 31):=⟨_,rfl⟩
    have K1:Hid (Keep W0 W1):=by rw [hW1];exact k1.alloc _
    replace k1:=Lib.hid k1
    have a1:=Lib.hid (aw.out W1 K1.out)
    unfold RcV.arr at hW1
    unfold RcV.val
    go_wp2_with fail
    rw [← hW1]
    replace hW1:=Lib.hid hW1
    refine a1.out.mono ?_
    rintro e' w2 ⟨rfl,k2⟩
    have K2:Hid (Keep W0 w2):=K1.out.trans k2
    replace k2:=Lib.hid k2
    clear a1
    have a2:=Lib.hid (aw.out w2 K2.out)
    go_wp2_with fail
    refine a2.out.mono ?_
    rintro e' w3 ⟨rfl,k3⟩
    replace k3:=Lib.hid k3
    go_wp2
    go_ret
    exact ⟨rfl,K0.out.trans (K2.out.trans k3.out)⟩
  · obtain ⟨W1,hW1⟩:∃ W1,W1 = w1.alloc (.cells x.arr 31):=⟨_,rfl⟩
    have K1:Hid (Keep W0 W1):=by rw [hW1];exact k1.alloc _
    replace k1:=Lib.hid k1
    replace ST:=Lib.hid (ST.keep C (show Keep w1 W1 by rw [hW1];exact Keep.one _ _))
    replace hM:=Lib.hid hM
    replace hL:=Lib.hid hL
    have BX:Hid (W1.heap[w1.heap.size]? = some (.cells x.arr 31 (0,0))):=by rw [hW1];exact heap_alloc_new _ _
    have a1:=Lib.hid (aw.out W1 K1.out)
    unfold RcV.arr at hW1
    unfold RcV.val
    go_wp2_with fail
    rw [← hW1]
    try replace hW1:=Lib.hid hW1
    refine a1.out.mono ?_
    rintro e' w2 ⟨rfl,k2⟩
    have K2:Hid (Keep W0 w2):=K1.out.trans k2
    replace ST:=Lib.hid (ST.out.keep C k2)
    replace BX:Hid (w2.heap[w1.heap.size]? = some (.cells x.arr 31 (0,0))):=Keep.block k2 BX.out
    replace k2:=Lib.hid k2
    obtain ⟨bx,hbx⟩:∃ b,b = w1.heap.size:=⟨_,rfl⟩
    rw [← hbx] at BX ⊢
    replace hbx:=Lib.hid hbx
    clear a1
    have X0:=blk9 (Keep.block K2.out BP.out)
    have x0:=X0.e0;have x1:=X0.e1;have x2:=X0.e2;have x3:=X0.e3;have x4:=X0.e4;have x5:=X0.e5;have x6:=X0.e6;have x7:=X0.e7;have x8:=X0.e8
    clear X0
    obtain ⟨W3,hW3⟩:∃ W3,W3 = w2.alloc (.cells (podB p) 26):=⟨_,rfl⟩
    have B3:Hid (W3.heap[w2.heap.size]? = some (.cells (podB p) 26 (0,0))):=by rw [hW3];exact heap_alloc_new _ _
    have k23:Hid (Keep w2 W3):=by rw [hW3];exact Keep.one _ _
    have K3:Hid (Keep W0 W3):=K2.out.trans k23.out
    replace ST:=Lib.hid (ST.out.keep C k23.out)
    replace BX:Hid (W3.heap[bx]? = some (.cells x.arr 31 (0,0))):=Keep.block k23.out BX.out
    obtain ⟨fb,hfb⟩:=fewx_or p
    have cF:=Lib.hid (rfew_fn (some ⟨w2.heap.size,0,none⟩) 1 1 (fun _=>p) W3 (rd_single B3.out (px0.out.keep K3.out)) fb hfb)
    unfold podB at hW3
    replace hfb:=Lib.hid hfb
    go_wp2_with fail
    rw [← hW3]
    replace hW3:=Lib.hid hW3
    refine cF.out.mono ?_
    rintro e' w4 ⟨rfl,rfl⟩
    clear x0 x1 x2 x3 x4 x5 x6 x7 x8 cF
    cases fb with
    | false =>
      have a2:=Lib.hid (aw.out W3 K3.out)
      go_wp2_with fail
      refine a2.out.mono ?_
      rintro e' w5 ⟨rfl,k5⟩
      replace k5:=Lib.hid k5
      go_wp2
      go_ret
      exact ⟨rfl,K0.out.trans (K3.out.trans k5.out)⟩
    | true =>
      have fx:=Lib.hid (hfb.out.1 rfl)
      have hb:-1073741824≤p.p∧p.p≤1073741824∧p.m≤20:=fx.out.2 0 (by omega)
      have l100:Hid (L.length≤100):=Nat.le_trans hL.out (by omega)
      have m100:Hid (M.length≤100):=Nat.le_trans hM.out (by omega)
      have pm:Hid (p.m≤1000):=Nat.le_trans hb.2.2 (by omega)
      replace hb:=Lib.hid hb
      replace hnd:=Lib.hid hnd
      replace hS:=Lib.hid hS
      by_cases hlen:(100:Int) < (wn:Int)
      · have hlb:decide ((100:Int) < (wn:Int)) = true:=decide_eq_true hlen
        replace hlen:=Lib.hid hlen
        have a2:=Lib.hid (aw.out W3 K3.out)
        go_wp2_with fail
        refine a2.out.mono ?_
        rintro e' w5 ⟨rfl,k5⟩
        replace k5:=Lib.hid k5
        go_wp2
        go_ret
        exact ⟨rfl,K0.out.trans (K3.out.trans k5.out)⟩
      · have hlb:decide ((100:Int) < (wn:Int)) = false:=decide_eq_false hlen
        have hwl:wn≤100:=by omega
        have S3:Hid (∀ Wz,Keep W3 Wz→SetOf Wz WA wn O):=fun Wz kk=>hS.out.keep (K0.out.trans (K3.out.trans kk))
        have cO:Hid (∀ Wz,Keep W3 Wz→Calls Tryz.prog 12 #[.pointer (some ⟨q,0,none⟩),p.val,.int .i64 nd,.slice WA wn wc] Wz fun e w'=>∃ v,e = .returned v∧Row w' v 2 (ofZ O p nd M L)∧(∀ g,v.ownBlock = some g→Wz.heap.size≤g)∧Keep Wz w'):=fun Wz kk=>F.of p nd _ _ _ O (C.keep ST.out.o kk) (hg0.out.keep (C.kp (C.keep ST.out.o kk))) (px0.out.keep (K3.out.trans kk)) hnd.out (S3.out Wz kk) (by omega) (by omega) m100.out l100.out
        have cF:Hid (∀ Wz,Keep W3 Wz→Calls Tryz.prog 14 #[.pointer (some ⟨q,0,none⟩),p.val,.int .i64 nd,.slice WA wn wc] Wz fun e w'=>e = .returned (.bool (fitsM O p nd M L 2))∧Keep Wz w'):=fun Wz kk=>F.fits p nd WA wn wc O (C.keep ST.out.o kk) (hg0.out.keep (C.kp (C.keep ST.out.o kk))) (px0.out.keep (K3.out.trans kk)) hnd.out (S3.out Wz kk) (by omega) (by omega) pm.out m100.out l100.out
        have cR:Hid (∀ Wz,Keep W3 Wz→Calls Tryz.prog 13 #[x.val,p.val,.int .i64 nd,.slice WA wn wc] Wz fun e w'=>∃ v,e = .returned v∧Row w' v 2 (ofZ O p nd M L)∧Keep Wz w'):=fun Wz kk=>rof_st C (ST.out.keep C kk) (by omega) l100.out p nd WA wn wc O (S3.out Wz kk)
        have cG:Hid (∀ Wz,Keep W3 Wz→Calls Tryz.prog 15 #[x.val,p.val,.int .i64 nd,.slice WA wn wc] Wz fun e w'=>e = .returned (.bool (fitsM O p nd M L 2))∧Keep Wz w'):=fun Wz kk=>rfits_st C (ST.out.keep C kk) (by omega) l100.out p (px0.out.keep (K3.out.trans kk)) nd WA wn wc O (S3.out Wz kk)
        obtain ⟨fb,hfb2⟩:∃ fb,fb = fitsM O p nd M L 2:=⟨_,rfl⟩
        rw [← hfb2] at cF cG
        have bb:(fb == fb) = true:=by cases fb <;> rfl
        replace hlen:=Lib.hid hlen
        replace hfb2:=Lib.hid hfb2
        unfold PodV.val at cO cF cR cG
        unfold RcV.val at cR cG
        go_upto_region 4 with fail
        have HELD:∀ Wz,Keep W3 Wz→(Wz.cell? ⟨bx,0,none⟩ = some (.int .i64 x.d)∧Wz.cell? ⟨bx,1,none⟩ = some (.slice x.A x.n x.c)∧Wz.cell? ⟨bx,2,none⟩ = some (.slice x.B x.m x.e)∧Wz.cell? ⟨bp,0,none⟩ = some (.int .i64 p.k)∧Wz.cell? ⟨bp,1,none⟩ = some (.int .i64 p.p)∧Wz.cell? ⟨bp,2,none⟩ = some (.bool p.f)∧Wz.cell? ⟨bp,3,none⟩ = some (.int .i64 p.g)∧Wz.cell? ⟨bp,4,none⟩ = some (.slice p.A p.m p.c)∧Wz.cell? ⟨bp,5,none⟩ = some (.int .i64 p.a)∧Wz.cell? ⟨bp,6,none⟩ = some (.int .i64 p.h)∧Wz.cell? ⟨bp,7,none⟩ = some (.int .i64 p.d)∧Wz.cell? ⟨bp,8,none⟩ = some (.int .i64 p.t)):=fun Wz KK=>⟨(rc_cells (Keep.block KK BX.out)).1,(rc_cells (Keep.block KK BX.out)).2.1,(rc_cells (Keep.block KK BX.out)).2.2.1,(blk9 (Keep.block (K3.out.trans KK) BP.out)).e0,(blk9 (Keep.block (K3.out.trans KK) BP.out)).e1,(blk9 (Keep.block (K3.out.trans KK) BP.out)).e2,(blk9 (Keep.block (K3.out.trans KK) BP.out)).e3,(blk9 (Keep.block (K3.out.trans KK) BP.out)).e4,(blk9 (Keep.block (K3.out.trans KK) BP.out)).e5,(blk9 (Keep.block (K3.out.trans KK) BP.out)).e6,(blk9 (Keep.block (K3.out.trans KK) BP.out)).e7,(blk9 (Keep.block (K3.out.trans KK) BP.out)).e8⟩
        refine OrdS.rest_start (fun w'=>w'.cell? ⟨bx,0,none⟩ = some (.int .i64 x.d)∧w'.cell? ⟨bx,1,none⟩ = some (.slice x.A x.n x.c)∧w'.cell? ⟨bx,2,none⟩ = some (.slice x.B x.m x.e)∧w'.cell? ⟨bp,0,none⟩ = some (.int .i64 p.k)∧w'.cell? ⟨bp,1,none⟩ = some (.int .i64 p.p)∧w'.cell? ⟨bp,2,none⟩ = some (.bool p.f)∧w'.cell? ⟨bp,3,none⟩ = some (.int .i64 p.g)∧w'.cell? ⟨bp,4,none⟩ = some (.slice p.A p.m p.c)∧w'.cell? ⟨bp,5,none⟩ = some (.int .i64 p.a)∧w'.cell? ⟨bp,6,none⟩ = some (.int .i64 p.h)∧w'.cell? ⟨bp,7,none⟩ = some (.int .i64 p.d)∧w'.cell? ⟨bp,8,none⟩ = some (.int .i64 p.t)) [] (by kernel_rfl) ?_ (fun hHeld=>?_)
        · exact HELD _ (Keep.refl W3).drew
        obtain ⟨wt0,hwt0⟩:∃ W,W = W3.drew:=⟨_,rfl⟩
        have Kwt0:Hid (Keep W3 wt0):=by rw [hwt0];exact (Keep.refl _).drew
        rw [← hwt0] at hHeld ⊢
        replace hwt0:=Lib.hid hwt0
        refine OrdS.tk (i:=0) (v:=.pointer (some ⟨q,0,none⟩)) rfl (by kernel_rfl) (fun _ _ _ h=>h) (by rfl) (fun Wz hW=>by obtain ⟨u0,u1,u2,u3,u4,u5,u6,u7,u8,u9,u10,u11⟩:=hW;go_simp) hHeld ?_
        simp only [Act.put,List.getElem_toArray,List.getElem_cons_zero,List.setIfInBounds_toArray,List.set_cons_zero,List.set_cons_succ]
        refine OrdS.tk (i:=1) (v:=.agg #[.int .i64 p.k,.int .i64 p.p,.bool p.f,.int .i64 p.g,.slice p.A p.m p.c,.int .i64 p.a,.int .i64 p.h,.int .i64 p.d,.int .i64 p.t]) rfl (by kernel_rfl) (fun _ _ _ h=>h) (by rfl) (fun Wz hW=>by obtain ⟨u0,u1,u2,u3,u4,u5,u6,u7,u8,u9,u10,u11⟩:=hW;go_simp) hHeld ?_
        simp only [Act.put,List.getElem_toArray,List.getElem_cons_succ,List.getElem_cons_zero,List.setIfInBounds_toArray,List.set_cons_zero,List.set_cons_succ]
        refine OrdS.tk (i:=2) (v:=.int .i64 nd) rfl (by kernel_rfl) (fun _ _ _ h=>h) (by rfl) (fun Wz hW=>by obtain ⟨u0,u1,u2,u3,u4,u5,u6,u7,u8,u9,u10,u11⟩:=hW;go_simp) hHeld ?_
        simp only [Act.put,List.getElem_toArray,List.getElem_cons_succ,List.getElem_cons_zero,List.setIfInBounds_toArray,List.set_cons_zero,List.set_cons_succ]
        refine OrdS.tk (i:=3) (v:=.slice WA wn wc) rfl (by kernel_rfl) (fun _ _ _ h=>h) (by rfl) (fun Wz hW=>by obtain ⟨u0,u1,u2,u3,u4,u5,u6,u7,u8,u9,u10,u11⟩:=hW;go_simp) hHeld ?_
        simp only [Act.put,List.getElem_toArray,List.getElem_cons_succ,List.getElem_cons_zero,List.setIfInBounds_toArray,List.set_cons_zero,List.set_cons_succ]
        refine OrdS.tk (i:=5) (v:=.agg #[.int .i64 x.d,.slice x.A x.n x.c,.slice x.B x.m x.e]) rfl (by kernel_rfl) (fun _ _ _ h=>h) (by rfl) (fun Wz hW=>by obtain ⟨u0,u1,u2,u3,u4,u5,u6,u7,u8,u9,u10,u11⟩:=hW;go_simp) hHeld ?_
        simp only [Act.put,List.getElem_toArray,List.getElem_cons_succ,List.getElem_cons_zero,List.setIfInBounds_toArray,List.set_cons_zero,List.set_cons_succ]
        refine OrdS.tk (i:=6) (v:=.agg #[.int .i64 p.k,.int .i64 p.p,.bool p.f,.int .i64 p.g,.slice p.A p.m p.c,.int .i64 p.a,.int .i64 p.h,.int .i64 p.d,.int .i64 p.t]) rfl (by kernel_rfl) (fun _ _ _ h=>h) (by rfl) (fun Wz hW=>by obtain ⟨u0,u1,u2,u3,u4,u5,u6,u7,u8,u9,u10,u11⟩:=hW;go_simp) hHeld ?_
        simp only [Act.put,List.getElem_toArray,List.getElem_cons_succ,List.getElem_cons_zero,List.setIfInBounds_toArray,List.set_cons_zero,List.set_cons_succ]
        refine OrdS.tk (i:=7) (v:=.int .i64 nd) rfl (by kernel_rfl) (fun _ _ _ h=>h) (by rfl) (fun Wz hW=>by obtain ⟨u0,u1,u2,u3,u4,u5,u6,u7,u8,u9,u10,u11⟩:=hW;go_simp) hHeld ?_
        simp only [Act.put,List.getElem_toArray,List.getElem_cons_succ,List.getElem_cons_zero,List.setIfInBounds_toArray,List.set_cons_zero,List.set_cons_succ]
        refine OrdS.tk (i:=8) (v:=.slice WA wn wc) rfl (by kernel_rfl) (fun _ _ _ h=>h) (by rfl) (fun Wz hW=>by obtain ⟨u0,u1,u2,u3,u4,u5,u6,u7,u8,u9,u10,u11⟩:=hW;go_simp) hHeld ?_
        simp only [Act.put,List.getElem_toArray,List.getElem_cons_succ,List.getElem_cons_zero,List.setIfInBounds_toArray,List.set_cons_zero,List.set_cons_succ]
        refine OrdS.rest_ready (rs:=[4]) (by kernel_rfl) (by simp) ?_
        refine OrdS.Each.cons rfl (fun K hK=>?_) OrdS.Each.nil
        simp only [List.getElem_toArray,List.getElem_cons_succ,List.getElem_cons_zero]
        rw [if_pos (by rfl)]
        go_simp
        refine (cO.out _ Kwt0.out).mono ?_
        rintro e' w5 ⟨v1,rfl,r1,_,k5⟩
        have K5:Hid (Keep W3 w5):=Kwt0.out.trans k5
        replace k5:=Lib.hid k5
        replace r1:=Lib.hid r1
        go_wp2_with fail
        refine hK.out _ _ (fun _=>HELD _ K5.out) ?_
        have hHeld:=HELD _ K5.out
        clear hK K
        try simp only [Act.put,List.getElem_toArray,List.getElem_cons_succ,List.getElem_cons_zero,List.setIfInBounds_toArray,List.set_cons_zero,List.set_cons_succ]
        refine OrdS.rest_ready (rs:=[9]) (by kernel_rfl) (by simp) ?_
        refine OrdS.Each.cons rfl (fun K hK=>?_) OrdS.Each.nil
        simp only [List.getElem_toArray,List.getElem_cons_succ,List.getElem_cons_zero]
        rw [if_pos (by rfl)]
        go_simp
        refine (cR.out _ K5.out).mono ?_
        rintro e' w6 ⟨v2,rfl,r2,k6⟩
        have K6:Hid (Keep W3 w6):=K5.out.trans k6
        have r1b:=Lib.hid (r1.out.keep k6)
        replace k6:=Lib.hid k6
        replace r2:=Lib.hid r2
        go_wp2_with fail
        refine hK.out _ _ (fun _=>HELD _ K6.out) ?_
        have hHeld:=HELD _ K6.out
        clear hK K
        try simp only [Act.put,List.getElem_toArray,List.getElem_cons_succ,List.getElem_cons_zero,List.setIfInBounds_toArray,List.set_cons_zero,List.set_cons_succ]
        refine OrdS.rest_ready (rs:=[10]) (by kernel_rfl) (by simp) ?_
        refine OrdS.Each.cons rfl (fun K hK=>?_) OrdS.Each.nil
        simp only [List.getElem_toArray,List.getElem_cons_succ,List.getElem_cons_zero]
        rw [if_pos (by rfl)]
        go_simp
        refine (row_same r1b.out r2.out (same_self _ _)).mono ?_
        rintro e' w7 ⟨rfl,k7⟩
        have K7:Hid (Keep W3 w7):=K6.out.trans k7
        replace k7:=Lib.hid k7
        go_wp2_with fail
        refine hK.out _ _ (fun _=>HELD _ K7.out) ?_
        have hHeld:=HELD _ K7.out
        clear hK K
        try simp only [Act.put,List.getElem_toArray,List.getElem_cons_succ,List.getElem_cons_zero,List.setIfInBounds_toArray,List.set_cons_zero,List.set_cons_succ]
        refine OrdS.tk (i:=11) (v:=.bool true) rfl (by kernel_rfl) (fun _ _ _ h=>h) (by rfl) (fun Wz hW=>by obtain ⟨u0,u1,u2,u3,u4,u5,u6,u7,u8,u9,u10,u11⟩:=hW;go_simp) hHeld ?_
        simp only [Act.put,List.getElem_toArray,List.getElem_cons_succ,List.getElem_cons_zero,List.setIfInBounds_toArray,List.set_cons_zero,List.set_cons_succ]
        refine OrdS.tk (i:=12) (v:=.pointer (some ⟨q,0,none⟩)) rfl (by kernel_rfl) (fun _ _ _ h=>h) (by rfl) (fun Wz hW=>by obtain ⟨u0,u1,u2,u3,u4,u5,u6,u7,u8,u9,u10,u11⟩:=hW;go_simp) hHeld ?_
        simp only [Act.put,List.getElem_toArray,List.getElem_cons_succ,List.getElem_cons_zero,List.setIfInBounds_toArray,List.set_cons_zero,List.set_cons_succ]
        refine OrdS.tk (i:=13) (v:=.agg #[.int .i64 p.k,.int .i64 p.p,.bool p.f,.int .i64 p.g,.slice p.A p.m p.c,.int .i64 p.a,.int .i64 p.h,.int .i64 p.d,.int .i64 p.t]) rfl (by kernel_rfl) (fun _ _ _ h=>h) (by rfl) (fun Wz hW=>by obtain ⟨u0,u1,u2,u3,u4,u5,u6,u7,u8,u9,u10,u11⟩:=hW;go_simp) hHeld ?_
        simp only [Act.put,List.getElem_toArray,List.getElem_cons_succ,List.getElem_cons_zero,List.setIfInBounds_toArray,List.set_cons_zero,List.set_cons_succ]
        refine OrdS.tk (i:=14) (v:=.int .i64 nd) rfl (by kernel_rfl) (fun _ _ _ h=>h) (by rfl) (fun Wz hW=>by obtain ⟨u0,u1,u2,u3,u4,u5,u6,u7,u8,u9,u10,u11⟩:=hW;go_simp) hHeld ?_
        simp only [Act.put,List.getElem_toArray,List.getElem_cons_succ,List.getElem_cons_zero,List.setIfInBounds_toArray,List.set_cons_zero,List.set_cons_succ]
        refine OrdS.tk (i:=15) (v:=.slice WA wn wc) rfl (by kernel_rfl) (fun _ _ _ h=>h) (by rfl) (fun Wz hW=>by obtain ⟨u0,u1,u2,u3,u4,u5,u6,u7,u8,u9,u10,u11⟩:=hW;go_simp) hHeld ?_
        simp only [Act.put,List.getElem_toArray,List.getElem_cons_succ,List.getElem_cons_zero,List.setIfInBounds_toArray,List.set_cons_zero,List.set_cons_succ]
        refine OrdS.tk (i:=17) (v:=.agg #[.int .i64 x.d,.slice x.A x.n x.c,.slice x.B x.m x.e]) rfl (by kernel_rfl) (fun _ _ _ h=>h) (by rfl) (fun Wz hW=>by obtain ⟨u0,u1,u2,u3,u4,u5,u6,u7,u8,u9,u10,u11⟩:=hW;go_simp) hHeld ?_
        simp only [Act.put,List.getElem_toArray,List.getElem_cons_succ,List.getElem_cons_zero,List.setIfInBounds_toArray,List.set_cons_zero,List.set_cons_succ]
        refine OrdS.tk (i:=18) (v:=.agg #[.int .i64 p.k,.int .i64 p.p,.bool p.f,.int .i64 p.g,.slice p.A p.m p.c,.int .i64 p.a,.int .i64 p.h,.int .i64 p.d,.int .i64 p.t]) rfl (by kernel_rfl) (fun _ _ _ h=>h) (by rfl) (fun Wz hW=>by obtain ⟨u0,u1,u2,u3,u4,u5,u6,u7,u8,u9,u10,u11⟩:=hW;go_simp) hHeld ?_
        simp only [Act.put,List.getElem_toArray,List.getElem_cons_succ,List.getElem_cons_zero,List.setIfInBounds_toArray,List.set_cons_zero,List.set_cons_succ]
        refine OrdS.tk (i:=19) (v:=.int .i64 nd) rfl (by kernel_rfl) (fun _ _ _ h=>h) (by rfl) (fun Wz hW=>by obtain ⟨u0,u1,u2,u3,u4,u5,u6,u7,u8,u9,u10,u11⟩:=hW;go_simp) hHeld ?_
        simp only [Act.put,List.getElem_toArray,List.getElem_cons_succ,List.getElem_cons_zero,List.setIfInBounds_toArray,List.set_cons_zero,List.set_cons_succ]
        refine OrdS.tk (i:=20) (v:=.slice WA wn wc) rfl (by kernel_rfl) (fun _ _ _ h=>h) (by rfl) (fun Wz hW=>by obtain ⟨u0,u1,u2,u3,u4,u5,u6,u7,u8,u9,u10,u11⟩:=hW;go_simp) hHeld ?_
        simp only [Act.put,List.getElem_toArray,List.getElem_cons_succ,List.getElem_cons_zero,List.setIfInBounds_toArray,List.set_cons_zero,List.set_cons_succ]
        refine OrdS.rest_ready (rs:=[16]) (by kernel_rfl) (by simp) ?_
        refine OrdS.Each.cons rfl (fun K hK=>?_) OrdS.Each.nil
        simp only [List.getElem_toArray,List.getElem_cons_succ,List.getElem_cons_zero]
        rw [if_pos (by rfl)]
        go_simp
        refine (cF.out _ K7.out).mono ?_
        rintro e' w8 ⟨rfl,k8⟩
        have K8:Hid (Keep W3 w8):=K7.out.trans k8
        replace k8:=Lib.hid k8
        go_wp2_with fail
        refine hK.out _ _ (fun _=>HELD _ K8.out) ?_
        have hHeld:=HELD _ K8.out
        clear hK K
        try simp only [Act.put,List.getElem_toArray,List.getElem_cons_succ,List.getElem_cons_zero,List.setIfInBounds_toArray,List.set_cons_zero,List.set_cons_succ]
        refine OrdS.rest_ready (rs:=[21]) (by kernel_rfl) (by simp) ?_
        refine OrdS.Each.cons rfl (fun K hK=>?_) OrdS.Each.nil
        simp only [List.getElem_toArray,List.getElem_cons_succ,List.getElem_cons_zero]
        rw [if_pos (by rfl)]
        go_simp
        refine (cG.out _ K8.out).mono ?_
        rintro e' w9 ⟨rfl,k9⟩
        have K9:Hid (Keep W3 w9):=K8.out.trans k9
        replace k9:=Lib.hid k9
        go_wp2_with fail
        refine hK.out _ _ (fun _=>HELD _ K9.out) ?_
        have hHeld:=HELD _ K9.out
        clear hK K
        try simp only [Act.put,List.getElem_toArray,List.getElem_cons_succ,List.getElem_cons_zero,List.setIfInBounds_toArray,List.set_cons_zero,List.set_cons_succ]
        refine OrdS.tk (i:=22) (v:=.bool true) rfl (by kernel_rfl) (fun _ _ _ h=>h) (by rfl) (fun Wz hW=>by obtain ⟨u0,u1,u2,u3,u4,u5,u6,u7,u8,u9,u10,u11⟩:=hW;go_simp) hHeld ?_
        simp only [Act.put,List.getElem_toArray,List.getElem_cons_succ,List.getElem_cons_zero,List.setIfInBounds_toArray,List.set_cons_zero,List.set_cons_succ]
        refine OrdS.tk (i:=23) (v:=.bool true) rfl (by kernel_rfl) (fun _ _ _ h=>h) (by rfl) (fun Wz hW=>by obtain ⟨u0,u1,u2,u3,u4,u5,u6,u7,u8,u9,u10,u11⟩:=hW;go_simp) hHeld ?_
        simp only [Act.put,List.getElem_toArray,List.getElem_cons_succ,List.getElem_cons_zero,List.setIfInBounds_toArray,List.set_cons_zero,List.set_cons_succ]
        refine OrdS.tk (i:=24) (v:=.bool true) rfl (by kernel_rfl) (fun _ _ _ h=>h) (by rfl) (fun Wz hW=>by obtain ⟨u0,u1,u2,u3,u4,u5,u6,u7,u8,u9,u10,u11⟩:=hW;go_simp) hHeld ?_
        simp only [Act.put,List.getElem_toArray,List.getElem_cons_succ,List.getElem_cons_zero,List.setIfInBounds_toArray,List.set_cons_zero,List.set_cons_succ]
        refine OrdS.rest_done (by kernel_rfl) ?_ _
        clear hHeld HELD
        go_wp2
        go_ret
        exact ⟨rfl,K0.out.trans (K3.out.trans K9.out)⟩
end Go.Proofs.YtclfbplbccehkaaGreatDoor.T16

