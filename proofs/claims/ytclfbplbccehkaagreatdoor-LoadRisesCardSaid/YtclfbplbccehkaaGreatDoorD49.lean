/-
  The law of P16.1, P16.2: a pod of a higher priority fits wherever it fits with a lower one. Condition: errors.errorType holds its own.
-/
import Derived.Test.YtclfbplbccehkaaGreatDoorD22
namespace Go.Proofs.YtclfbplbccehkaaGreatDoor.T16
open Go.RowKit Go.Sort Go.Lib V12 T13 T14 T15
set_option maxRecDepth 100000 in
set_option maxHeartbeats 16000000 in
theorem ris_walk {CS:PredC} (C:Con CS) (N:NewXOk CS) (F:ConL CS) (HA:AwOk) (A:Option Addr) (n c:Nat) (Pn:Nat→C14.NdC) (B:Option Addr) (m e:Nat) (Pp:Nat→PlV) (p:PodV) (nd mo:Int) (w:World) (hN:C14.RdC w A n Pn) (hP:RdPl w B m Pp) (hpx:PodIs w p) (hg:ErrT w) (hnd:I64 nd) (hmo:0≤mo∧mo≤255):Calls Tryz.prog 6 #[.slice A n c,.slice B m e,p.val,.int .i64 nd,.int .u8 mo] w fun e w'=>e = .returned (.bool true)∧Keep w w':=by
  have mixed:Tryz.prog.follows .mixedOrders = true:=by kernel_rfl
  obtain ⟨W0,hW0⟩:∃ W0,W0 = w.alloc (.cells (podB p) 26):=⟨_,rfl⟩
  have K0:Hid (Keep w W0):=by rw [hW0];exact Keep.one _ _
  have BP:Hid (W0.heap[w.heap.size]? = some (.cells (podB p) 26 (0,0))):=by rw [hW0];exact heap_alloc_new _ _
  obtain ⟨bp,hbp⟩:∃ b,b = w.heap.size:=⟨_,rfl⟩
  rw [← hbp] at BP
  have hg0:Hid (ErrT W0):=hg.keep K0.out
  have cB:=Lib.hid (build_fn C N A n c Pn B m e Pp W0 (hN.keep K0.out) (hP.keep K0.out) hg0.out)
  have aw:Hid (∀ W2,Keep W0 W2→Calls Tryz.prog 9 #[] W2 fun e w'=>e = .returned (.bool true)∧Keep W2 w'):=fun W2 k=>HA W2 (hg0.out.keep k)
  have px0:=hpx.keep K0.out
  replace hN:=Lib.hid hN
  replace hP:=Lib.hid hP
  replace hg:=Lib.hid hg
  replace hpx:=Lib.hid hpx
  replace px0:=Lib.hid px0
  unfold podB at hW0
  unfold PodV.val
  go_enter Tryz.func6,Tryz.ntmps6
  go_wp2_with fail
  rw [← hW0,← hbp]
  replace hW0:=Lib.hid hW0
  replace hbp:=Lib.hid hbp
  refine cB.out.mono ?_
  rintro e' w1 ⟨k1,⟨x,rfl⟩ | ⟨q,M,L,X,x,Q,P,rfl,ST,hM,hL⟩⟩
  · obtain ⟨W1,hW1⟩:∃ W1,W1 = w1.alloc (.cells x.arr 31):=⟨_,rfl⟩
    have K1:Hid (Keep W0 W1):=by rw [hW1];exact k1.alloc _
    replace k1:=Lib.hid k1
    have a1:=Lib.hid (aw.out W1 K1.out)
    unfold RcV.arr at hW1
    unfold RcV.val
    go_wp2_with fail
    rw [← hW1]
    replace hW1:=Lib.hid hW1
    refine a1.out.mono ?_
    rintro e' w2 ⟨rfl,k2⟩
    have K2:Hid (Keep W0 w2):=K1.out.trans k2
    replace k2:=Lib.hid k2
    clear a1
    have a2:=Lib.hid (aw.out w2 K2.out)
    go_wp2_with fail
    refine a2.out.mono ?_
    rintro e' w3 ⟨rfl,k3⟩
    replace k3:=Lib.hid k3
    go_wp2
    go_ret
    exact ⟨rfl,K0.out.trans (K2.out.trans k3.out)⟩
  · obtain ⟨W1,hW1⟩:∃ W1,W1 = w1.alloc (.cells x.arr 31):=⟨_,rfl⟩
    have K1:Hid (Keep W0 W1):=by rw [hW1];exact k1.alloc _
    replace k1:=Lib.hid k1
    replace ST:=Lib.hid (ST.keep C (show Keep w1 W1 by rw [hW1];exact Keep.one _ _))
    replace hM:=Lib.hid hM
    replace hL:=Lib.hid hL
    have BX:Hid (W1.heap[w1.heap.size]? = some (.cells x.arr 31 (0,0))):=by rw [hW1];exact heap_alloc_new _ _
    have a1:=Lib.hid (aw.out W1 K1.out)
    unfold RcV.arr at hW1
    unfold RcV.val
    go_wp2_with fail
    rw [← hW1]
    try replace hW1:=Lib.hid hW1
    refine a1.out.mono ?_
    rintro e' w2 ⟨rfl,k2⟩
    have K2:Hid (Keep W0 w2):=K1.out.trans k2
    replace ST:=Lib.hid (ST.out.keep C k2)
    replace BX:Hid (w2.heap[w1.heap.size]? = some (.cells x.arr 31 (0,0))):=Keep.block k2 BX.out
    replace k2:=Lib.hid k2
    obtain ⟨bx,hbx⟩:∃ b,b = w1.heap.size:=⟨_,rfl⟩
    rw [← hbx] at BX ⊢
    replace hbx:=Lib.hid hbx
    clear a1
    have X0:=blk9 (Keep.block K2.out BP.out)
    have x0:=X0.e0;have x1:=X0.e1;have x2:=X0.e2;have x3:=X0.e3;have x4:=X0.e4;have x5:=X0.e5;have x6:=X0.e6;have x7:=X0.e7;have x8:=X0.e8
    clear X0
    obtain ⟨W3,hW3⟩:∃ W3,W3 = w2.alloc (.cells (podB p) 26):=⟨_,rfl⟩
    have B3:Hid (W3.heap[w2.heap.size]? = some (.cells (podB p) 26 (0,0))):=by rw [hW3];exact heap_alloc_new _ _
    have k23:Hid (Keep w2 W3):=by rw [hW3];exact Keep.one _ _
    have K3:Hid (Keep W0 W3):=K2.out.trans k23.out
    replace ST:=Lib.hid (ST.out.keep C k23.out)
    replace BX:Hid (W3.heap[bx]? = some (.cells x.arr 31 (0,0))):=Keep.block k23.out BX.out
    obtain ⟨fb,hfb⟩:=fewx_or p
    have cF:=Lib.hid (rfew_fn (some ⟨w2.heap.size,0,none⟩) 1 1 (fun _=>p) W3 (rd_single B3.out (px0.out.keep K3.out)) fb hfb)
    unfold podB at hW3
    replace hfb:=Lib.hid hfb
    go_wp2_with fail
    rw [← hW3]
    replace hW3:=Lib.hid hW3
    refine cF.out.mono ?_
    rintro e' w4 ⟨rfl,rfl⟩
    clear x0 x1 x2 x3 x4 x5 x6 x7 x8 cF
    cases fb with
    | false =>
      have a2:=Lib.hid (aw.out W3 K3.out)
      go_wp2_with fail
      refine a2.out.mono ?_
      rintro e' w5 ⟨rfl,k5⟩
      replace k5:=Lib.hid k5
      go_wp2
      go_ret
      exact ⟨rfl,K0.out.trans (K3.out.trans k5.out)⟩
    | true =>
      have fx:=Lib.hid (hfb.out.1 rfl)
      have hb:-1073741824≤p.p∧p.p≤1073741824∧p.m≤20:=fx.out.2 0 (by omega)
      have l100:Hid (L.length≤100):=Nat.le_trans hL.out (by omega)
      have m100:Hid (M.length≤100):=Nat.le_trans hM.out (by omega)
      have pm:Hid (p.m≤1000):=Nat.le_trans hb.2.2 (by omega)
      obtain ⟨z,hz⟩:∃ z:PodV,z = { p with p:=wrap64 (p.p + wrap64 mo) }:=⟨_,rfl⟩
      have zk:Hid (z.k = p.k∧p.p≤z.p∧z.m = p.m∧z.Z = p.Z):=by
        rw [hz]
        refine ⟨rfl,?_,rfl,rfl⟩
        show p.p≤wrap64 (p.p + wrap64 mo)
        rw [IntWalk.wrap64_in mo (by omega),IntWalk.wrap64_in _ (by omega)]
        omega
      have zis:Hid (∀ Wz,PodIs Wz p→PodIs Wz z):=fun Wz h=>by
        rw [hz]
        refine ⟨h.rd,h.nil,h.rng.1,?_,h.rng.2.2⟩
        show I64 (wrap64 (p.p + wrap64 mo))
        rw [IntWalk.wrap64_in mo (by omega),IntWalk.wrap64_in _ (by omega)]
        unfold I64
        omega
      obtain ⟨bq,hbq⟩:∃ b,b = W3.heap.size:=⟨_,rfl⟩
      obtain ⟨Wq,hWq⟩:∃ Wq,Wq = W3.alloc (.cells (podB { p with p:=wrap64 (p.p + wrap64 mo) }) 26):=⟨_,rfl⟩
      have kq:Hid (Keep W3 Wq):=by rw [hWq];exact Keep.one _ _
      have Bq:Hid (Wq.heap[bq]? = some (.cells (podB z) 26 (0,0))):=by
        show _ = _
        rw [hWq,hbq,hz]
        exact heap_alloc_new _ _
      have KP:Hid (∀ Wz,Keep Wq Wz→CS W0 2 q M L X Wz∧ErrT Wz∧PodIs Wz p∧PodIs Wz z):=fun Wz kk=>by
        have o:=C.keep ST.out.o (kq.out.trans kk)
        have k:=K3.out.trans (kq.out.trans kk)
        exact ⟨o,hg0.out.keep k,px0.out.keep k,zis.out Wz (px0.out.keep k)⟩
      have cO:Hid (∀ (v:PodV),v = p∨v = z→∀ Wz,Keep Wq Wz→Calls Tryz.prog 12 #[.pointer (some ⟨q,0,none⟩),v.val,.int .i64 nd,.slice none 0 0] Wz fun e w'=>∃ u,e = .returned u∧Row w' u 2 (ofZ no v nd M L)∧(∀ g,u.ownBlock = some g→Wz.heap.size≤g)∧Keep Wz w'):=fun v hv Wz kk=>by
        obtain ⟨k1,k2,k3,k4⟩:=KP.out Wz kk
        refine F.of v nd none 0 0 no k1 k2 ?_ hnd (SetOf.nil _ _) (by omega) (by omega) m100.out l100.out
        rcases hv with e | e
        · rw [e];exact k3
        · rw [e];exact k4
      have cF:Hid (∀ (v:PodV),v = p∨v = z→∀ Wz,Keep Wq Wz→Calls Tryz.prog 14 #[.pointer (some ⟨q,0,none⟩),v.val,.int .i64 nd,.slice none 0 0] Wz fun e w'=>e = .returned (.bool (fitsM no v nd M L 2))∧Keep Wz w'):=fun v hv Wz kk=>by
        obtain ⟨k1,k2,k3,k4⟩:=KP.out Wz kk
        refine F.fits v nd none 0 0 no k1 k2 ?_ hnd (SetOf.nil _ _) (by omega) (by omega) ?_ m100.out l100.out
        · rcases hv with e | e
          · rw [e];exact k3
          · rw [e];exact k4
        · rcases hv with e | e
          · rw [e];exact pm.out
          · rw [e,zk.out.2.2.1];exact pm.out
      have LE:Hid (∀ k,k < 2→loadZ no z nd L k≤loadZ no p nd L k):=fun k hk=>load_le (fun _ h=>h) (fun y h=>sees_hi zk.out.1 zk.out.2.1 h) ((C.ok ST.out.o).amtL hk)
      obtain ⟨fp,hfp⟩:∃ b,b = fitsM no p nd M L 2:=⟨_,rfl⟩
      obtain ⟨fz,hfz⟩:∃ b,b = fitsM no z nd M L 2:=⟨_,rfl⟩
      have imp:Hid (fp = true→fz = true):=fun h=>by
        rw [hfz]
        refine fits_le LE.out (fun hf=>?_) (hfp ▸ h)
        rw [zk.out.2.2.1,zk.out.2.2.2]
        exact ⟨(of_decide_eq_true hf).2.1,fun _ _=>Int.le_refl _⟩
      have X0:=blk9 (Keep.block K3.out BP.out)
      have x0:=X0.e0;have x1:=X0.e1;have x2:=X0.e2;have x3:=X0.e3;have x4:=X0.e4;have x5:=X0.e5;have x6:=X0.e6;have x7:=X0.e7;have x8:=X0.e8
      have p1:=(Keep.one W3 (.cells (podB p) 26)).cell x1
      have Y0:=blk9 (Keep.block (K3.out.trans kq.out) BP.out)
      have y0:=Y0.e0;have y1:=Y0.e1;have y2:=Y0.e2;have y3:=Y0.e3;have y4:=Y0.e4;have y5:=Y0.e5;have y6:=Y0.e6;have y7:=Y0.e7;have y8:=Y0.e8
      clear X0 Y0
      rw [hWq] at y0 y1 y2 y3 y4 y5 y6 y7 y8
      have c1:=Lib.hid (cO.out p (Or.inl rfl) Wq (Keep.refl _))
      unfold podB at hWq p1 y0 y1 y2 y3 y4 y5 y6 y7 y8
      unfold PodV.val at c1
      replace hb:=Lib.hid hb
      replace hz:=Lib.hid hz
      replace hmo:=Lib.hid hmo
      replace hnd:=Lib.hid hnd
      replace hfp:=Lib.hid hfp
      replace hfz:=Lib.hid hfz
      go_wp2_with fail
      rw [← hWq]
      try rw [← hbq]
      replace hWq:=Lib.hid hWq
      replace hbq:=Lib.hid hbq
      clear x0 x1 x2 x3 x4 x5 x6 x7 x8 p1 y0 y1 y2 y3 y4 y5 y6 y7 y8
      refine c1.out.mono ?_
      rintro e' w5 ⟨va,rfl,Ra,_,k5⟩
      have K5:Hid (Keep Wq w5):=k5
      replace k5:=Lib.hid k5
      clear c1
      have X0:=blk9 (Keep.block K5.out Bq.out)
      have z0:=X0.e0;have z1:=X0.e1;have z2:=X0.e2;have z3:=X0.e3;have z4:=X0.e4;have z5:=X0.e5;have z6:=X0.e6;have z7:=X0.e7;have z8:=X0.e8
      clear X0
      have c2:=Lib.hid (cO.out z (Or.inr rfl) w5 K5.out)
      unfold PodV.val at c2
      go_wp2_with fail
      clear z0 z1 z2 z3 z4 z5 z6 z7 z8
      refine c2.out.mono ?_
      rintro e' w6 ⟨vb,rfl,Rb,_,k6⟩
      have K6:Hid (Keep Wq w6):=K5.out.trans k6
      have Ra6:=Lib.hid (Ra.keep k6)
      replace Ra:=Lib.hid Ra
      replace Rb:=Lib.hid Rb
      replace k6:=Lib.hid k6
      clear c2
      have c3:=Lib.hid (row_fits Rb.out Ra6.out (of_le LE.out))
      go_wp2_with fail
      refine c3.out.mono ?_
      rintro e' w7 ⟨rfl,k7⟩
      have K7:Hid (Keep Wq w7):=K6.out.trans k7
      replace k7:=Lib.hid k7
      clear c3
      have X0:=blk9 (Keep.block (K3.out.trans (kq.out.trans K7.out)) BP.out)
      have p0:=X0.e0;have p1:=X0.e1;have p2:=X0.e2;have p3:=X0.e3;have p4:=X0.e4;have p5:=X0.e5;have p6:=X0.e6;have p7:=X0.e7;have p8:=X0.e8
      clear X0
      have c4:=Lib.hid (cF.out p (Or.inl rfl) w7 K7.out)
      rw [← hfp.out] at c4
      unfold PodV.val at c4
      go_wp2_with fail
      clear p0 p1 p2 p3 p4 p5 p6 p7 p8
      refine c4.out.mono ?_
      rintro e' w8 ⟨rfl,k8⟩
      have K8:Hid (Keep Wq w8):=K7.out.trans k8
      replace k8:=Lib.hid k8
      clear c4
      cases fp with
      | false =>
        go_wp2
        go_ret
        exact ⟨rfl,K0.out.trans (K3.out.trans (kq.out.trans K8.out))⟩
      | true =>
        have ez:=imp.out rfl
        have X0:=blk9 (Keep.block K8.out Bq.out)
        have z0:=X0.e0;have z1:=X0.e1;have z2:=X0.e2;have z3:=X0.e3;have z4:=X0.e4;have z5:=X0.e5;have z6:=X0.e6;have z7:=X0.e7;have z8:=X0.e8
        clear X0
        have c5:=Lib.hid (cF.out z (Or.inr rfl) w8 K8.out)
        rw [← hfz.out,ez] at c5
        replace ez:=Lib.hid ez
        unfold PodV.val at c5
        go_wp2_with fail
        clear z0 z1 z2 z3 z4 z5 z6 z7 z8
        refine c5.out.mono ?_
        rintro e' w9 ⟨rfl,k9⟩
        replace k9:=Lib.hid k9
        go_wp2
        go_ret
        exact ⟨rfl,K0.out.trans (K3.out.trans (kq.out.trans (K8.out.trans k9.out)))⟩
end Go.Proofs.YtclfbplbccehkaaGreatDoor.T16

