/-
  The law of P14.2, P16.1: a pod that is bound adds its request to the load. Condition: errors.errorType holds its own.
-/
import Derived.Test.YtclfbplbccehkaaGreatDoorD22
import Derived.Test.YtclfbplbccehkaaGreatDoorD13
namespace Go.Proofs.YtclfbplbccehkaaGreatDoor.T16
open Go.RowKit Go.Sort Go.Lib V12 T13 T14 T15
theorem ofZ_bd {O:Int→Bool} {p:PodV} {nd:Int} {M:List NV} {L:List PodV} {k:Nat} (hl:L.length≤100) (h:∀ y ∈ L,Amt (y.Z k)):0≤ofZ O p nd M L k∧ofZ O p nd M L k≤219902325555200:=by
  have h1:=usedL_hi (L:=outL O L) (id:=nd) (j:=k) fun y hy=>h y (List.mem_filter.1 hy).1
  have h4:=usedL_lo (L:=outL O L) (id:=nd) (j:=k) fun y hy=>h y (List.mem_filter.1 hy).1
  have h3:(outL O L).length≤L.length:=List.length_filter_le _ _
  have h5:=sumL_bd (L:=seesL p nd L) (j:=k) (n:=100) (Nat.le_trans (List.length_filter_le _ _) hl) (Nat.le_refl _) fun y hy=>h y (List.mem_filter.1 hy).1
  unfold ofZ loadZ
  split <;> omega
theorem lt_row {w:World} {v:Value} {d:Nat} {Z:Nat→Int} (h:Row w v (d + 1) Z) {g:Nat} (e:v.ownBlock = some g):g < w.heap.size:=by
  obtain ⟨A,c,rfl,h2⟩:=h
  obtain ⟨b,o,rfl,hc⟩:=h2.adr (Nat.succ_pos _)
  cases e
  exact World.block_lt_of_cell? _ _ (hc 0 (Nat.succ_pos _))
set_option maxRecDepth 100000 in
set_option maxHeartbeats 16000000 in
theorem bnd_walk {CS:PredC} (C:Con CS) (N:NewXOk CS) (F:ConL CS) (HA:AwOk) (A:Option Addr) (n c:Nat) (Pn:Nat→C14.NdC) (B:Option Addr) (m e:Nat) (Pp:Nat→PlV) (p:PodV) (id nd:Int) (w:World) (hN:C14.RdC w A n Pn) (hP:RdPl w B m Pp) (hpx:PodIs w p) (hg:ErrT w) (hid:I64 id) (hnd:I64 nd):Calls Tryz.prog 7 #[.slice A n c,.slice B m e,p.val,.int .i64 id,.int .i64 nd] w fun e w'=>e = .returned (.bool true)∧Keep w w':=by
  have mixed:Tryz.prog.follows .mixedOrders = true:=by kernel_rfl
  obtain ⟨W0,hW0⟩:∃ W0,W0 = w.alloc (.cells (podB p) 26):=⟨_,rfl⟩
  have K0:Hid (Keep w W0):=by rw [hW0];exact Keep.one _ _
  have BP:Hid (W0.heap[w.heap.size]? = some (.cells (podB p) 26 (0,0))):=by rw [hW0];exact heap_alloc_new _ _
  obtain ⟨bp,hbp⟩:∃ b,b = w.heap.size:=⟨_,rfl⟩
  rw [← hbp] at BP
  have hg0:Hid (ErrT W0):=hg.keep K0.out
  have cB:=Lib.hid (build_fn C N A n c Pn B m e Pp W0 (hN.keep K0.out) (hP.keep K0.out) hg0.out)
  have aw:Hid (∀ W2,Keep W0 W2→Calls Tryz.prog 9 #[] W2 fun e w'=>e = .returned (.bool true)∧Keep W2 w'):=fun W2 k=>HA W2 (hg0.out.keep k)
  have px0:=hpx.keep K0.out
  replace hN:=Lib.hid hN
  replace hP:=Lib.hid hP
  replace hg:=Lib.hid hg
  replace hpx:=Lib.hid hpx
  replace px0:=Lib.hid px0
  unfold podB at hW0
  unfold PodV.val
  go_enter Tryz.func7,Tryz.ntmps7
  go_wp2_with fail
  rw [← hW0,← hbp]
  replace hW0:=Lib.hid hW0
  replace hbp:=Lib.hid hbp
  refine cB.out.mono ?_
  rintro e' w1 ⟨k1,⟨x,rfl⟩ | ⟨q,M,L,X,x,Q,P,rfl,ST,hM,hL⟩⟩
  · obtain ⟨W1,hW1⟩:∃ W1,W1 = w1.alloc (.cells x.arr 31):=⟨_,rfl⟩
    have K1:Hid (Keep W0 W1):=by rw [hW1];exact k1.alloc _
    replace k1:=Lib.hid k1
    have a1:=Lib.hid (aw.out W1 K1.out)
    unfold RcV.arr at hW1
    unfold RcV.val
    go_wp2_with fail
    rw [← hW1]
    replace hW1:=Lib.hid hW1
    refine a1.out.mono ?_
    rintro e' w2 ⟨rfl,k2⟩
    have K2:Hid (Keep W0 w2):=K1.out.trans k2
    replace k2:=Lib.hid k2
    clear a1
    have a2:=Lib.hid (aw.out w2 K2.out)
    go_wp2_with fail
    refine a2.out.mono ?_
    rintro e' w3 ⟨rfl,k3⟩
    replace k3:=Lib.hid k3
    go_wp2
    go_ret
    exact ⟨rfl,K0.out.trans (K2.out.trans k3.out)⟩
  · obtain ⟨W1,hW1⟩:∃ W1,W1 = w1.alloc (.cells x.arr 31):=⟨_,rfl⟩
    have K1:Hid (Keep W0 W1):=by rw [hW1];exact k1.alloc _
    replace k1:=Lib.hid k1
    replace ST:=Lib.hid (ST.keep C (show Keep w1 W1 by rw [hW1];exact Keep.one _ _))
    replace hM:=Lib.hid hM
    replace hL:=Lib.hid hL
    have BX:Hid (W1.heap[w1.heap.size]? = some (.cells x.arr 31 (0,0))):=by rw [hW1];exact heap_alloc_new _ _
    have a1:=Lib.hid (aw.out W1 K1.out)
    unfold RcV.arr at hW1
    unfold RcV.val
    go_wp2_with fail
    rw [← hW1]
    try replace hW1:=Lib.hid hW1
    refine a1.out.mono ?_
    rintro e' w2 ⟨rfl,k2⟩
    have K2:Hid (Keep W0 w2):=K1.out.trans k2
    replace ST:=Lib.hid (ST.out.keep C k2)
    replace BX:Hid (w2.heap[w1.heap.size]? = some (.cells x.arr 31 (0,0))):=Keep.block k2 BX.out
    replace k2:=Lib.hid k2
    obtain ⟨bx,hbx⟩:∃ b,b = w1.heap.size:=⟨_,rfl⟩
    rw [← hbx] at BX ⊢
    replace hbx:=Lib.hid hbx
    clear a1
    have X0:=blk9 (Keep.block K2.out BP.out)
    have x0:=X0.e0;have x1:=X0.e1;have x2:=X0.e2;have x3:=X0.e3;have x4:=X0.e4;have x5:=X0.e5;have x6:=X0.e6;have x7:=X0.e7;have x8:=X0.e8
    clear X0
    obtain ⟨W3,hW3⟩:∃ W3,W3 = w2.alloc (.cells (podB p) 26):=⟨_,rfl⟩
    have B3:Hid (W3.heap[w2.heap.size]? = some (.cells (podB p) 26 (0,0))):=by rw [hW3];exact heap_alloc_new _ _
    have k23:Hid (Keep w2 W3):=by rw [hW3];exact Keep.one _ _
    have K3:Hid (Keep W0 W3):=K2.out.trans k23.out
    replace ST:=Lib.hid (ST.out.keep C k23.out)
    replace BX:Hid (W3.heap[bx]? = some (.cells x.arr 31 (0,0))):=Keep.block k23.out BX.out
    obtain ⟨fb,hfb⟩:=fewx_or p
    have cF:=Lib.hid (rfew_fn (some ⟨w2.heap.size,0,none⟩) 1 1 (fun _=>p) W3 (rd_single B3.out (px0.out.keep K3.out)) fb hfb)
    unfold podB at hW3
    replace hfb:=Lib.hid hfb
    go_wp2_with fail
    rw [← hW3]
    replace hW3:=Lib.hid hW3
    refine cF.out.mono ?_
    rintro e' w4 ⟨rfl,rfl⟩
    clear x0 x1 x2 x3 x4 x5 x6 x7 x8 cF
    cases fb with
    | false =>
      have a2:=Lib.hid (aw.out W3 K3.out)
      go_wp2_with fail
      refine a2.out.mono ?_
      rintro e' w5 ⟨rfl,k5⟩
      replace k5:=Lib.hid k5
      go_wp2
      go_ret
      exact ⟨rfl,K0.out.trans (K3.out.trans k5.out)⟩
    | true =>
      have fx:=Lib.hid (hfb.out.1 rfl)
      have hb:-1073741824≤p.p∧p.p≤1073741824∧p.m≤20:=fx.out.2 0 (by omega)
      have l100:Hid (L.length≤100):=Nat.le_trans hL.out (by omega)
      have m100:Hid (M.length≤100):=Nat.le_trans hM.out (by omega)
      have pm:Hid (p.m≤1000):=Nat.le_trans hb.2.2 (by omega)
      replace hb:=Lib.hid hb
      replace hnd:=Lib.hid hnd
      replace hid:=Lib.hid hid
      have x0:=(blk9 (Keep.block K3.out BP.out)).e0
      by_cases hne:p.k = id
      · have b1:(p.k == id) = true:=by simp [hne]
        replace hne:=Lib.hid hne
        have a2:=Lib.hid (aw.out W3 K3.out)
        go_wp2_with fail
        refine a2.out.mono ?_
        rintro e' w5 ⟨rfl,k5⟩
        replace k5:=Lib.hid k5
        go_wp2
        go_ret
        exact ⟨rfl,K0.out.trans (K3.out.trans k5.out)⟩
      · have b1:(p.k == id) = false:=by simp [hne]
        replace hne:Hid (p.k≠id):=hne
        have cP:=Lib.hid (C.pod id ST.out.o hid.out l100.out)
        unfold PodV.val at cP
        go_wp2_with fail
        clear x0
        refine cP.out.mono ?_
        rintro e' w4 ⟨r,rfl,gr0,ris,rq,k4⟩
        have gr:Hid (nm r = getL L id∧True):=⟨gr0,trivial⟩
        have k33:Hid (Keep W3 w4):=k4
        have fq:Hid (∀ g,(Value.slice r.A r.m r.c).ownBlock = some g→W3.heap.size≤g∧g < w4.heap.size):=fun g h=>rq.lt g h
        obtain ⟨bq,hbq⟩:∃ b,b = w4.heap.size:=⟨_,rfl⟩
        obtain ⟨W5,hW5⟩:∃ W5,W5 = w4.alloc (.cells (podB r) 26):=⟨_,rfl⟩
        have k45:Hid (Keep w4 W5):=by rw [hW5];exact Keep.one _ _
        have k35:Hid (Keep W3 W5):=k33.out.trans k45.out
        have Bq:Hid (W5.heap[bq]? = some (.cells (podB r) 26 (0,0))):=by show _ = _;rw [hW5,hbq];exact heap_alloc_new _ _
        have Rq5:Hid (Row W5 (.slice r.A r.m r.c) r.m r.Z):=⟨_,_,rfl,ris.rd.keep k45.out⟩
        have ST5:=Lib.hid (ST.out.keep C k35.out)
        have K5:Hid (Keep W0 W5):=K3.out.trans k35.out
        replace gr0:=Lib.hid gr0
        replace ris:=Lib.hid ris
        replace rq:=Lib.hid rq
        replace k4:=Lib.hid k4
        clear cP
        have Y0:=blk9 (Keep.block K5.out BP.out)
        have y0:=Y0.e0;have y1:=Y0.e1;have y2:=Y0.e2;have y3:=Y0.e3;have y4:=Y0.e4;have y5:=Y0.e5;have y6:=Y0.e6;have y7:=Y0.e7;have y8:=Y0.e8
        clear Y0
        rw [hW5] at y0 y1 y2 y3 y4 y5 y6 y7 y8
        have c1:=Lib.hid (F.of p nd none 0 0 no ST5.out.o (hg0.out.keep K5.out) (px0.out.keep K5.out) hnd.out (SetOf.nil _ _) (by omega) (by omega) m100.out l100.out)
        unfold podB at hW5 y0 y1 y2 y3 y4 y5 y6 y7 y8
        unfold PodV.val at c1
        go_wp2_with fail
        rw [← hW5,← hbq]
        replace hW5:=Lib.hid hW5
        replace hbq:=Lib.hid hbq
        clear y0 y1 y2 y3 y4 y5 y6 y7 y8
        refine c1.out.mono ?_
        rintro e' w6 ⟨vb,rfl,Rb,fb,k6⟩
        have K6:Hid (Keep W0 w6):=K5.out.trans k6
        have Bq6:Hid (w6.heap[bq]? = some (.cells (podB r) 26 (0,0))):=Keep.block k6 Bq.out
        have Rq:=Lib.hid (Rq5.out.keep k6)
        have o6:=Lib.hid (C.more (Z:=fun i=>W3.heap.size≤i∧i < w6.heap.size) ST.out.o (k35.out.trans k6) fun _ h=>h)
        replace Rb:=Lib.hid Rb
        replace fb:=Lib.hid fb
        replace k6:=Lib.hid k6
        clear c1
        have cB:=Lib.hid (C.bind id nd o6.out (hg0.out.keep K6.out) hid.out hnd.out m100.out l100.out)
        unfold PodV.val at cB
        have X0:=blk9 (Keep.block K6.out BP.out)
        have p0:=X0.e0;have p1:=X0.e1;have p2:=X0.e2;have p3:=X0.e3;have p4:=X0.e4;have p5:=X0.e5;have p6:=X0.e6;have p7:=X0.e7;have p8:=X0.e8
        clear X0
        have Q0:=blk9 Bq6.out
        have q1:=Q0.e1;have q6:=Q0.e6;have q7:=Q0.e7
        clear Q0
        obtain ⟨sw,hsw⟩:∃ sw,sw = decide (r.h = 2∧r.d = nd∧p.p≤r.p):=⟨_,rfl⟩
        have hs4:((r.h == 2) = false∧sw = false)∨((r.h == 2) = true∧(r.d == nd) = false∧sw = false)∨((r.h == 2) = true∧(r.d == nd) = true∧decide (p.p≤r.p) = false∧sw = false)∨((r.h == 2) = true∧(r.d == nd) = true∧decide (p.p≤r.p) = true∧sw = true):=by
          by_cases e1:r.h = 2
          · by_cases e2:r.d = nd
            · by_cases e3:p.p≤r.p
              · exact Or.inr (Or.inr (Or.inr ⟨by simp [e1],by simp [e2],decide_eq_true e3,hsw.trans (decide_eq_true ⟨e1,e2,e3⟩)⟩))
              · exact Or.inr (Or.inr (Or.inl ⟨by simp [e1],by simp [e2],decide_eq_false e3,hsw.trans (decide_eq_false fun h=>e3 h.2.2)⟩))
            · exact Or.inr (Or.inl ⟨by simp [e1],by simp [e2],hsw.trans (decide_eq_false fun h=>e2 h.2.1)⟩)
          · exact Or.inl ⟨by simp [e1],hsw.trans (decide_eq_false fun h=>e1 h.1)⟩
        replace hsw:=Lib.hid hsw
        go_upto_region 6 with fail
        go_cut [16] from 21 (fun s wx=>s = .bool sw∧wx = w6)
        case first =>
          clear cB
          rcases hs4 with ⟨b2,b5⟩ | ⟨b2,b3,b5⟩ | ⟨b2,b3,b4,b5⟩ | ⟨b2,b3,b4,b5⟩
          all_goals
            replace b5:=Lib.hid b5
            go_wp2_with fail
            go_meet
            exact ⟨by rw [b5.out],rfl⟩
        case rest =>
          obtain ⟨rfl,rfl⟩:=hcut
          clear hs4 q1 q6 q7
          by_cases hs:r.h = 2∧r.d = nd∧p.p≤r.p
          · obtain rfl:sw = true:=hsw.out.trans (decide_eq_true hs)
            replace hs:=Lib.hid hs
            go_wp2_with fail
            clear p0 p1 p2 p3 p4 p5 p6 p7 p8
            refine cB.out.mono ?_
            rintro e' w7 ⟨r2,rfl,_,_,_,_,o7,sx⟩
            obtain ⟨L2,hL2⟩:∃ L2,L2 = plL M L 2 id nd 1:=⟨_,rfl⟩
            rw [← hL2] at o7
            have l2:Hid (L2.length≤100):=by show _≤_;rw [hL2,plL_len];exact l100.out
            have K7:Hid (Keep W0 w7):=C.kp o7
            have Rb7:Hid (Row w7 vb 2 (ofZ no p nd M L)):=Rb.out.same fun g h=>sx g (Or.inr ⟨Nat.le_trans k35.out.size (fb.out g h),lt_row Rb.out h⟩)
            have Rq7:Hid (Row w7 (.slice r.A r.m r.c) r.m r.Z):=Rq.out.same fun g h=>sx g (Or.inr ⟨(fq.out g h).1,Nat.lt_of_lt_of_le (fq.out g h).2 (k45.out.trans k6.out).size⟩)
            have Bq7:Hid (w7.heap[bq]? = some (.cells (podB r) 26 (0,0))):=(sx bq (Or.inr ⟨by rw [hbq.out];exact Nat.le_trans k33.out.size (Nat.le_refl _),lt_of_block Bq6.out⟩)).trans Bq6.out
            obtain ⟨W8,hW8⟩:∃ W8,W8 = w7.alloc (.cells (podB r2) 26):=⟨_,rfl⟩
            have k78:Hid (Keep w7 W8):=by rw [hW8];exact Keep.one _ _
            have o8:=Lib.hid (C.keep o7 k78.out)
            have K8:Hid (Keep W0 W8):=K7.out.trans k78.out
            replace o7:=Lib.hid o7
            replace sx:=Lib.hid sx
            clear cB
            have Y0:=blk9 (Keep.block K8.out BP.out)
            have y0:=Y0.e0;have y1:=Y0.e1;have y2:=Y0.e2;have y3:=Y0.e3;have y4:=Y0.e4;have y5:=Y0.e5;have y6:=Y0.e6;have y7:=Y0.e7;have y8:=Y0.e8
            clear Y0
            rw [hW8] at y0 y1 y2 y3 y4 y5 y6 y7 y8
            have c2:=Lib.hid (F.of p nd none 0 0 no o8.out (hg0.out.keep K8.out) (px0.out.keep K8.out) hnd.out (SetOf.nil _ _) (by omega) (by omega) m100.out l2.out)
            unfold podB at hW8 y0 y1 y2 y3 y4 y5 y6 y7 y8
            unfold PodV.val at c2
            by_cases hc:plC M L 2 id nd 1 = 0
            · have ef:fltA (plC M L 2 id nd 1) (plI M L id nd) = .nilIface:=by unfold fltA;rw [if_pos hc]
              have lb:Hid (∀ k,ofZ no p nd M L2 k = ofZ no p nd M L k + 0):=fun k=>by
                have hnk:=(plC_zero hc).2.1
                unfold ofZ
                rw [if_pos hnk,if_pos hnk,hL2,load_bind (C.ok ST.out.o).lok hne.out hc k,if_pos (by rw [← gr.out.1];exact hs.out)]
                skip
              rw [ef]
              clear ef
              replace hL2:=Lib.hid hL2
              replace hc:=Lib.hid hc
              go_wp2_with fail
              rw [← hW8]
              replace hW8:=Lib.hid hW8
              clear y0 y1 y2 y3 y4 y5 y6 y7 y8
              refine c2.out.mono ?_
              rintro e' w9 ⟨va,rfl,Ra,_,k9⟩
              have Rb9:=Lib.hid (Rb7.out.keep (k78.out.trans k9))
              have K9:Hid (Keep W0 w9):=K8.out.trans k9
              replace Ra:=Lib.hid Ra
              replace k9:=Lib.hid k9
              clear c2
              have c3:=Lib.hid (row_same Ra.out Rb9.out (b:=true) (by rw [show ofZ no p nd M L2 = ofZ no p nd M L from funext fun k=>by rw [lb.out k];omega];exact same_self _ _))
              go_wp2_with fail
              refine c3.out.mono ?_
              rintro e' w10 ⟨rfl,k10⟩
              replace k10:=Lib.hid k10
              go_wp2
              go_ret
              exact ⟨rfl,K0.out.trans (K9.out.trans k10.out)⟩
            · have ef:fltA (plC M L 2 id nd 1) (plI M L id nd) = .iface 145 (.agg #[.int .i64 (plC M L 2 id nd 1),.int .i64 (plI M L id nd)]):=by unfold fltA flt;rw [if_neg hc];rfl
              have lb:Hid (L2 = L):=by show _ = _;rw [hL2];unfold plL;rw [if_neg hc]
              rw [ef]
              clear ef
              replace hL2:=Lib.hid hL2
              replace hc:=Lib.hid hc
              go_wp2_with fail
              rw [← hW8]
              replace hW8:=Lib.hid hW8
              clear y0 y1 y2 y3 y4 y5 y6 y7 y8
              refine c2.out.mono ?_
              rintro e' w9 ⟨va,rfl,Ra,_,k9⟩
              have Rb9:=Lib.hid (Rb7.out.keep (k78.out.trans k9))
              have K9:Hid (Keep W0 w9):=K8.out.trans k9
              replace Ra:=Lib.hid Ra
              replace k9:=Lib.hid k9
              clear c2
              have c3:=Lib.hid (row_same Ra.out Rb9.out (b:=true) (by rw [lb.out];exact same_self _ _))
              go_wp2_with fail
              refine c3.out.mono ?_
              rintro e' w10 ⟨rfl,k10⟩
              replace k10:=Lib.hid k10
              go_wp2
              go_ret
              exact ⟨rfl,K0.out.trans (K9.out.trans k10.out)⟩
          · obtain rfl:sw = false:=hsw.out.trans (decide_eq_false hs)
            replace hs:Hid (¬ (r.h = 2∧r.d = nd∧p.p≤r.p)):=hs
            go_wp2_with fail
            clear p0 p1 p2 p3 p4 p5 p6 p7 p8
            refine cB.out.mono ?_
            rintro e' w7 ⟨r2,rfl,_,_,_,_,o7,sx⟩
            obtain ⟨L2,hL2⟩:∃ L2,L2 = plL M L 2 id nd 1:=⟨_,rfl⟩
            rw [← hL2] at o7
            have l2:Hid (L2.length≤100):=by show _≤_;rw [hL2,plL_len];exact l100.out
            have K7:Hid (Keep W0 w7):=C.kp o7
            have Rb7:Hid (Row w7 vb 2 (ofZ no p nd M L)):=Rb.out.same fun g h=>sx g (Or.inr ⟨Nat.le_trans k35.out.size (fb.out g h),lt_row Rb.out h⟩)
            have Rq7:Hid (Row w7 (.slice r.A r.m r.c) r.m r.Z):=Rq.out.same fun g h=>sx g (Or.inr ⟨(fq.out g h).1,Nat.lt_of_lt_of_le (fq.out g h).2 (k45.out.trans k6.out).size⟩)
            have Bq7:Hid (w7.heap[bq]? = some (.cells (podB r) 26 (0,0))):=(sx bq (Or.inr ⟨by rw [hbq.out];exact Nat.le_trans k33.out.size (Nat.le_refl _),lt_of_block Bq6.out⟩)).trans Bq6.out
            obtain ⟨W8,hW8⟩:∃ W8,W8 = w7.alloc (.cells (podB r2) 26):=⟨_,rfl⟩
            have k78:Hid (Keep w7 W8):=by rw [hW8];exact Keep.one _ _
            have o8:=Lib.hid (C.keep o7 k78.out)
            have K8:Hid (Keep W0 W8):=K7.out.trans k78.out
            replace o7:=Lib.hid o7
            replace sx:=Lib.hid sx
            clear cB
            have Y0:=blk9 (Keep.block K8.out BP.out)
            have y0:=Y0.e0;have y1:=Y0.e1;have y2:=Y0.e2;have y3:=Y0.e3;have y4:=Y0.e4;have y5:=Y0.e5;have y6:=Y0.e6;have y7:=Y0.e7;have y8:=Y0.e8
            clear Y0
            rw [hW8] at y0 y1 y2 y3 y4 y5 y6 y7 y8
            have c2:=Lib.hid (F.of p nd none 0 0 no o8.out (hg0.out.keep K8.out) (px0.out.keep K8.out) hnd.out (SetOf.nil _ _) (by omega) (by omega) m100.out l2.out)
            unfold podB at hW8 y0 y1 y2 y3 y4 y5 y6 y7 y8
            unfold PodV.val at c2
            by_cases hc:plC M L 2 id nd 1 = 0
            · have ef:fltA (plC M L 2 id nd 1) (plI M L id nd) = .nilIface:=by unfold fltA;rw [if_pos hc]
              have lb:Hid (∀ k,ofZ no p nd M L2 k = ofZ no p nd M L k + r.Z k):=fun k=>by
                have hnk:=(plC_zero hc).2.1
                unfold ofZ
                rw [if_pos hnk,if_pos hnk,hL2,load_bind (C.ok ST.out.o).lok hne.out hc k,if_neg (by rw [← gr.out.1];exact hs.out)]
                rw [← gr.out.1];rfl
              rw [ef]
              clear ef
              replace hL2:=Lib.hid hL2
              have rm:r.m = 2:=by
                have h1:=((C.ok ST.out.o).req _ (get_some (plC_zero hc).1).1).1
                rw [← gr.out.1] at h1
                exact h1
              have ub:Hid (∀ k,k < 2→-9223372036854775808≤ofZ no p nd M L k + r.Z k∧ofZ no p nd M L k + r.Z k≤9223372036854775807):=fun k hk=>by
                have a1:=ofZ_bd (O:=no) (p:=p) (nd:=nd) (M:=M) l100.out ((C.ok ST.out.o).amtL hk)
                have a2:=((C.ok ST.out.o).req _ (get_some (plC_zero hc).1).1).2 k hk
                rw [← gr.out.1] at a2
                have a3:0≤r.Z k∧r.Z k≤1099511627776:=a2
                omega
              rw [rm] at Rq7
              replace hc:=Lib.hid hc
              have z4:=(blk9 (Keep.block k78.out Bq7.out)).e4
              rw [hW8] at z4
              rw [rm] at z4
              replace rm:=Lib.hid rm
              obtain ⟨Ab,cb,rfl,Rbd⟩:=Rb7.out
              obtain ⟨Aq,cq,eq,Rqd⟩:=Rq7.out
              rw [eq] at z4
              replace eq:=Lib.hid eq
              obtain ⟨Wa,hWa⟩:∃ Wa,Wa = W8.alloc (.cells #[.slice Ab 2 cb,.slice Aq 2 cq] 24):=⟨_,rfl⟩
              have s8:Hid (w7.heap.size + 1 = W8.heap.size):=by show _ = _;rw [hW8,World.size_alloc]
              have k8a:Hid (Keep W8 Wa):=by rw [hWa];exact Keep.one _ _
              have Ca:Hid (Wa.heap[W8.heap.size]? = some (.cells #[.slice Ab 2 cb,.slice Aq 2 cq] 24 (0,0))):=by rw [hWa];exact heap_alloc_new _ _
              have c4:=Lib.hid (radd2_fn Wa W8.heap.size 2 cb cq Ab Aq _ _ Ca.out (Rbd.keep (k78.out.trans k8a.out)) (Rqd.keep (k78.out.trans k8a.out)) (by omega) ub.out)
              replace Rbd:=Lib.hid Rbd
              replace Rqd:=Lib.hid Rqd
              clear c2 y0 y1 y2 y3 y4 y5 y6 y7 y8
              go_wp2_with fail
              rw [← hW8]
              rw [← hWa]
              try rw [s8.out]
              replace hW8:=Lib.hid hW8
              replace hWa:=Lib.hid hWa
              clear z4
              refine c4.out.mono ?_
              rintro e' w9 ⟨G,c9,rfl,Rg,k9⟩
              have K9:Hid (Keep W0 w9):=K8.out.trans (k8a.out.trans k9)
              have o9:=Lib.hid (C.keep o8.out (k8a.out.trans k9))
              replace Rg:=Lib.hid Rg
              replace k9:=Lib.hid k9
              clear c4
              have X0:=blk9 (Keep.block K9.out BP.out)
              have y0:=X0.e0;have y1:=X0.e1;have y2:=X0.e2;have y3:=X0.e3;have y4:=X0.e4;have y5:=X0.e5;have y6:=X0.e6;have y7:=X0.e7;have y8:=X0.e8
              clear X0
              have c5:=Lib.hid (F.of p nd none 0 0 no o9.out (hg0.out.keep K9.out) (px0.out.keep K9.out) hnd.out (SetOf.nil _ _) (by omega) (by omega) m100.out l2.out)
              unfold PodV.val at c5
              go_wp2_with fail
              clear y0 y1 y2 y3 y4 y5 y6 y7 y8
              refine c5.out.mono ?_
              rintro e' w10 ⟨va,rfl,Ra,_,k10⟩
              have Rg10:Hid (Row w10 (.slice G 2 c9) 2 (fun j=>ofZ no p nd M L j + r.Z j)):=⟨G,c9,rfl,Rg.out.keep k10⟩
              have K10:Hid (Keep W0 w10):=K9.out.trans k10
              replace Ra:=Lib.hid Ra
              replace k10:=Lib.hid k10
              clear c5
              have c6:=Lib.hid (row_same Ra.out Rg10.out (b:=true) (by rw [show ofZ no p nd M L2 = fun j=>ofZ no p nd M L j + r.Z j from funext fun k=>lb.out k];exact same_self _ _))
              go_wp2_with fail
              refine c6.out.mono ?_
              rintro e' w11 ⟨rfl,k11⟩
              replace k11:=Lib.hid k11
              go_wp2
              go_ret
              exact ⟨rfl,K0.out.trans (K10.out.trans k11.out)⟩
            · have ef:fltA (plC M L 2 id nd 1) (plI M L id nd) = .iface 145 (.agg #[.int .i64 (plC M L 2 id nd 1),.int .i64 (plI M L id nd)]):=by unfold fltA flt;rw [if_neg hc];rfl
              have lb:Hid (L2 = L):=by show _ = _;rw [hL2];unfold plL;rw [if_neg hc]
              rw [ef]
              clear ef
              replace hL2:=Lib.hid hL2
              replace hc:=Lib.hid hc
              go_wp2_with fail
              rw [← hW8]
              replace hW8:=Lib.hid hW8
              clear y0 y1 y2 y3 y4 y5 y6 y7 y8
              refine c2.out.mono ?_
              rintro e' w9 ⟨va,rfl,Ra,_,k9⟩
              have Rb9:=Lib.hid (Rb7.out.keep (k78.out.trans k9))
              have K9:Hid (Keep W0 w9):=K8.out.trans k9
              replace Ra:=Lib.hid Ra
              replace k9:=Lib.hid k9
              clear c2
              have c3:=Lib.hid (row_same Ra.out Rb9.out (b:=true) (by rw [lb.out];exact same_self _ _))
              go_wp2_with fail
              refine c3.out.mono ?_
              rintro e' w10 ⟨rfl,k10⟩
              replace k10:=Lib.hid k10
              go_wp2
              go_ret
              exact ⟨rfl,K0.out.trans (K9.out.trans k10.out)⟩
end Go.Proofs.YtclfbplbccehkaaGreatDoor.T16

