/-
  The law of P15.4: a lower priority sees at least as much. Condition: errors.errorType holds its own.
-/
import Derived.Test.YtinndaolcaehiaaGreatDoorD38
namespace Go.Proofs.YtinndaolcaehiaaGreatDoor.T15
open Go.RowKit Go.Sort Go.Lib V12 T13 T14
set_option maxRecDepth 100000 in
set_option maxHeartbeats 16000000 in
theorem low_walk {CS:PredC} (C:Con CS) (N:NewXOk CS) (A:Option Addr) (n c:Nat) (Pn:Nat→C14.NdC) (B:Option Addr) (m e:Nat) (Pp:Nat→PlV) (p:PodV) (ls nd:Int) (w:World) (hN:C14.RdC w A n Pn) (hP:RdPl w B m Pp) (hpx:PodIs w p) (hg:ErrT w) (hls:0≤ls∧ls≤255) (hnd:I64 nd):Calls Tryz.prog 4 #[.slice A n c,.slice B m e,p.val,.int .u8 ls,.int .i64 nd] w fun e w'=>e = .returned (.bool true)∧Keep w w':=by
  obtain ⟨W0,hW0⟩:∃ W0,W0 = w.alloc (.cells (podB p) 24):=⟨_,rfl⟩
  have K0:Hid (Keep w W0):=by rw [hW0];exact Keep.one _ _
  have BP:Hid (W0.heap[w.heap.size]? = some (.cells (podB p) 24 (0,0))):=by rw [hW0];exact heap_alloc_new _ _
  obtain ⟨bp,hbp⟩:∃ b,b = w.heap.size:=⟨_,rfl⟩
  rw [← hbp] at BP
  have hg0:Hid (ErrT W0):=hg.keep K0.out
  have cB:=Lib.hid (build_fn C N A n c Pn B m e Pp W0 (hN.keep K0.out) (hP.keep K0.out) hg0.out)
  have aw:Hid (∀ W2,Keep W0 W2→Calls Tryz.prog 6 #[] W2 fun e w'=>e = .returned (.bool true)∧Keep W2 w'):=fun W2 k=>awake_true C N W2 (hg0.out.keep k)
  have px0:=hpx.keep K0.out
  replace hN:=Lib.hid hN
  replace hP:=Lib.hid hP
  replace hg:=Lib.hid hg
  replace hpx:=Lib.hid hpx
  replace px0:=Lib.hid px0
  unfold podB at hW0
  unfold PodV.val
  go_enter Tryz.func4,Tryz.ntmps4
  go_wp2_with fail
  rw [← hW0,← hbp]
  replace hW0:=Lib.hid hW0
  replace hbp:=Lib.hid hbp
  refine cB.out.mono ?_
  rintro e' w1 ⟨k1,⟨x,rfl⟩ | ⟨q,M,L,X,x,Q,P,rfl,ST,hM,hL⟩⟩
  · obtain ⟨W1,hW1⟩:∃ W1,W1 = w1.alloc (.cells x.arr 32):=⟨_,rfl⟩
    have K1:Hid (Keep W0 W1):=by rw [hW1];exact k1.alloc _
    replace k1:=Lib.hid k1
    have a1:=Lib.hid (aw.out W1 K1.out)
    unfold RcV.arr at hW1
    unfold RcV.val
    go_wp2_with fail
    rw [← hW1]
    replace hW1:=Lib.hid hW1
    refine a1.out.mono ?_
    rintro e' w2 ⟨rfl,k2⟩
    have K2:Hid (Keep W0 w2):=K1.out.trans k2
    replace k2:=Lib.hid k2
    clear a1
    have a2:=Lib.hid (aw.out w2 K2.out)
    go_wp2_with fail
    refine a2.out.mono ?_
    rintro e' w3 ⟨rfl,k3⟩
    replace k3:=Lib.hid k3
    go_wp2
    go_ret
    exact ⟨rfl,K0.out.trans (K2.out.trans k3.out)⟩
  · obtain ⟨W1,hW1⟩:∃ W1,W1 = w1.alloc (.cells x.arr 32):=⟨_,rfl⟩
    have K1:Hid (Keep W0 W1):=by rw [hW1];exact k1.alloc _
    replace k1:=Lib.hid k1
    replace ST:=Lib.hid (ST.keep C (show Keep w1 W1 by rw [hW1];exact Keep.one _ _))
    replace hM:=Lib.hid hM
    replace hL:=Lib.hid hL
    have BX:Hid (W1.heap[w1.heap.size]? = some (.cells x.arr 32 (0,0))):=by rw [hW1];exact heap_alloc_new _ _
    have a1:=Lib.hid (aw.out W1 K1.out)
    unfold RcV.arr at hW1
    unfold RcV.val
    go_wp2_with fail
    rw [← hW1]
    try replace hW1:=Lib.hid hW1
    refine a1.out.mono ?_
    rintro e' w2 ⟨rfl,k2⟩
    have K2:Hid (Keep W0 w2):=K1.out.trans k2
    replace ST:=Lib.hid (ST.out.keep C k2)
    replace BX:Hid (w2.heap[w1.heap.size]? = some (.cells x.arr 32 (0,0))):=Keep.block k2 BX.out
    replace k2:=Lib.hid k2
    obtain ⟨bx,hbx⟩:∃ b,b = w1.heap.size:=⟨_,rfl⟩
    rw [← hbx] at BX ⊢
    replace hbx:=Lib.hid hbx
    clear a1
    have X0:=blk9 (Keep.block K2.out BP.out)
    have x0:=X0.e0;have x1:=X0.e1;have x2:=X0.e2;have x3:=X0.e3;have x4:=X0.e4;have x5:=X0.e5;have x6:=X0.e6;have x7:=X0.e7;have x8:=X0.e8
    clear X0
    obtain ⟨W3,hW3⟩:∃ W3,W3 = w2.alloc (.cells (podB p) 24):=⟨_,rfl⟩
    have B3:Hid (W3.heap[w2.heap.size]? = some (.cells (podB p) 24 (0,0))):=by rw [hW3];exact heap_alloc_new _ _
    have k23:Hid (Keep w2 W3):=by rw [hW3];exact Keep.one _ _
    have K3:Hid (Keep W0 W3):=K2.out.trans k23.out
    replace ST:=Lib.hid (ST.out.keep C k23.out)
    replace BX:Hid (W3.heap[bx]? = some (.cells x.arr 32 (0,0))):=Keep.block k23.out BX.out
    obtain ⟨fb,hfb⟩:=fewx_or p
    have cF:=Lib.hid (rfew_fn (some ⟨w2.heap.size,0,none⟩) 1 1 (fun _=>p) W3 (rd_single B3.out (px0.out.keep K3.out)) fb hfb)
    unfold podB at hW3
    replace hfb:=Lib.hid hfb
    go_wp2_with fail
    rw [← hW3]
    replace hW3:=Lib.hid hW3
    refine cF.out.mono ?_
    rintro e' w4 ⟨rfl,rfl⟩
    clear x0 x1 x2 x3 x4 x5 x6 x7 x8 cF
    cases fb with
    | false =>
      have a2:=Lib.hid (aw.out W3 K3.out)
      go_wp2_with fail
      refine a2.out.mono ?_
      rintro e' w5 ⟨rfl,k5⟩
      replace k5:=Lib.hid k5
      go_wp2
      go_ret
      exact ⟨rfl,K0.out.trans (K3.out.trans k5.out)⟩
    | true =>
      have fx:=Lib.hid (hfb.out.1 rfl)
      have hb:-1073741824≤p.p∧p.p≤1073741824∧p.m≤20:=fx.out.2 0 (by omega)
      obtain ⟨z,hz⟩:∃ z:PodV,z = { p with p:=wrap64 (p.p - wrap64 ls) }:=⟨_,rfl⟩
      have zk:Hid (z.k = p.k∧z.p≤p.p):=by
        rw [hz]
        refine ⟨rfl,?_⟩
        show wrap64 (p.p - wrap64 ls)≤p.p
        rw [IntWalk.wrap64_in ls (by omega),IntWalk.wrap64_in _ (by omega)]
        omega
      obtain ⟨bq,hbq⟩:∃ b,b = W3.heap.size:=⟨_,rfl⟩
      obtain ⟨Wq,hWq⟩:∃ Wq,Wq = W3.alloc (.cells (podB { p with p:=wrap64 (p.p - wrap64 ls) }) 24):=⟨_,rfl⟩
      have kq:Hid (Keep W3 Wq):=by rw [hWq];exact Keep.one _ _
      have Bq:Hid (Wq.heap[bq]? = some (.cells (podB z) 24 (0,0))):=by
        show _ = _
        rw [hWq,hbq,hz]
        exact heap_alloc_new _ _
      have X0:=blk9 (Keep.block K3.out BP.out)
      have x0:=X0.e0;have x1:=X0.e1;have x2:=X0.e2;have x3:=X0.e3;have x4:=X0.e4;have x5:=X0.e5;have x6:=X0.e6;have x7:=X0.e7;have x8:=X0.e8
      have p1:=(Keep.one W3 (.cells (podB p) 24)).cell x1
      have Y0:=blk9 (Keep.block (K3.out.trans kq.out) BP.out)
      have y0:=Y0.e0;have y1:=Y0.e1;have y2:=Y0.e2;have y3:=Y0.e3;have y4:=Y0.e4;have y5:=Y0.e5;have y6:=Y0.e6;have y7:=Y0.e7;have y8:=Y0.e8
      clear X0 Y0
      rw [hWq] at y0 y1 y2 y3 y4 y5 y6 y7 y8
      have cA:=Lib.hid (rpods_fn C (C.keep ST.out.o kq.out) p nd hnd (Nat.le_trans hL.out (by omega)))
      have Sq:=Lib.hid (ST.out.keep C kq.out)
      unfold podB at hWq p1 y0 y1 y2 y3 y4 y5 y6 y7 y8
      unfold PodV.val at cA
      replace hb:=Lib.hid hb
      replace hz:=Lib.hid hz
      replace hls:=Lib.hid hls
      replace hnd:=Lib.hid hnd
      go_wp2_with fail
      rw [← hWq]
      try rw [← hbq]
      replace hWq:=Lib.hid hWq
      replace hbq:=Lib.hid hbq
      clear x0 x1 x2 x3 x4 x5 x6 x7 x8 p1 y0 y1 y2 y3 y4 y5 y6 y7 y8
      refine cA.out.mono ?_
      rintro e' w5 ⟨va,Sa,rfl,Ra,La,k5⟩
      obtain ⟨na,hna⟩:∃ na,na = (seesL p nd L).length:=⟨_,rfl⟩
      rw [← hna] at Ra La
      have na100:Hid (na≤100):=by show _≤_;rw [hna];exact Nat.le_trans (List.length_filter_le _ _) (Nat.le_trans hL.out (by omega))
      obtain ⟨Aa,ca,rfl,Pa⟩:=Ra.rd (by have:=na100.out;omega)
      have Z0:=blk9 (Keep.block k5 Bq.out)
      have z0:=Z0.e0;have z1:=Z0.e1;have z2:=Z0.e2;have z3:=Z0.e3;have z4:=Z0.e4;have z5:=Z0.e5;have z6:=Z0.e6;have z7:=Z0.e7;have z8:=Z0.e8
      clear Z0 cA Ra
      have cZ:=Lib.hid (rpods_fn C (C.keep Sq.out.o k5) z nd hnd.out (Nat.le_trans hL.out (by omega)))
      replace Pa:=Lib.hid Pa
      replace La:=Lib.hid La
      replace hna:=Lib.hid hna
      replace k5:=Lib.hid k5
      unfold PodV.val at cZ
      go_wp2_with fail
      clear z0 z1 z2 z3 z4 z5 z6 z7 z8
      refine cZ.out.mono ?_
      rintro e' w6 ⟨vb,Sb,rfl,Rb,Lb,k6⟩
      obtain ⟨nb,hnb⟩:∃ nb,nb = (seesL z nd L).length:=⟨_,rfl⟩
      rw [← hnb] at Rb Lb
      have nb100:Hid (nb≤100):=by show _≤_;rw [hnb];exact Nat.le_trans (List.length_filter_le _ _) (Nat.le_trans hL.out (by omega))
      obtain ⟨Ab,cb,rfl,Pb⟩:=Rb.rd (by have:=nb100.out;omega)
      have Pa6:=Lib.hid (Pa.out.keep k6)
      have SUB:Hid (List.Sublist ((ids (seesL p nd L)).drop 0) ((ids (seesL z nd L)).drop 0)):=low_sub L zk.out.1 zk.out.2
      have K6:Hid (Keep W0 w6):=K3.out.trans (kq.out.trans (k5.out.trans k6))
      clear cZ Rb Pa
      replace Pb:=Lib.hid Pb
      replace Lb:=Lib.hid Lb
      replace hnb:=Lib.hid hnb
      replace k6:=Lib.hid k6
      generalize hwo:w6 = wo at *
      clear hwo
      go_wp2
      go_loopg [16,17] nb (fun gx s16 s17 wr=>∃ i k:Nat,i≤nb∧k≤na∧gx = nb - i∧s16 = .int .i64 k∧s17 = .int .i64 i∧Hid (Keep wo wr)∧Hid (List.Sublist ((ids (seesL p nd L)).drop k) ((ids (seesL z nd L)).drop i)))
      case atStart=>exact ⟨0,0,Nat.zero_le _,Nat.zero_le _,rfl,rfl,rfl,Keep.refl _,SUB.out⟩
      case round =>
        clear SUB
        obtain ⟨i,k,hi,hk,rfl,rfl,rfl,KR,SUB⟩:=hrel
        have ni:=nb100.out
        have nk:=na100.out
        by_cases hlt:i < nb
        · by_cases hkt:k < na
          · obtain ⟨gb,ob,hB,cvb⟩:=(Pb.out.keep KR.out).adr (by omega)
            obtain ⟨ga,oa,hA,cva⟩:=(Pa6.out.keep KR.out).adr (by omega)
            subst hB hA
            have q1:=pods_at gb ob nb cb i hlt
            have q2:=pods_at ga oa na ca k hkt
            have xb:=(cvb i hlt).e0
            have xa:=(cva k hkt).e0
            clear cvb cva
            have ia:=Lib.hid (ids_at La.out hkt)
            have ib:=Lib.hid (ids_at Lb.out hlt)
            obtain ⟨u,hu⟩:∃ u,u = (Sb i).k:=⟨_,rfl⟩
            obtain ⟨v,hv⟩:∃ v,v = (Sa k).k:=⟨_,rfl⟩
            rw [← hu] at xb ib
            rw [← hv] at xa ia
            replace hu:=Lib.hid hu
            replace hv:=Lib.hid hv
            by_cases huv:u = v
            · have b1:(u == v) = true:=by simp [huv]
              have SUB2:Hid (List.Sublist ((ids (seesL p nd L)).drop (k + 1)) ((ids (seesL z nd L)).drop (i + 1))):=sub_yes SUB.out ia.out (by rw [ib.out,huv])
              replace huv:=Lib.hid huv
              go_upto_region 12 with fail
              go_region
              go_wp2
              go_roundg (nb - (i + 1))
              case measure=>omega
              case rel=>exact ⟨i + 1,k + 1,hlt,hkt,rfl,by go_num,by go_num,KR.out.drew,SUB2.out⟩
            · have b1:(u == v) = false:=by simp [huv]
              have SUB2:Hid (List.Sublist ((ids (seesL p nd L)).drop k) ((ids (seesL z nd L)).drop (i + 1))):=sub_no SUB.out ia.out ib.out huv
              replace huv:=Lib.hid huv
              go_upto_region 12 with fail
              go_region
              go_wp2
              go_roundg (nb - (i + 1))
              case measure=>omega
              case rel=>exact ⟨i + 1,k,hlt,hk,rfl,rfl,by go_num,KR.out.drew,SUB2.out⟩
          · have hkn:k = na:=by omega
            subst hkn
            go_wp2
            go_ret
            exact ⟨by simp,K0.out.trans (K6.out.trans KR.out)⟩
        · have hkn:k = na:=by
            have h1:=sub_end SUB.out (by rw [ids_len,← hna.out];exact hk) (by rw [ids_len,← hnb.out];omega)
            rw [ids_len,← hna.out] at h1
            exact h1
          subst hkn
          go_wp2
          go_ret
          exact ⟨by simp,K0.out.trans (K6.out.trans KR.out)⟩
end Go.Proofs.YtinndaolcaehiaaGreatDoor.T15

