/-
  The law of P15.2, P15.3: a nomination that was cleared is seen by nobody. Condition: errors.errorType holds its own.
-/
import Derived.Test.YtinndaolcaehiaaGreatDoorD38
namespace Go.Proofs.YtinndaolcaehiaaGreatDoor.T15
open Go.RowKit Go.Sort Go.Lib V12 T13 T14
set_option maxRecDepth 100000 in
set_option maxHeartbeats 16000000 in
theorem clr_walk {CS:PredC} (C:Con CS) (N:NewXOk CS) (A:Option Addr) (n c:Nat) (Pn:Nat→C14.NdC) (B:Option Addr) (m e:Nat) (Pp:Nat→PlV) (id:Int) (p:PodV) (nd:Int) (w:World) (hN:C14.RdC w A n Pn) (hP:RdPl w B m Pp) (hpx:PodIs w p) (hg:ErrT w) (hid:I64 id) (hnd:I64 nd):Calls Tryz.prog 5 #[.slice A n c,.slice B m e,.int .i64 id,p.val,.int .i64 nd] w fun e w'=>e = .returned (.bool true)∧Keep w w':=by
  obtain ⟨W0,hW0⟩:∃ W0,W0 = w.alloc (.cells (podB p) 24):=⟨_,rfl⟩
  have K0:Hid (Keep w W0):=by rw [hW0];exact Keep.one _ _
  have BP:Hid (W0.heap[w.heap.size]? = some (.cells (podB p) 24 (0,0))):=by rw [hW0];exact heap_alloc_new _ _
  obtain ⟨bp,hbp⟩:∃ b,b = w.heap.size:=⟨_,rfl⟩
  rw [← hbp] at BP
  have hg0:Hid (ErrT W0):=hg.keep K0.out
  have cB:=Lib.hid (build_fn C N A n c Pn B m e Pp W0 (hN.keep K0.out) (hP.keep K0.out) hg0.out)
  have aw:Hid (∀ W2,Keep W0 W2→Calls Tryz.prog 6 #[] W2 fun e w'=>e = .returned (.bool true)∧Keep W2 w'):=fun W2 k=>awake_true C N W2 (hg0.out.keep k)
  have px0:=hpx.keep K0.out
  replace hN:=Lib.hid hN
  replace hP:=Lib.hid hP
  replace hg:=Lib.hid hg
  replace hpx:=Lib.hid hpx
  replace px0:=Lib.hid px0
  unfold podB at hW0
  unfold PodV.val
  go_enter Tryz.func5,Tryz.ntmps5
  go_wp2_with fail
  rw [← hW0,← hbp]
  replace hW0:=Lib.hid hW0
  replace hbp:=Lib.hid hbp
  refine cB.out.mono ?_
  rintro e' w1 ⟨k1,⟨x,rfl⟩ | ⟨q,M,L,X,x,Q,P,rfl,ST,hM,hL⟩⟩
  · obtain ⟨W1,hW1⟩:∃ W1,W1 = w1.alloc (.cells x.arr 32):=⟨_,rfl⟩
    have K1:Hid (Keep W0 W1):=by rw [hW1];exact k1.alloc _
    replace k1:=Lib.hid k1
    have a1:=Lib.hid (aw.out W1 K1.out)
    unfold RcV.arr at hW1
    unfold RcV.val
    go_wp2_with fail
    rw [← hW1]
    replace hW1:=Lib.hid hW1
    refine a1.out.mono ?_
    rintro e' w2 ⟨rfl,k2⟩
    have K2:Hid (Keep W0 w2):=K1.out.trans k2
    replace k2:=Lib.hid k2
    clear a1
    have a2:=Lib.hid (aw.out w2 K2.out)
    go_wp2_with fail
    refine a2.out.mono ?_
    rintro e' w3 ⟨rfl,k3⟩
    replace k3:=Lib.hid k3
    go_wp2
    go_ret
    exact ⟨rfl,K0.out.trans (K2.out.trans k3.out)⟩
  · obtain ⟨W1,hW1⟩:∃ W1,W1 = w1.alloc (.cells x.arr 32):=⟨_,rfl⟩
    have K1:Hid (Keep W0 W1):=by rw [hW1];exact k1.alloc _
    replace k1:=Lib.hid k1
    replace ST:=Lib.hid (ST.keep C (show Keep w1 W1 by rw [hW1];exact Keep.one _ _))
    replace hM:=Lib.hid hM
    replace hL:=Lib.hid hL
    have BX:Hid (W1.heap[w1.heap.size]? = some (.cells x.arr 32 (0,0))):=by rw [hW1];exact heap_alloc_new _ _
    have a1:=Lib.hid (aw.out W1 K1.out)
    unfold RcV.arr at hW1
    unfold RcV.val
    go_wp2_with fail
    rw [← hW1]
    try replace hW1:=Lib.hid hW1
    refine a1.out.mono ?_
    rintro e' w2 ⟨rfl,k2⟩
    have K2:Hid (Keep W0 w2):=K1.out.trans k2
    replace ST:=Lib.hid (ST.out.keep C k2)
    replace BX:Hid (w2.heap[w1.heap.size]? = some (.cells x.arr 32 (0,0))):=Keep.block k2 BX.out
    replace k2:=Lib.hid k2
    obtain ⟨bx,hbx⟩:∃ b,b = w1.heap.size:=⟨_,rfl⟩
    rw [← hbx] at BX ⊢
    replace hbx:=Lib.hid hbx
    clear a1
    have l100:Hid (L.length≤100):=Nat.le_trans hL.out (by omega)
    have m100:Hid (M.length≤100):=Nat.le_trans hM.out (by omega)
    have cO:=Lib.hid (rown_fn C ST.out.o id hid l100.out)
    obtain ⟨ob,hob⟩:∃ ob,ob = ownB L id:=⟨_,rfl⟩
    obtain ⟨on,hon⟩:∃ on,on = ownN L id:=⟨_,rfl⟩
    rw [← hob,← hon] at cO
    obtain ⟨er,her⟩:∃ er,er = fltA (cgC L id 3) 0:=⟨_,rfl⟩
    have qe:∀ W,(binOp .eql 41 er .nilIface).run Tryz.prog W = .ok (.bool ob) W:=by
      intro W
      by_cases hc:cgC L id 3 = 0
      · have h1:=(clr_iff L id).1 hc
        rw [her,hob,h1]
        unfold fltA
        rw [if_pos hc]
        exact nil_eq W
      · have h1:ownB L id = false:=by
          cases h:ownB L id with
          | false=>rfl
          | true=>exact absurd ((clr_iff L id).2 h) hc
        rw [her,hob,h1]
        unfold fltA flt
        rw [if_neg hc]
        exact flt_ne _ _ W
    have qg:∀ W,(eqGuard .eql 41 (.tmp 47) (.const .nilIface) er .nilIface).run Tryz.prog W = .ok () W:=by
      intro W
      by_cases hc:cgC L id 3 = 0
      · rw [her]
        unfold fltA
        rw [if_pos hc]
        exact grd_nil W
      · rw [her]
        unfold fltA flt
        rw [if_neg hc]
        exact grd_flt _ _ W
    have bb:(ob != ob) = false:=by cases ob <;> rfl
    replace hob:=Lib.hid hob
    replace hon:=Lib.hid hon
    replace hid:=Lib.hid hid
    replace hnd:=Lib.hid hnd
    go_wp2_with fail
    refine cO.out.mono ?_
    rintro e' w3 ⟨rfl,k3⟩
    replace ST:=Lib.hid (ST.out.keep C k3)
    have cC:=Lib.hid (C.change id 3 0 ST.out.o (hg0.out.keep (C.kp ST.out.o)) hid.out (by unfold I64;omega) (by unfold I64;omega) m100.out l100.out)
    rw [← her] at cC
    replace k3:=Lib.hid k3
    replace her:=Lib.hid her
    unfold PodV.val at cC
    clear cO
    go_wp2_with fail
    refine cC.out.mono ?_
    rintro e' w4 ⟨r,rfl,_,_,_,_,o4,_⟩
    obtain ⟨L2,hL2⟩:∃ L2,L2 = cgL L id 3 0:=⟨_,rfl⟩
    rw [← hL2] at o4
    have l2:Hid (L2.length≤100):=by show _≤_;rw [hL2,cgL_len];exact l100.out
    have ob2:Hid (ownB L2 id = false):=by show _ = _;rw [hL2];exact clr_own (C.ok ST.out.o).lok id
    have ok2:Hid (LOk L2):=(C.ok o4).lok
    obtain ⟨W5,hW5⟩:∃ W5,W5 = w4.alloc (.cells (podB r) 24):=⟨_,rfl⟩
    have o5:=Lib.hid (C.keep o4 (show Keep w4 W5 by rw [hW5];exact Keep.one _ _))
    have K5:Hid (Keep W0 W5):=C.kp o5.out
    replace o4:=Lib.hid o4
    replace hL2:=Lib.hid hL2
    have X0:=blk9 (Keep.block K5.out BP.out)
    have x0:=X0.e0;have x1:=X0.e1;have x2:=X0.e2;have x3:=X0.e3;have x4:=X0.e4;have x5:=X0.e5;have x6:=X0.e6;have x7:=X0.e7;have x8:=X0.e8
    clear X0 cC
    rw [hW5] at x0 x1 x2 x3 x4 x5 x6 x7 x8
    have cP:=Lib.hid (rpods_fn C o5.out p nd hnd.out l2.out)
    unfold podB at hW5 x0 x1 x2 x3 x4 x5 x6 x7 x8
    unfold PodV.val at cP
    go_wp2_with fail
    rw [← hW5]
    replace hW5:=Lib.hid hW5
    clear x0 x1 x2 x3 x4 x5 x6 x7 x8
    refine cP.out.mono ?_
    rintro e' w6 ⟨va,Sa,rfl,Ra,La,k6⟩
    obtain ⟨na,hna⟩:∃ na,na = (seesL p nd L2).length:=⟨_,rfl⟩
    rw [← hna] at Ra La
    have na100:Hid (na≤100):=by show _≤_;rw [hna];exact Nat.le_trans (List.length_filter_le _ _) l2.out
    obtain ⟨Aa,ca,rfl,Pa⟩:=Ra.rd (by have:=na100.out;omega)
    have o6:=Lib.hid (C.keep o5.out k6)
    clear cP Ra
    replace Pa:=Lib.hid Pa
    replace La:=Lib.hid La
    replace hna:=Lib.hid hna
    replace k6:=Lib.hid k6
    generalize hwo:w6 = wo at *
    clear hwo
    go_wp2
    go_loopg [18] na (fun gx s18 wr=>∃ j:Nat,j≤na∧gx = na - j∧s18 = .int .i64 j∧wr = wo)
    case atStart=>exact ⟨0,Nat.zero_le _,rfl,rfl,rfl⟩
    case round =>
      obtain ⟨j,hj,rfl,rfl,rfl⟩:=hrel
      have nk:=na100.out
      by_cases hlt:j < na
      · obtain ⟨ga,oa,hA,cva⟩:=Pa.out.adr (by omega)
        subst hA
        have q2:=pods_at ga oa na ca j hlt
        have xa:=(cva j hlt).e0
        clear cva
        have hno:=own_not ok2.out ob2.out La.out hlt
        obtain ⟨v,hv⟩:∃ v,v = (Sa j).k:=⟨_,rfl⟩
        rw [← hv] at xa hno
        replace hv:=Lib.hid hv
        have b1:(v == id) = false:=by simp [hno]
        replace hno:=Lib.hid hno
        go_wp2
        go_roundg (na - (j + 1))
        case measure=>omega
        case rel=>exact ⟨j + 1,hlt,rfl,by go_num,rfl⟩
      · have cE:=Lib.hid (rown_fn C o6.out id hid.out l2.out)
        rw [ob2.out] at cE
        go_wp2_with fail
        refine cE.out.mono ?_
        rintro e' w7 ⟨rfl,k7⟩
        have K7:Hid (Keep W0 w7):=C.kp (C.keep o6.out k7)
        replace k7:=Lib.hid k7
        go_wp2
        go_ret
        exact ⟨rfl,K0.out.trans K7.out⟩
end Go.Proofs.YtinndaolcaehiaaGreatDoor.T15

