/-
  The law's play: DropNode, where there is one. Conditions: errors.errorType holds its own; at most 100 nodes and pods; the dimension is at most 64.
-/
import Derived.Test.YtnclkefddkgojaaGreatDoorB18
namespace Go.Proofs.YtnclkefddkgojaaGreatDoor.T14
open Go.RowKit Go.Sort Go.Lib V12 T13
set_option maxRecDepth 100000 in
set_option maxHeartbeats 32000000 in
theorem play_dropy {CS:PredC} (C:Con CS) {w:World} {d q:Nat} {M:List NV} {L:List PodV} {X:Nat→Prop} {w1:World} {x:RcV} {Q:Nat→C14.NdC} {P:Nat→PodV} (h:St CS w d q M L X w1 x Q P) (hg:ErrT w) (hd:d≤64) (o:OpC) (ho:OcIs w o) (hmn:x.n≤100) (hmm:x.m≤100) (hk:o.kd = 1) (hin:o.nd ∈ nk M) :
    Calls Tryz.prog 11 #[.pointer (some ⟨q,0,none⟩),x.val,o.val] w1 (StPost CS w d q (opM d M o) (opP d M L o) X w1):=by
  have lM:=h.lenM
  have lL:=h.lenL
  have hM1:opM d M o = drM M o.nd:=by unfold opM;rw [hk];rfl
  have hL1:opP d M L o = drL L o.nd:=by unfold opP;rw [hk];rfl
  rw [hM1,hL1]
  clear hM1 hL1
  have hxd:=h.xd
  have B5:=blk5 w1 x o
  obtain ⟨kd,y,nd,ev,VA,vn,vc,V⟩:=o
  obtain ⟨xd,A,n,c,B,m,e⟩:=x
  simp only at hxd lM lL hmn hmm hin hk ⊢
  subst hxd
  subst hk
  obtain ⟨W0,hW0⟩:∃ W0,W0 = w1.alloc (.cells (⟨d,A,n,c,B,m,e⟩:RcV).arr 30):=⟨_,rfl⟩
  rw [← hW0] at B5
  obtain ⟨W1,hW1⟩:∃ W1,W1 = W0.alloc (.cells (⟨1,y,nd,ev,VA,vn,vc,V⟩:OpC).arr 37):=⟨_,rfl⟩
  rw [← hW1] at B5
  obtain ⟨W2,hW2⟩:∃ W2,W2 = W1.alloc (.cells zrc.arr 30):=⟨_,rfl⟩
  rw [← hW2] at B5
  obtain ⟨W3,hW3⟩:∃ W3,W3 = W2.alloc (.cells (podB zpod) 35):=⟨_,rfl⟩
  rw [← hW3] at B5
  obtain ⟨W,hW⟩:∃ W,W = W3.alloc (.cells (⟨d,A,n,c,B,m,e⟩:RcV).arr 30):=⟨_,rfl⟩
  rw [← hW] at B5
  obtain ⟨b4,hb4⟩:∃ b4,b4 = w1.heap.size:=⟨_,rfl⟩
  obtain ⟨b5,hb5⟩:∃ b5,b5 = w1.heap.size + 1:=⟨_,rfl⟩
  obtain ⟨b6,hb6⟩:∃ b6,b6 = w1.heap.size + 1 + 1:=⟨_,rfl⟩
  obtain ⟨b8,hb8⟩:∃ b8,b8 = w1.heap.size + 1 + 1 + 1:=⟨_,rfl⟩
  obtain ⟨b10,hb10⟩:∃ b10,b10 = w1.heap.size + 1 + 1 + 1 + 1:=⟨_,rfl⟩
  have KW:Hid (Keep w1 W):=B5.k
  have sW:Hid (W.heap.size = b4 + 5):=by show _ = _;rw [B5.s,hb4]
  have A4:Hid (W.heap[b4]? = some (.cells (⟨d,A,n,c,B,m,e⟩:RcV).arr 30 (0,0))):=by show _ = _;rw [hb4];exact B5.b4
  have A5:Hid (W.heap[b5]? = some (.cells (⟨1,y,nd,ev,VA,vn,vc,V⟩:OpC).arr 37 (0,0))):=by show _ = _;rw [hb5];exact B5.b5
  have A6:Hid (W.heap[b6]? = some (.cells zrc.arr 30 (0,0))):=by show _ = _;rw [hb6];exact B5.b6
  have A8:Hid (W.heap[b8]? = some (.cells (podB zpod) 35 (0,0))):=by show _ = _;rw [hb8];exact B5.b8
  have A10:Hid (W.heap[b10]? = some (.cells (⟨d,A,n,c,B,m,e⟩:RcV).arr 30 (0,0))):=by show _ = _;rw [hb10];exact B5.b10
  have kw:Hid (Keep w w1):=C.kp h.o
  have KwW:Hid (Keep w W):=kw.out.trans KW.out
  have xlt:Hid (∀ i,X i→i < b4):=fun i hi=>by rw [hb4];exact C.lt h.o i hi
  have wlt:Hid (w.heap.size≤b4):=by show _≤_;rw [hb4];exact kw.out.size
  have bs:Hid (b5 = b4 + 1∧b6 = b4 + 2∧b8 = b4 + 3∧b10 = b4 + 4):=by rw [hb4,hb5,hb6,hb8,hb10];exact ⟨rfl,rfl,rfl,rfl⟩
  have hok:=Lib.hid (C.ok h.o)
  have hem:=Lib.hid h.em
  have hdn:=Lib.hid h.dn
  have hel:=Lib.hid h.el
  have hrn:=Lib.hid h.rn
  have hrl:=Lib.hid h.rl
  simp only at hem hdn hel hrn hrl
  have hnd:I64 nd:=ho.n
  have CW:CS w d q M L (fun i=>X i∨(b4≤i∧i < b4 + 5)) W:=C.more h.o KW.out (fun i hi=>by rw [sW.out];omega)
  have cP:=Lib.hid (C.dropNode nd CW (hg.keep KwW.out) hnd (by omega) (by omega))
  clear h ho B5
  have O5:=cel13_of A5.out
  have O5h:=Lib.hid O5
  obtain ⟨x0,x1,x2,xf⟩:=rc_cells A4.out
  have yk:=O5.k
  have yn:=O5.n
  clear O5
  replace hnd:=Lib.hid hnd
  replace CW:=Lib.hid CW
  replace lM:=Lib.hid lM
  replace hin:=Lib.hid hin
  replace lL:=Lib.hid lL
  replace hd:=Lib.hid hd
  unfold RcV.arr at hW0 hW
  unfold OpC.arr at hW1
  unfold zrc RcV.arr at hW2
  unfold podB zpod at hW3
  unfold OpC.val RcV.val at *
  simp only at *
  go_enter Tryz.func11,Tryz.ntmps11
  go_wp2_with fail
  rw [← hW0,← hW1,← hW2,← hW3,← hW,← hb10,← hb8,← hb6,← hb5,← hb4]
  replace hW0:=Lib.hid hW0
  replace hW1:=Lib.hid hW1
  replace hW2:=Lib.hid hW2
  replace hW3:=Lib.hid hW3
  replace hW:=Lib.hid hW
  replace hb10:=Lib.hid hb10
  replace hb8:=Lib.hid hb8
  replace hb6:=Lib.hid hb6
  replace hb5:=Lib.hid hb5
  replace hb4:=Lib.hid hb4
  refine cP.out.mono ?_
  rintro e' w2 ⟨hye,_⟩
  obtain ⟨v,S,rfl,RP,SL,CS2,S2⟩:=hye hin.out
  clear hye x0 x1 x2 xf yk yn cP
  obtain ⟨k,hk⟩:∃ k,k = (drO L nd).length:=⟨_,rfl⟩
  rw [← hk] at RP SL
  have hk100:k≤100:=by rw [hk,drO_len];have:=List.length_filter_le (onB nd) L;have:=lL.out;omega
  obtain ⟨LA,lc,rfl,RD2⟩:=RP.rd (by omega)
  have RD2:=Lib.hid RD2
  have SL:=Lib.hid SL
  replace hk:=Lib.hid hk
  replace RP:=Lib.hid RP
  have KwB:Hid (Keep w w2):=C.kp CS2
  have CS2:=Lib.hid CS2
  have S2:=Lib.hid S2
  have D5:Hid (w2.heap[b5]? = some (.cells (⟨1,y,nd,ev,VA,vn,vc,V⟩:OpC).arr 37 (0,0))):=(S2.out b5 (Or.inr (by have:=bs.out;omega))).trans A5.out
  have D4:Hid (w2.heap[b4]? = some (.cells (⟨d,A,n,c,B,m,e⟩:RcV).arr 30 (0,0))):=(S2.out b4 (Or.inr (by omega))).trans A4.out
  have D6:Hid (w2.heap[b6]? = some (.cells zrc.arr 30 (0,0))):=(S2.out b6 (Or.inr (by have:=bs.out;omega))).trans A6.out
  have sx2:Hid (SameX X w1 w2):=fun i hi=>by
    have hi4:=xlt.out i hi
    rw [S2.out i (Or.inl hi)]
    exact keep_at KW.out (by have:=hb4.out;omega)
  have RN2:Hid (C14.RN w X w2 A c n Q):=hrn.out.same sx2.out
  have RL2:Hid (RL w X w2 B e m P):=hrl.out.same KwB.out sx2.out
  have lt2:Hid (∀ i,X i→i < w2.heap.size):=fun i hi=>C.lt CS2.out i (Or.inl hi)
  have cF:Hid (Calls Tryz.prog 37 #[(⟨d,A,n,c,B,m,e⟩:RcV).val,.int .i64 nd] w2 fun e' w'=>e' = .returned (.int .i64 (C14.findN Q nd n))∧Keep w2 w'):=(rfindN_fn (⟨d,A,n,c,B,m,e⟩:RcV) Q nd w2 RN2.out.rd).mono fun _ _ ⟨he,e2⟩=>⟨he,by rw [e2];exact Keep.one _ _⟩
  obtain ⟨x0,x1,x2,xf⟩:=rc_cells D4.out
  simp only at x0 x1 x2
  have yn:=(cel13_of D5.out).n
  unfold RcV.val at cF
  simp only at cF
  obtain ⟨r,hr⟩:∃ r,r = C14.findN Q nd n:=⟨_,rfl⟩
  have hr0:decide (r < 0) = false:=decide_eq_false (by obtain ⟨j,_,hj,_⟩:=node_at hem.out hok.out.srt hin.out;rw [hr,hj];omega)
  rw [← hr] at cF
  replace hr:=Lib.hid hr
  go_wp2_with fail
  refine cF.out.mono ?_
  rintro e' w3 ⟨rfl,k3⟩
  have K3:=Lib.hid k3
  have CS3:Hid (CS w d q (drM M nd) (drL L nd) (fun i=>X i∨(b4≤i∧i < b4 + 5)) w3):=C.keep CS2.out k3
  have Kw3:Hid (Keep w w3):=KwB.out.trans k3
  have cR:=Lib.hid (rc_drop d A n c B m e (RL2.out.keep k3) hel.out hok.out.lok (RN2.out.keep k3) hem.out hdn.out nd hnd.out Kw3.out (fun i hi=>by have:=lt2.out i hi;have:=k3.size;omega) (by omega) (by omega))
  unfold RcV.val DrPost RcV.val at cR
  simp only at cR
  clear x0 x1 x2 xf yn
  obtain ⟨x0,x1,x2,xf⟩:=rc_cells (K3.out.block D4.out)
  simp only at x0 x1 x2
  have yn:=(cel13_of (K3.out.block D5.out)).n
  replace k3:=Lib.hid k3
  go_wp2_with fail
  refine cR.out.mono ?_
  rintro e' w4 ⟨A',c',n',Q',B',e2,m',P',O,ko,co,SO,rfl,k4,RN4,em4,dn4,RL4,el4,RO,SOL,hko⟩
  obtain rfl:ko = k:=by have:=hk.out;omega
  have K4:=Lib.hid k4
  have K24:Hid (Keep w2 w4):=K3.out.trans k4
  have CS4:Hid (CS w d q (drM M nd) (drL L nd) (fun i=>(X i∨(b4≤i∧i < b4 + 5))∨(w3.heap.size≤i∧i < w4.heap.size)) w4):=C.more CS3.out k4 fun i hi=>hi
  have sz23:Hid (w2.heap.size≤w3.heap.size):=K3.out.size
  have b6lt:Hid (b4 + 5≤w2.heap.size):=by show _≤_;have h1:=C.lt CS2.out (b4 + 4) (Or.inr (by omega));omega
  have fin:Hid (∀ w8,Keep w4 w8→StPost CS w d q (drM M nd) (drL L nd) X w1 (.returned (.tuple #[(⟨d,A',n',c',B',m',e2⟩:RcV).val,.bool true])) (put3 w8 b6 ⟨d,A',n',c',B',m',e2⟩)∧(put3 w8 b6 ⟨d,A',n',c',B',m',e2⟩).heap[b6]? = some (.cells (⟨d,A',n',c',B',m',e2⟩:RcV).arr 30 (0,0))):=fun w8 k8=>by
    have CS8:=C.keep CS4.out k8
    have P9:∀ k,k≠b6→(put3 w8 b6 ⟨d,A',n',c',B',m',e2⟩).heap[k]? = w8.heap[k]?:=fun k hk=>put3_block _ hk
    have b6x:=bs.out
    have Kw9:Keep w (put3 w8 b6 ⟨d,A',n',c',B',m',e2⟩):=put3_keep _ (C.kp CS8) (by have:=wlt.out;omega)
    have fr:∀ i,(X i∨(w3.heap.size≤i∧i < w4.heap.size))→i≠b6:=fun i hi=>by
      have:=b6lt.out
      have:=sz23.out
      rcases hi with hi | hi
      · have:=xlt.out i hi
        omega
      · omega
    refine ⟨⟨_,Q',P',_,rfl,⟨C.write CS8 Kw9 (by rw [put3_size];exact Nat.le_refl _) (fun k _ hk=>P9 k fun e=>hk (Or.inl (Or.inr (by omega)))),rfl,?_,em4,dn4,?_,el4⟩,fun i hi=>Or.inl (Or.inl hi),fun i hi=>?_⟩,put3_heap _ zrc (k8.block (K24.out.block D6.out))⟩
    · exact ((RN4.keep k8).same fun i hi=>P9 i (fr i hi)).less fun i hi=>hi.imp Or.inl fun hi=>hi
    · exact ((RL4.keep k8).same Kw9 fun i hi=>P9 i (fr i hi)).less fun i hi=>hi.imp Or.inl fun hi=>hi
    · have hi4:=xlt.out i hi
      rw [P9 i (by omega),keep_at k8 (C.lt CS4.out i (Or.inl (Or.inl hi))),keep_at K24.out (lt2.out i hi)]
      exact sx2.out i hi
  obtain ⟨b15,hb15⟩:∃ b15,b15 = w4.heap.size:=⟨_,rfl⟩
  obtain ⟨w5,hw5⟩:∃ w5,w5 = w4.alloc (.cells (⟨d,A',n',c',B',m',e2⟩:RcV).arr 30):=⟨_,rfl⟩
  have K45:Hid (Keep w4 w5):=by rw [hw5];exact Keep.one _ _
  have A15:Hid (w5.heap[b15]? = some (.cells (⟨d,A',n',c',B',m',e2⟩:RcV).arr 30 (0,0))):=by rw [hw5,hb15];exact heap_alloc_new _ _
  have b15x:Hid (b15≠b6):=by show _≠_;have:=b6lt.out;have:=sz23.out;have:=K4.out.size;have:=bs.out;omega
  have cY:Hid (∀ W,Keep w5 W→Calls Tryz.prog 39 #[.slice LA ko lc,.slice O ko co] W fun e w'=>e = .returned (.bool true)∧Keep W w'):=fun W kk=>rsame6_fn LA O ko lc co S SO W (RD2.out.keep ((K24.out.trans K45.out).trans kk)) (RO.keep (K45.out.trans kk)) (same_of14 (SL.out.trans SOL.symm))
  replace k4:=Lib.hid k4
  replace RN4:=Lib.hid RN4
  replace em4:=Lib.hid em4
  replace dn4:=Lib.hid dn4
  replace RL4:=Lib.hid RL4
  replace el4:=Lib.hid el4
  replace RO:=Lib.hid RO
  replace SOL:=Lib.hid SOL
  replace hko:=Lib.hid hko
  unfold RcV.arr at hw5
  simp only at hw5
  clear x0 x1 x2 xf yn cR cF
  go_upto_region 17 with fail
  rw [← hw5]
  try rw [← hb15]
  replace hw5:=Lib.hid hw5
  replace hb15:=Lib.hid hb15
  obtain ⟨x0,x1,x2,xf⟩:=rc_cells A15.out
  simp only at x0 x1 x2
  unfold RcV.val at fin
  simp only at fin
  have HELD:∀ Wz,Keep w5 Wz→(Wz.cell? ⟨b15,0,none⟩ = some (.int .i64 d)∧Wz.cell? ⟨b15,1,none⟩ = some (.slice A' n' c')∧Wz.cell? ⟨b15,2,none⟩ = some (.slice B' m' e2)):=fun Wz KK=>⟨KK.cell x0,KK.cell x1,KK.cell x2⟩
  refine wp_region_held_drew (S:=fun w'=>w'.cell? ⟨b15,0,none⟩ = some (.int .i64 d)∧w'.cell? ⟨b15,1,none⟩ = some (.slice A' n' c')∧w'.cell? ⟨b15,2,none⟩ = some (.slice B' m' e2)) (by kernel_rfl) ?_ (fun hHeld=>?_)
  · exact HELD _ (by repeat (with_reducible first | exact Keep.refl w5 | apply Keep.alloc | apply Keep.drew | apply Keep.drewN))
  refine wpAnyH_take (i:=0) (v:=.agg #[.int .i64 d,.slice A' n' c',.slice B' m' e2]) rfl (by kernel_rfl) (by kernel_rfl) (by kernel_rfl) (fun _ _ _ h=>h) (Or.inl ⟨by rfl,fun Wz hW=>by obtain ⟨a0,a1,a2⟩:=hW;go_simp⟩) hHeld ?_
  simp only [Act.put,List.getElem_toArray,List.getElem_cons_zero,List.setIfInBounds_toArray,List.set_cons_zero,List.set_cons_succ]
  refine wpAnyH_take (i:=1) (v:=.nilIface) rfl (by kernel_rfl) (by kernel_rfl) (by kernel_rfl) (fun _ _ _ h=>h) (Or.inl ⟨by rfl,fun Wz hW=>by obtain ⟨a0,a1,a2⟩:=hW;go_simp⟩) hHeld ?_
  simp only [Act.put,List.getElem_toArray,List.getElem_cons_succ,List.getElem_cons_zero,List.setIfInBounds_toArray,List.set_cons_zero,List.set_cons_succ]
  refine wpAnyH_take (i:=2) (v:=.bool true) rfl (by kernel_rfl) (by kernel_rfl) (by kernel_rfl) (fun _ _ _ h=>h) (Or.inl ⟨by rfl,fun Wz hW=>by obtain ⟨a0,a1,a2⟩:=hW;go_simp⟩) hHeld ?_
  simp only [Act.put,List.getElem_toArray,List.getElem_cons_succ,List.getElem_cons_zero,List.setIfInBounds_toArray,List.set_cons_zero,List.set_cons_succ]
  refine wpAnyH_take (i:=3) (v:=.bool true) rfl (by kernel_rfl) (by kernel_rfl) (by kernel_rfl) (fun _ _ _ h=>h) (Or.inl ⟨by rfl,fun Wz hW=>by obtain ⟨a0,a1,a2⟩:=hW;go_simp⟩) hHeld ?_
  simp only [Act.put,List.getElem_toArray,List.getElem_cons_succ,List.getElem_cons_zero,List.setIfInBounds_toArray,List.set_cons_zero,List.set_cons_succ]
  refine wpAnyH_take (i:=4) (v:=.slice LA ko lc) rfl (by kernel_rfl) (by kernel_rfl) (by kernel_rfl) (fun _ _ _ h=>h) (Or.inl ⟨by rfl,fun Wz hW=>by obtain ⟨a0,a1,a2⟩:=hW;go_simp⟩) hHeld ?_
  simp only [Act.put,List.getElem_toArray,List.getElem_cons_succ,List.getElem_cons_zero,List.setIfInBounds_toArray,List.set_cons_zero,List.set_cons_succ]
  refine wpAnyH_take (i:=5) (v:=.slice O ko co) rfl (by kernel_rfl) (by kernel_rfl) (by kernel_rfl) (fun _ _ _ h=>h) (Or.inl ⟨by rfl,fun Wz hW=>by obtain ⟨a0,a1,a2⟩:=hW;go_simp⟩) hHeld ?_
  simp only [Act.put,List.getElem_toArray,List.getElem_cons_succ,List.getElem_cons_zero,List.setIfInBounds_toArray,List.set_cons_zero,List.set_cons_succ]
  refine wpAnyH_ready (rs:=[6]) (by kernel_rfl) (by simp) ?_
  refine AllReadyH.cons rfl (fun K hK=>?_) AllReadyH.nil
  simp only [List.getElem_toArray,List.getElem_cons_succ,List.getElem_cons_zero]
  rw [if_pos (by rfl)]
  go_simp
  refine (cY.out _ (by repeat (with_reducible first | exact Keep.refl w5 | apply Keep.alloc | apply Keep.drew | apply Keep.drewN))).mono ?_
  rintro e' w8 ⟨rfl,k8⟩
  have K58:Hid (Keep w5 w8):=((Keep.refl _).drew:Keep w5 _).trans k8
  replace k8:=Lib.hid k8
  go_wp2_with fail
  refine hK.out _ _ ?_ (fun hHeld=>?_)
  · exact HELD _ K58.out
  clear hK K
  try simp only [Act.put,List.getElem_toArray,List.getElem_cons_succ,List.getElem_cons_zero,List.setIfInBounds_toArray,List.set_cons_zero,List.set_cons_succ]
  refine wpAnyH_take (i:=7) (v:=.bool true) rfl (by kernel_rfl) (by kernel_rfl) (by kernel_rfl) (fun _ _ _ h=>h) (Or.inl ⟨by rfl,fun Wz hW=>by obtain ⟨a0,a1,a2⟩:=hW;go_simp⟩) hHeld ?_
  simp only [Act.put,List.getElem_toArray,List.getElem_cons_succ,List.getElem_cons_zero,List.setIfInBounds_toArray,List.set_cons_zero,List.set_cons_succ]
  refine wpAnyH_ready (rs:=[8]) (by kernel_rfl) (by simp) ?_
  refine AllReadyH.cons rfl (fun K hK=>?_) AllReadyH.nil
  simp only [List.getElem_toArray,List.getElem_cons_succ,List.getElem_cons_zero]
  rw [if_pos (by rfl)]
  obtain ⟨t0,t1,t2,tf⟩:=rc_cells ((K45.out.trans K58.out).block (K24.out.block D6.out))
  unfold zrc at t0 t1 t2
  simp only at t0 t1 t2
  go_simp
  refine hK.out _ _ ?_ (fun hHeld=>?_)
  · exact (by obtain ⟨a0,a1,a2⟩:=HELD _ K58.out;have P9:∀ k,k≠b6→(put3 w8 b6 ⟨d,A',n',c',B',m',e2⟩).heap[k]? = w8.heap[k]?:=fun k hk=>put3_block _ hk;have q4:=P9 b15 b15x.out;simp only [put3] at q4;exact ⟨cell_same a0 q4,cell_same a1 q4,cell_same a2 q4⟩)
  clear hK K
  try simp only [Act.put,List.getElem_toArray,List.getElem_cons_succ,List.getElem_cons_zero,List.setIfInBounds_toArray,List.set_cons_zero,List.set_cons_succ]
  refine wpAnyH_take (i:=9) (v:=.bool true) rfl (by kernel_rfl) (by kernel_rfl) (by kernel_rfl) (fun _ _ _ h=>h) (Or.inl ⟨by rfl,fun Wz hW=>by obtain ⟨a0,a1,a2⟩:=hW;go_simp⟩) hHeld ?_
  simp only [Act.put,List.getElem_toArray,List.getElem_cons_succ,List.getElem_cons_zero,List.setIfInBounds_toArray,List.set_cons_zero,List.set_cons_succ]
  refine wpAnyH_done (by kernel_rfl) ?_ _
  go_wp2_with fail
  obtain ⟨F1,F2⟩:=fin.out w8 (K45.out.trans K58.out)
  obtain ⟨e0,e1,e2',_⟩:=rc_cells F2
  simp only [put3] at *
  refine bodyPost_ret (v:=.tuple #[.agg #[.int .i64 d,.slice A' n' c',.slice B' m' e2],.bool true]) (by simp [results,Tryz.results11,go_sem,e0,e1,e2']) rfl F1
end Go.Proofs.YtnclkefddkgojaaGreatDoor.T14

