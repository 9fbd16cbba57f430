/-
  The law's play: AddNode. Conditions: errors.errorType holds its own; at most 100 nodes and pods; the dimension is at most 64.
  The law's play: DropNode, where there is no such node. Conditions: errors.errorType holds its own; at most 100 nodes and pods; the dimension is at most 64.
-/
import Derived.Test.YtnclkefddkgojaaGreatDoorB18
namespace Go.Proofs.YtnclkefddkgojaaGreatDoor.T14
open Go.RowKit Go.Sort Go.Lib V12 T13
set_option maxRecDepth 100000 in
set_option maxHeartbeats 32000000 in
theorem play_add {CS:PredC} (C:Con CS) {w:World} {d q:Nat} {M:List NV} {L:List PodV} {X:Nat→Prop} {w1:World} {x:RcV} {Q:Nat→C14.NdC} {P:Nat→PodV} (h:St CS w d q M L X w1 x Q P) (hg:ErrT w) (hd:d≤64) (o:OpC) (ho:OcIs w o) (hf:FewK o) (hmn:x.n≤100) (hmm:x.m≤100) (hk:o.kd = 0) :
    Calls Tryz.prog 11 #[.pointer (some ⟨q,0,none⟩),x.val,o.val] w1 (StPost CS w d q (opM d M o) (opP d M L o) X w1):=by
  have lM:=h.lenM
  have lL:=h.lenL
  have hM1:opM d M o = adL M d o.nd o.n o.V:=by unfold opM;rw [hk];rfl
  have hL1:opP d M L o = L:=by unfold opP;rw [hk];rfl
  rw [hM1,hL1]
  clear hM1 hL1
  have hm20:o.n≤20:=hf.2
  have hxd:=h.xd
  have B5:=blk5 w1 x o
  obtain ⟨kd,y,nd,ev,VA,vn,vc,V⟩:=o
  obtain ⟨xd,A,n,c,B,m,e⟩:=x
  simp only at hxd lM lL hmn hmm hm20 hk ⊢
  subst hxd
  subst hk
  obtain ⟨W0,hW0⟩:∃ W0,W0 = w1.alloc (.cells (⟨d,A,n,c,B,m,e⟩:RcV).arr 30):=⟨_,rfl⟩
  rw [← hW0] at B5
  obtain ⟨W1,hW1⟩:∃ W1,W1 = W0.alloc (.cells (⟨0,y,nd,ev,VA,vn,vc,V⟩:OpC).arr 37):=⟨_,rfl⟩
  rw [← hW1] at B5
  obtain ⟨W2,hW2⟩:∃ W2,W2 = W1.alloc (.cells zrc.arr 30):=⟨_,rfl⟩
  rw [← hW2] at B5
  obtain ⟨W3,hW3⟩:∃ W3,W3 = W2.alloc (.cells (podB zpod) 35):=⟨_,rfl⟩
  rw [← hW3] at B5
  obtain ⟨W,hW⟩:∃ W,W = W3.alloc (.cells (⟨d,A,n,c,B,m,e⟩:RcV).arr 30):=⟨_,rfl⟩
  rw [← hW] at B5
  obtain ⟨b4,hb4⟩:∃ b4,b4 = w1.heap.size:=⟨_,rfl⟩
  obtain ⟨b5,hb5⟩:∃ b5,b5 = w1.heap.size + 1:=⟨_,rfl⟩
  obtain ⟨b6,hb6⟩:∃ b6,b6 = w1.heap.size + 1 + 1:=⟨_,rfl⟩
  obtain ⟨b8,hb8⟩:∃ b8,b8 = w1.heap.size + 1 + 1 + 1:=⟨_,rfl⟩
  obtain ⟨b10,hb10⟩:∃ b10,b10 = w1.heap.size + 1 + 1 + 1 + 1:=⟨_,rfl⟩
  have KW:Hid (Keep w1 W):=B5.k
  have sW:Hid (W.heap.size = b4 + 5):=by show _ = _;rw [B5.s,hb4]
  have A4:Hid (W.heap[b4]? = some (.cells (⟨d,A,n,c,B,m,e⟩:RcV).arr 30 (0,0))):=by show _ = _;rw [hb4];exact B5.b4
  have A5:Hid (W.heap[b5]? = some (.cells (⟨0,y,nd,ev,VA,vn,vc,V⟩:OpC).arr 37 (0,0))):=by show _ = _;rw [hb5];exact B5.b5
  have A6:Hid (W.heap[b6]? = some (.cells zrc.arr 30 (0,0))):=by show _ = _;rw [hb6];exact B5.b6
  have A8:Hid (W.heap[b8]? = some (.cells (podB zpod) 35 (0,0))):=by show _ = _;rw [hb8];exact B5.b8
  have A10:Hid (W.heap[b10]? = some (.cells (⟨d,A,n,c,B,m,e⟩:RcV).arr 30 (0,0))):=by show _ = _;rw [hb10];exact B5.b10
  have kw:Hid (Keep w w1):=C.kp h.o
  have KwW:Hid (Keep w W):=kw.out.trans KW.out
  have xlt:Hid (∀ i,X i→i < b4):=fun i hi=>by rw [hb4];exact C.lt h.o i hi
  have wlt:Hid (w.heap.size≤b4):=by show _≤_;rw [hb4];exact kw.out.size
  have bs:Hid (b5 = b4 + 1∧b6 = b4 + 2∧b8 = b4 + 3∧b10 = b4 + 4):=by rw [hb4,hb5,hb6,hb8,hb10];exact ⟨rfl,rfl,rfl,rfl⟩
  have hok:=Lib.hid (C.ok h.o)
  have hem:=Lib.hid h.em
  have hdn:=Lib.hid h.dn
  have hel:=Lib.hid h.el
  have hrn:=Lib.hid h.rn
  have hrl:=Lib.hid h.rl
  simp only at hem hdn hel hrn hrl
  have hnd:I64 nd:=ho.n
  have CW:CS w d q M L (fun i=>X i∨(b4≤i∧i < b4 + 5)) W:=C.more h.o KW.out (fun i hi=>by rw [sW.out];omega)
  have hv:Rd w VA vn V:=ho.v
  have hvn:VA = none→vn = 0∧vc = 0:=ho.nil
  have RN0:C14.RN w X W A c n Q:=hrn.out.keep KW.out
  have cP:=Lib.hid (C14.rc_add d A n c B m e RN0 hem.out hok.out.srt nd VA vn vc V (hv.keep (Keep.refl w)) hvn hnd KwW.out (by omega))
  clear h ho hf B5
  obtain ⟨cd,hcd⟩:∃ cd,cd = adC M d nd vn V:=⟨_,rfl⟩
  obtain ⟨ix,hix⟩:∃ ix,ix = wrI d vn V:=⟨_,rfl⟩
  obtain ⟨M2,hM2⟩:∃ M2,M2 = adL M d nd vn V:=⟨_,rfl⟩
  rw [← hcd,← hix,← hM2] at cP
  rw [← hM2]
  have O5:=cel13_of A5.out
  have O5h:=Lib.hid O5
  obtain ⟨x0,x1,x2,xf⟩:=rc_cells A4.out
  have yk:=O5.k
  have yn:=O5.n;have yv:=O5.v
  clear O5
  replace hcd:=Lib.hid hcd
  replace hix:=Lib.hid hix
  replace hM2:=Lib.hid hM2
  replace hv:=Lib.hid hv
  replace hvn:=Lib.hid hvn
  replace RN0:=Lib.hid RN0
  replace hnd:=Lib.hid hnd
  replace CW:=Lib.hid CW
  replace lM:=Lib.hid lM
  replace lL:=Lib.hid lL
  replace hd:=Lib.hid hd
  replace hm20:=Lib.hid hm20
  unfold RcV.arr at hW0 hW
  unfold OpC.arr at hW1
  unfold zrc RcV.arr at hW2
  unfold podB zpod at hW3
  unfold OpC.val RcV.val at *
  simp only at *
  go_enter Tryz.func11,Tryz.ntmps11
  go_wp2_with fail
  rw [← hW0,← hW1,← hW2,← hW3,← hW,← hb10,← hb8,← hb6,← hb5,← hb4]
  replace hW0:=Lib.hid hW0
  replace hW1:=Lib.hid hW1
  replace hW2:=Lib.hid hW2
  replace hW3:=Lib.hid hW3
  replace hW:=Lib.hid hW
  replace hb10:=Lib.hid hb10
  replace hb8:=Lib.hid hb8
  replace hb6:=Lib.hid hb6
  replace hb5:=Lib.hid hb5
  replace hb4:=Lib.hid hb4
  refine cP.out.mono ?_
  rintro e' w2 ⟨A',c',n',Q',rfl,k2,RN2,em2,dn2⟩
  obtain ⟨w3,hw3⟩:∃ w3,w3 = put3 w2 b10 ⟨d,A',n',c',B,m,e⟩:=⟨_,rfl⟩
  have P3:=put3_x hw3
  have s3:Hid (w3.heap.size = w2.heap.size):=by rw [hw3];exact put3_size _ _ _
  have F10:w2.heap[b10]? = some (.cells (⟨d,A,n,c,B,m,e⟩:RcV).arr 30 (0,0)):=k2.block A10.out
  have Kw3:Hid (Keep w w3):=by rw [hw3];exact put3_keep _ (KwW.out.trans k2) (by have:=wlt.out;have:=bs.out;omega)
  have G10:Hid (w3.heap[b10]? = some (.cells (⟨d,A',n',c',B,m,e⟩:RcV).arr 30 (0,0))):=by rw [hw3];exact put3_heap _ _ F10
  have G5:Hid (w3.heap[b5]? = some (.cells (⟨0,y,nd,ev,VA,vn,vc,V⟩:OpC).arr 37 (0,0))):=(P3 b5 (by have:=bs.out;omega)).trans (k2.block A5.out)
  have G6:Hid (w3.heap[b6]? = some (.cells zrc.arr 30 (0,0))):=(P3 b6 (by have:=bs.out;omega)).trans (k2.block A6.out)
  have sz2:Hid (W.heap.size≤w2.heap.size):=k2.size
  have CS3:Hid (CS w d q M L (fun i=>(X i∨(b4≤i∧i < b4 + 5))∨(W.heap.size≤i∧i < w2.heap.size)) w3):=C.write (C.more CW.out k2 fun i hi=>hi) Kw3.out (by rw [s3.out];exact Nat.le_refl _) (fun k _ hk=>P3 k fun e=>hk (Or.inl (Or.inr (by have:=bs.out;omega))))
  have RN3:Hid (C14.RN w (fun i=>X i∨(W.heap.size≤i∧i < w2.heap.size)) w3 A' c' n' Q'):=RN2.same fun i hi=>P3 i (by
    rcases hi with hi | hi
    · have:=xlt.out i hi
      have:=bs.out
      omega
    · have:=sW.out
      have:=bs.out
      omega)
  have sx3:Hid (SameX X w1 w3):=fun i hi=>by
    have hi4:=xlt.out i hi
    rw [P3 i (by have:=bs.out;omega)]
    exact ((keep_at k2 (by have:=sW.out;omega)).trans (keep_at KW.out (by have:=hb4.out;omega)))
  have RL3:Hid (RL w X w3 B e m P):=hrl.out.same Kw3.out sx3.out
  have lt3:Hid (∀ i,(((X i∨(b4≤i∧i < b4 + 5))∨(W.heap.size≤i∧i < w2.heap.size))→i < w3.heap.size)):=fun i hi=>by
    have:=s3.out
    have:=sz2.out
    have:=sW.out
    rcases hi with (hi | hi) | hi
    · have:=xlt.out i hi
      omega
    · omega
    · omega
  have cB:Hid (∀ Wz,Keep w3 Wz→Calls Tryz.prog 26 #[.pointer (some ⟨q,0,none⟩),.agg #[.int .i64 nd,.slice VA vn vc]] Wz fun e' w'=>e' = .returned (fltA cd ix)∧CS w d q M2 L (fun i=>(X i∨(b4≤i∧i < b4 + 5))∨(W.heap.size≤i∧i < w2.heap.size)) w'∧SameX (fun i=>(X i∨(b4≤i∧i < b4 + 5))∨(W.heap.size≤i∧i < w2.heap.size)) w3 w'):=fun Wz k=>by
    have:=C.addNode nd VA vn vc V (C.keep CS3.out k) (hg.keep (Kw3.out.trans k)) (hv.out.keep (Kw3.out.trans k)) hvn.out hnd.out (by have:=hm20.out;omega) (by have:=lM.out;omega)
    rw [← hcd.out,← hix.out,← hM2.out] at this
    refine this.mono ?_
    rintro e' w' ⟨h1,h2,h3⟩
    exact ⟨h1,h2,fun i hi=>(h3 i hi).trans (keep_at k (lt3.out i hi))⟩
  have cT:Hid (∀ W,Keep w W→Calls Tryz.prog 24 #[fltA cd ix,.int .i64 cd,.int .i64 ix] W fun e w'=>e = .returned (.bool true)∧Keep W w'):=fun W k=>told_yes cd ix W (hg.keep k)
  obtain ⟨x0,x1,x2,xf⟩:=rc_cells F10
  simp only at x0 x1 x2
  unfold put3 at hw3
  simp only at hw3
  have fin:Hid (∀ w4 w8,CS w d q M2 L (fun i=>(X i∨(b4≤i∧i < b4 + 5))∨(W.heap.size≤i∧i < w2.heap.size)) w4→SameX (fun i=>(X i∨(b4≤i∧i < b4 + 5))∨(W.heap.size≤i∧i < w2.heap.size)) w3 w4→Keep w4 w8→StPost CS w d q M2 L X w1 (.returned (.tuple #[(⟨d,A',n',c',B,m,e⟩:RcV).val,.bool true])) (put3 w8 b6 ⟨d,A',n',c',B,m,e⟩)∧(put3 w8 b6 ⟨d,A',n',c',B,m,e⟩).heap[b6]? = some (.cells (⟨d,A',n',c',B,m,e⟩:RcV).arr 30 (0,0))):=fun w4 w8 CS4 S4 k8=>by
    have CS8:=C.keep CS4 k8
    have P9:∀ k,k≠b6→(put3 w8 b6 ⟨d,A',n',c',B,m,e⟩).heap[k]? = w8.heap[k]?:=fun k hk=>put3_block _ hk
    have b6x:=bs.out
    have sWx:=sW.out
    have Kw9:Keep w (put3 w8 b6 ⟨d,A',n',c',B,m,e⟩):=put3_keep _ (C.kp CS8) (by have:=wlt.out;omega)
    refine ⟨⟨_,Q',P,_,rfl,⟨C.write CS8 Kw9 (by rw [put3_size];exact Nat.le_refl _) (fun k _ hk=>P9 k fun e=>hk (Or.inl (Or.inr (by omega)))),rfl,?_,em2,dn2 hdn.out,?_,hel.out⟩,fun i hi=>Or.inl (Or.inl hi),fun i hi=>?_⟩,put3_heap _ zrc (k8.block ((S4 b6 (Or.inl (Or.inr (by omega)))).trans G6.out))⟩
    · exact (((RN3.out.same fun i hi=>S4 i (hi.imp Or.inl fun hi=>hi)).keep k8).same fun i hi=>P9 i (by
        rcases hi with hi | hi
        · have:=xlt.out i hi
          omega
        · omega)).less fun i hi=>hi.imp Or.inl fun hi=>hi
    · exact (((RL3.out.same (C.kp CS4) fun i hi=>S4 i (Or.inl (Or.inl hi))).keep k8).same Kw9 fun i hi=>P9 i (by have:=xlt.out i hi;omega)).less fun i hi=>Or.inl (Or.inl hi)
    · have hi4:=xlt.out i hi
      rw [P9 i (by omega),keep_at k8 (C.lt CS4 i (Or.inl (Or.inl hi))),S4 i (Or.inl (Or.inl hi))]
      exact sx3.out i hi
  replace P3:=Lib.hid P3
  replace k2:=Lib.hid k2
  replace RN2:=Lib.hid RN2
  replace em2:=Lib.hid em2
  replace dn2:=Lib.hid dn2
  replace F10:=Lib.hid F10
  clear yn yv cP
  go_upto_region 11 with fail
  rw [← hw3]
  replace hw3:=Lib.hid hw3
  clear x0 x1 x2 xf
  obtain ⟨x0,x1,x2,xf⟩:=rc_cells G10.out
  simp only at x0 x1 x2
  have yn:w3.cell? ⟨b5,10,none⟩ = some (.int .i64 nd):=(cel13_of G5.out).n
  have yv:w3.cell? ⟨b5,12,none⟩ = some (.slice VA vn vc):=(cel13_of G5.out).v
  unfold RcV.val at fin
  simp only at fin
  have HELD:∀ Wz,Keep w3 Wz→(Wz.cell? ⟨b10,0,none⟩ = some (.int .i64 d)∧Wz.cell? ⟨b10,1,none⟩ = some (.slice A' n' c')∧Wz.cell? ⟨b10,2,none⟩ = some (.slice B m e)∧Wz.cell? ⟨b5,10,none⟩ = some (.int .i64 nd)∧Wz.cell? ⟨b5,12,none⟩ = some (.slice VA vn vc)):=fun Wz KK=>⟨KK.cell x0,KK.cell x1,KK.cell x2,KK.cell yn,KK.cell yv⟩
  refine wp_region_held_drew (S:=fun w'=>w'.cell? ⟨b10,0,none⟩ = some (.int .i64 d)∧w'.cell? ⟨b10,1,none⟩ = some (.slice A' n' c')∧w'.cell? ⟨b10,2,none⟩ = some (.slice B m e)∧w'.cell? ⟨b5,10,none⟩ = some (.int .i64 nd)∧w'.cell? ⟨b5,12,none⟩ = some (.slice VA vn vc)) (by kernel_rfl) ?_ (fun hHeld=>?_)
  · exact HELD _ (by repeat (with_reducible first | exact Keep.refl w3 | apply Keep.alloc | apply Keep.drew | apply Keep.drewN))
  refine wpAnyH_take (i:=0) (v:=.agg #[.int .i64 d,.slice A' n' c',.slice B m e]) rfl (by kernel_rfl) (by kernel_rfl) (by kernel_rfl) (fun _ _ _ h=>h) (Or.inl ⟨by rfl,fun Wz hW=>by obtain ⟨a0,a1,a2,an,av⟩:=hW;go_simp⟩) hHeld ?_
  simp only [Act.put,List.getElem_toArray,List.getElem_cons_zero,List.setIfInBounds_toArray,List.set_cons_zero,List.set_cons_succ]
  refine wpAnyH_take (i:=1) (v:=.pointer (some ⟨q,0,none⟩)) rfl (by kernel_rfl) (by kernel_rfl) (by kernel_rfl) (fun _ _ _ h=>h) (Or.inl ⟨by rfl,fun Wz hW=>by obtain ⟨a0,a1,a2,an,av⟩:=hW;go_simp⟩) hHeld ?_
  simp only [Act.put,List.getElem_toArray,List.getElem_cons_succ,List.getElem_cons_zero,List.setIfInBounds_toArray,List.set_cons_zero,List.set_cons_succ]
  refine wpAnyH_take (i:=2) (v:=.pointer (some ⟨b5,10,none⟩)) rfl (by kernel_rfl) (by kernel_rfl) (by kernel_rfl) (fun _ _ _ h=>h) (Or.inl ⟨by rfl,fun Wz hW=>by obtain ⟨a0,a1,a2,an,av⟩:=hW;go_simp⟩) hHeld ?_
  simp only [Act.put,List.getElem_toArray,List.getElem_cons_succ,List.getElem_cons_zero,List.setIfInBounds_toArray,List.set_cons_zero,List.set_cons_succ]
  refine wpAnyH_take (i:=3) (v:=.int .i64 nd) rfl (by kernel_rfl) (by kernel_rfl) (by kernel_rfl) (fun _ _ _ h=>h) (Or.inl ⟨by rfl,fun Wz hW=>by obtain ⟨a0,a1,a2,an,av⟩:=hW;go_simp⟩) hHeld ?_
  simp only [Act.put,List.getElem_toArray,List.getElem_cons_succ,List.getElem_cons_zero,List.setIfInBounds_toArray,List.set_cons_zero,List.set_cons_succ]
  refine wpAnyH_take (i:=4) (v:=.pointer (some ⟨b5,12,none⟩)) rfl (by kernel_rfl) (by kernel_rfl) (by kernel_rfl) (fun _ _ _ h=>h) (Or.inl ⟨by rfl,fun Wz hW=>by obtain ⟨a0,a1,a2,an,av⟩:=hW;go_simp⟩) hHeld ?_
  simp only [Act.put,List.getElem_toArray,List.getElem_cons_succ,List.getElem_cons_zero,List.setIfInBounds_toArray,List.set_cons_zero,List.set_cons_succ]
  refine wpAnyH_take (i:=5) (v:=.slice VA vn vc) rfl (by kernel_rfl) (by kernel_rfl) (by kernel_rfl) (fun _ _ _ h=>h) (Or.inl ⟨by rfl,fun Wz hW=>by obtain ⟨a0,a1,a2,an,av⟩:=hW;go_simp⟩) hHeld ?_
  simp only [Act.put,List.getElem_toArray,List.getElem_cons_succ,List.getElem_cons_zero,List.setIfInBounds_toArray,List.set_cons_zero,List.set_cons_succ]
  refine wpAnyH_take (i:=6) (v:=.agg #[.int .i64 nd,.slice VA vn vc]) rfl (by kernel_rfl) (by kernel_rfl) (by kernel_rfl) (fun _ _ _ h=>h) (Or.inl ⟨by rfl,fun Wz hW=>by obtain ⟨a0,a1,a2,an,av⟩:=hW;go_simp⟩) hHeld ?_
  simp only [Act.put,List.getElem_toArray,List.getElem_cons_succ,List.getElem_cons_zero,List.setIfInBounds_toArray,List.set_cons_zero,List.set_cons_succ]
  refine wpAnyH_take (i:=8) (v:=.int .i64 cd) rfl (by kernel_rfl) (by kernel_rfl) (by kernel_rfl) (fun _ _ _ h=>h) (Or.inl ⟨by rfl,fun Wz hW=>by obtain ⟨a0,a1,a2,an,av⟩:=hW;go_simp⟩) hHeld ?_
  simp only [Act.put,List.getElem_toArray,List.getElem_cons_succ,List.getElem_cons_zero,List.setIfInBounds_toArray,List.set_cons_zero,List.set_cons_succ]
  refine wpAnyH_take (i:=9) (v:=.int .i64 ix) rfl (by kernel_rfl) (by kernel_rfl) (by kernel_rfl) (fun _ _ _ h=>h) (Or.inl ⟨by rfl,fun Wz hW=>by obtain ⟨a0,a1,a2,an,av⟩:=hW;go_simp⟩) hHeld ?_
  simp only [Act.put,List.getElem_toArray,List.getElem_cons_succ,List.getElem_cons_zero,List.setIfInBounds_toArray,List.set_cons_zero,List.set_cons_succ]
  refine wpAnyH_ready (rs:=[7]) (by kernel_rfl) (by simp) ?_
  refine AllReadyH.cons rfl (fun K hK=>?_) AllReadyH.nil
  simp only [List.getElem_toArray,List.getElem_cons_succ,List.getElem_cons_zero]
  rw [if_pos (by rfl)]
  go_simp
  refine (cB.out _ (by repeat (with_reducible first | exact Keep.refl w3 | apply Keep.alloc | apply Keep.drew | apply Keep.drewN))).mono ?_
  rintro e' w4 ⟨rfl,CS4,S4⟩
  have CS4:=Lib.hid CS4
  have S4:=Lib.hid S4
  have q10:=S4.out b10 (Or.inl (Or.inr (by have:=bs.out;omega)))
  have q5:=S4.out b5 (Or.inl (Or.inr (by have:=bs.out;omega)))
  have HELD4:Hid (∀ Wz,Keep w4 Wz→(Wz.cell? ⟨b10,0,none⟩ = some (.int .i64 d)∧Wz.cell? ⟨b10,1,none⟩ = some (.slice A' n' c')∧Wz.cell? ⟨b10,2,none⟩ = some (.slice B m e)∧Wz.cell? ⟨b5,10,none⟩ = some (.int .i64 nd)∧Wz.cell? ⟨b5,12,none⟩ = some (.slice VA vn vc))):=fun Wz KK=>⟨KK.cell (cell_same x0 q10),KK.cell (cell_same x1 q10),KK.cell (cell_same x2 q10),KK.cell (cell_same yn q5),KK.cell (cell_same yv q5)⟩
  go_wp2_with fail
  refine hK.out _ _ ?_ (fun hHeld=>?_)
  · exact HELD4.out _ (Keep.refl _)
  clear hK K
  try simp only [Act.put,List.getElem_toArray,List.getElem_cons_succ,List.getElem_cons_zero,List.setIfInBounds_toArray,List.set_cons_zero,List.set_cons_succ]
  refine wpAnyH_ready (rs:=[10]) (by kernel_rfl) (by simp) ?_
  refine AllReadyH.cons rfl (fun K hK=>?_) AllReadyH.nil
  simp only [List.getElem_toArray,List.getElem_cons_succ,List.getElem_cons_zero]
  rw [if_pos (by rfl)]
  go_simp
  refine (cT.out _ (C.kp CS4.out)).mono ?_
  rintro e' w8 ⟨rfl,K8⟩
  replace K8:=Lib.hid K8
  go_wp2_with fail
  refine hK.out _ _ ?_ (fun hHeld=>?_)
  · exact HELD4.out _ K8.out
  clear hK K
  try simp only [Act.put,List.getElem_toArray,List.getElem_cons_succ,List.getElem_cons_zero,List.setIfInBounds_toArray,List.set_cons_zero,List.set_cons_succ]
  refine wpAnyH_ready (rs:=[11]) (by kernel_rfl) (by simp) ?_
  refine AllReadyH.cons rfl (fun K hK=>?_) AllReadyH.nil
  simp only [List.getElem_toArray,List.getElem_cons_succ,List.getElem_cons_zero]
  rw [if_pos (by rfl)]
  obtain ⟨t0,t1,t2,tf⟩:=rc_cells (K8.out.block ((S4.out b6 (Or.inl (Or.inr (by have:=bs.out;omega)))).trans G6.out))
  unfold zrc at t0 t1 t2
  simp only at t0 t1 t2
  go_simp
  refine hK.out _ _ ?_ (fun hHeld=>?_)
  · exact (by obtain ⟨a0,a1,a2,an,av⟩:=HELD4.out _ K8.out;have P9:∀ k,k≠b6→(put3 w8 b6 ⟨d,A',n',c',B,m,e⟩).heap[k]? = w8.heap[k]?:=fun k hk=>put3_block _ hk;have q10:=P9 b10 (by have:=bs.out;omega);have q5:=P9 b5 (by have:=bs.out;omega);simp only [put3] at q10 q5;exact ⟨cell_same a0 q10,cell_same a1 q10,cell_same a2 q10,cell_same an q5,cell_same av q5⟩)
  clear hK K
  try simp only [Act.put,List.getElem_toArray,List.getElem_cons_succ,List.getElem_cons_zero,List.setIfInBounds_toArray,List.set_cons_zero,List.set_cons_succ]
  refine wpAnyH_take (i:=12) (v:=.bool true) rfl (by kernel_rfl) (by kernel_rfl) (by kernel_rfl) (fun _ _ _ h=>h) (Or.inl ⟨by rfl,fun Wz hW=>by obtain ⟨a0,a1,a2,an,av⟩:=hW;go_simp⟩) hHeld ?_
  simp only [Act.put,List.getElem_toArray,List.getElem_cons_succ,List.getElem_cons_zero,List.setIfInBounds_toArray,List.set_cons_zero,List.set_cons_succ]
  refine wpAnyH_done (by kernel_rfl) ?_ _
  go_wp2_with fail
  obtain ⟨F1,F2⟩:=fin.out w4 w8 CS4.out S4.out K8.out
  obtain ⟨e0,e1,e2,_⟩:=rc_cells F2
  simp only [put3] at *
  refine bodyPost_ret (v:=.tuple #[.agg #[.int .i64 d,.slice A' n' c',.slice B m e],.bool true]) (by simp [results,Tryz.results11,go_sem,e0,e1,e2]) rfl F1
end Go.Proofs.YtnclkefddkgojaaGreatDoor.T14

namespace Go.Proofs.YtnclkefddkgojaaGreatDoor.T14
open Go.RowKit Go.Sort Go.Lib V12 T13
set_option maxRecDepth 100000 in
set_option maxHeartbeats 32000000 in
theorem play_dropn {CS:PredC} (C:Con CS) {w:World} {d q:Nat} {M:List NV} {L:List PodV} {X:Nat→Prop} {w1:World} {x:RcV} {Q:Nat→C14.NdC} {P:Nat→PodV} (h:St CS w d q M L X w1 x Q P) (hg:ErrT w) (hd:d≤64) (o:OpC) (ho:OcIs w o) (hmn:x.n≤100) (hmm:x.m≤100) (hk:o.kd = 1) (hin:o.nd ∉ nk M) :
    Calls Tryz.prog 11 #[.pointer (some ⟨q,0,none⟩),x.val,o.val] w1 (StPost CS w d q (opM d M o) (opP d M L o) X w1):=by
  have lM:=h.lenM
  have lL:=h.lenL
  have hM1:opM d M o = M:=by unfold opM;rw [hk];exact drM_out hin
  have hL1:opP d M L o = L:=by unfold opP;rw [hk];exact drL_out (C.ok h.o) hin
  rw [hM1,hL1]
  clear hM1 hL1
  have hxd:=h.xd
  have B5:=blk5 w1 x o
  obtain ⟨kd,y,nd,ev,VA,vn,vc,V⟩:=o
  obtain ⟨xd,A,n,c,B,m,e⟩:=x
  simp only at hxd lM lL hmn hmm hin hk ⊢
  subst hxd
  subst hk
  obtain ⟨W0,hW0⟩:∃ W0,W0 = w1.alloc (.cells (⟨d,A,n,c,B,m,e⟩:RcV).arr 30):=⟨_,rfl⟩
  rw [← hW0] at B5
  obtain ⟨W1,hW1⟩:∃ W1,W1 = W0.alloc (.cells (⟨1,y,nd,ev,VA,vn,vc,V⟩:OpC).arr 37):=⟨_,rfl⟩
  rw [← hW1] at B5
  obtain ⟨W2,hW2⟩:∃ W2,W2 = W1.alloc (.cells zrc.arr 30):=⟨_,rfl⟩
  rw [← hW2] at B5
  obtain ⟨W3,hW3⟩:∃ W3,W3 = W2.alloc (.cells (podB zpod) 35):=⟨_,rfl⟩
  rw [← hW3] at B5
  obtain ⟨W,hW⟩:∃ W,W = W3.alloc (.cells (⟨d,A,n,c,B,m,e⟩:RcV).arr 30):=⟨_,rfl⟩
  rw [← hW] at B5
  obtain ⟨b4,hb4⟩:∃ b4,b4 = w1.heap.size:=⟨_,rfl⟩
  obtain ⟨b5,hb5⟩:∃ b5,b5 = w1.heap.size + 1:=⟨_,rfl⟩
  obtain ⟨b6,hb6⟩:∃ b6,b6 = w1.heap.size + 1 + 1:=⟨_,rfl⟩
  obtain ⟨b8,hb8⟩:∃ b8,b8 = w1.heap.size + 1 + 1 + 1:=⟨_,rfl⟩
  obtain ⟨b10,hb10⟩:∃ b10,b10 = w1.heap.size + 1 + 1 + 1 + 1:=⟨_,rfl⟩
  have KW:Hid (Keep w1 W):=B5.k
  have sW:Hid (W.heap.size = b4 + 5):=by show _ = _;rw [B5.s,hb4]
  have A4:Hid (W.heap[b4]? = some (.cells (⟨d,A,n,c,B,m,e⟩:RcV).arr 30 (0,0))):=by show _ = _;rw [hb4];exact B5.b4
  have A5:Hid (W.heap[b5]? = some (.cells (⟨1,y,nd,ev,VA,vn,vc,V⟩:OpC).arr 37 (0,0))):=by show _ = _;rw [hb5];exact B5.b5
  have A6:Hid (W.heap[b6]? = some (.cells zrc.arr 30 (0,0))):=by show _ = _;rw [hb6];exact B5.b6
  have A8:Hid (W.heap[b8]? = some (.cells (podB zpod) 35 (0,0))):=by show _ = _;rw [hb8];exact B5.b8
  have A10:Hid (W.heap[b10]? = some (.cells (⟨d,A,n,c,B,m,e⟩:RcV).arr 30 (0,0))):=by show _ = _;rw [hb10];exact B5.b10
  have kw:Hid (Keep w w1):=C.kp h.o
  have KwW:Hid (Keep w W):=kw.out.trans KW.out
  have xlt:Hid (∀ i,X i→i < b4):=fun i hi=>by rw [hb4];exact C.lt h.o i hi
  have wlt:Hid (w.heap.size≤b4):=by show _≤_;rw [hb4];exact kw.out.size
  have bs:Hid (b5 = b4 + 1∧b6 = b4 + 2∧b8 = b4 + 3∧b10 = b4 + 4):=by rw [hb4,hb5,hb6,hb8,hb10];exact ⟨rfl,rfl,rfl,rfl⟩
  have hok:=Lib.hid (C.ok h.o)
  have hem:=Lib.hid h.em
  have hdn:=Lib.hid h.dn
  have hel:=Lib.hid h.el
  have hrn:=Lib.hid h.rn
  have hrl:=Lib.hid h.rl
  simp only at hem hdn hel hrn hrl
  have hnd:I64 nd:=ho.n
  have CW:CS w d q M L (fun i=>X i∨(b4≤i∧i < b4 + 5)) W:=C.more h.o KW.out (fun i hi=>by rw [sW.out];omega)
  have cP:=Lib.hid (C.dropNode nd CW (hg.keep KwW.out) hnd (by omega) (by omega))
  clear h ho B5
  have O5:=cel13_of A5.out
  have O5h:=Lib.hid O5
  obtain ⟨x0,x1,x2,xf⟩:=rc_cells A4.out
  have yk:=O5.k
  have yn:=O5.n
  clear O5
  replace hnd:=Lib.hid hnd
  replace CW:=Lib.hid CW
  replace lM:=Lib.hid lM
  replace hin:=Lib.hid hin
  replace lL:=Lib.hid lL
  replace hd:=Lib.hid hd
  unfold RcV.arr at hW0 hW
  unfold OpC.arr at hW1
  unfold zrc RcV.arr at hW2
  unfold podB zpod at hW3
  unfold OpC.val RcV.val at *
  simp only at *
  go_enter Tryz.func11,Tryz.ntmps11
  go_wp2_with fail
  rw [← hW0,← hW1,← hW2,← hW3,← hW,← hb10,← hb8,← hb6,← hb5,← hb4]
  replace hW0:=Lib.hid hW0
  replace hW1:=Lib.hid hW1
  replace hW2:=Lib.hid hW2
  replace hW3:=Lib.hid hW3
  replace hW:=Lib.hid hW
  replace hb10:=Lib.hid hb10
  replace hb8:=Lib.hid hb8
  replace hb6:=Lib.hid hb6
  replace hb5:=Lib.hid hb5
  replace hb4:=Lib.hid hb4
  refine cP.out.mono ?_
  rintro e' w2 ⟨_,hno⟩
  obtain ⟨LA,lc,rfl,CS2,S2⟩:=hno hin.out
  clear hno x0 x1 x2 xf yk yn cP
  have KwB:Hid (Keep w w2):=C.kp CS2
  have CS2:=Lib.hid CS2
  have S2:=Lib.hid S2
  have D5:Hid (w2.heap[b5]? = some (.cells (⟨1,y,nd,ev,VA,vn,vc,V⟩:OpC).arr 37 (0,0))):=(S2.out b5 (Or.inr (by have:=bs.out;omega))).trans A5.out
  have D4:Hid (w2.heap[b4]? = some (.cells (⟨d,A,n,c,B,m,e⟩:RcV).arr 30 (0,0))):=(S2.out b4 (Or.inr (by omega))).trans A4.out
  have D6:Hid (w2.heap[b6]? = some (.cells zrc.arr 30 (0,0))):=(S2.out b6 (Or.inr (by have:=bs.out;omega))).trans A6.out
  have sx2:Hid (SameX X w1 w2):=fun i hi=>by
    have hi4:=xlt.out i hi
    rw [S2.out i (Or.inl hi)]
    exact keep_at KW.out (by have:=hb4.out;omega)
  have RN2:Hid (C14.RN w X w2 A c n Q):=hrn.out.same sx2.out
  have RL2:Hid (RL w X w2 B e m P):=hrl.out.same KwB.out sx2.out
  have lt2:Hid (∀ i,X i→i < w2.heap.size):=fun i hi=>C.lt CS2.out i (Or.inl hi)
  have cF:Hid (Calls Tryz.prog 37 #[(⟨d,A,n,c,B,m,e⟩:RcV).val,.int .i64 nd] w2 fun e' w'=>e' = .returned (.int .i64 (C14.findN Q nd n))∧Keep w2 w'):=(rfindN_fn (⟨d,A,n,c,B,m,e⟩:RcV) Q nd w2 RN2.out.rd).mono fun _ _ ⟨he,e2⟩=>⟨he,by rw [e2];exact Keep.one _ _⟩
  obtain ⟨x0,x1,x2,xf⟩:=rc_cells D4.out
  simp only at x0 x1 x2
  have yn:=(cel13_of D5.out).n
  unfold RcV.val at cF
  simp only at cF
  obtain ⟨r,hr⟩:∃ r,r = C14.findN Q nd n:=⟨_,rfl⟩
  have hr0:decide (r < 0) = true:=decide_eq_true (by rw [hr];exact node_no hem.out hin.out)
  rw [← hr] at cF
  replace hr:=Lib.hid hr
  go_wp2_with fail
  refine cF.out.mono ?_
  rintro e' w3 ⟨rfl,k3⟩
  have K3:=Lib.hid k3
  have fin:Hid (∀ w8,Keep w2 w8→StPost CS w d q M L X w1 (.returned (.tuple #[(⟨d,A,n,c,B,m,e⟩:RcV).val,.bool true])) (put3 w8 b6 ⟨d,A,n,c,B,m,e⟩)∧(put3 w8 b6 ⟨d,A,n,c,B,m,e⟩).heap[b6]? = some (.cells (⟨d,A,n,c,B,m,e⟩:RcV).arr 30 (0,0))):=fun w8 k8=>by
    have CS8:=C.keep CS2.out k8
    have P9:∀ k,k≠b6→(put3 w8 b6 ⟨d,A,n,c,B,m,e⟩).heap[k]? = w8.heap[k]?:=fun k hk=>put3_block _ hk
    have b6x:=bs.out
    have Kw9:Keep w (put3 w8 b6 ⟨d,A,n,c,B,m,e⟩):=put3_keep _ (C.kp CS8) (by have:=wlt.out;omega)
    refine ⟨⟨_,Q,P,_,rfl,⟨C.write CS8 Kw9 (by rw [put3_size];exact Nat.le_refl _) (fun k _ hk=>P9 k fun e=>hk (Or.inr (by omega))),rfl,?_,hem.out,hdn.out,?_,hel.out⟩,fun i hi=>Or.inl hi,fun i hi=>?_⟩,put3_heap _ zrc (k8.block D6.out)⟩
    · exact ((RN2.out.keep k8).same fun i hi=>P9 i (by have:=xlt.out i hi;omega)).less fun i hi=>Or.inl hi
    · exact ((RL2.out.keep k8).same Kw9 fun i hi=>P9 i (by have:=xlt.out i hi;omega)).less fun i hi=>Or.inl hi
    · have hi4:=xlt.out i hi
      rw [P9 i (by omega),keep_at k8 (lt2.out i hi)]
      exact sx2.out i hi
  have cT:Hid (∀ W,Keep w2 W→Calls Tryz.prog 24 #[flt 5 0,.int .i64 5,.int .i64 0] W fun e w'=>e = .returned (.bool true)∧Keep W w'):=fun W k=>told_yes 5 0 W (hg.keep (KwB.out.trans k))
  clear x0 x1 x2 xf yn
  go_upto_region 15 with fail
  obtain ⟨x0,x1,x2,xf⟩:=rc_cells (K3.out.block D4.out)
  simp only at x0 x1 x2
  unfold RcV.val at fin
  simp only at fin
  have HELD:∀ Wz,Keep w3 Wz→(Wz.cell? ⟨b4,0,none⟩ = some (.int .i64 d)∧Wz.cell? ⟨b4,1,none⟩ = some (.slice A n c)∧Wz.cell? ⟨b4,2,none⟩ = some (.slice B m e)):=fun Wz KK=>⟨KK.cell x0,KK.cell x1,KK.cell x2⟩
  refine wp_region_held_drew (S:=fun w'=>w'.cell? ⟨b4,0,none⟩ = some (.int .i64 d)∧w'.cell? ⟨b4,1,none⟩ = some (.slice A n c)∧w'.cell? ⟨b4,2,none⟩ = some (.slice B m e)) (by kernel_rfl) ?_ (fun hHeld=>?_)
  · exact HELD _ (by repeat (with_reducible first | exact Keep.refl w3 | apply Keep.alloc | apply Keep.drew | apply Keep.drewN))
  refine wpAnyH_take (i:=0) (v:=.agg #[.int .i64 d,.slice A n c,.slice B m e]) rfl (by kernel_rfl) (by kernel_rfl) (by kernel_rfl) (fun _ _ _ h=>h) (Or.inl ⟨by rfl,fun Wz hW=>by obtain ⟨a0,a1,a2⟩:=hW;go_simp⟩) hHeld ?_
  simp only [Act.put,List.getElem_toArray,List.getElem_cons_zero,List.setIfInBounds_toArray,List.set_cons_zero,List.set_cons_succ]
  refine wpAnyH_take (i:=1) (v:=flt 5 0) rfl (by kernel_rfl) (by kernel_rfl) (by kernel_rfl) (fun _ _ _ h=>h) (Or.inl ⟨by rfl,fun Wz hW=>by obtain ⟨a0,a1,a2⟩:=hW;go_simp⟩) hHeld ?_
  simp only [Act.put,List.getElem_toArray,List.getElem_cons_succ,List.getElem_cons_zero,List.setIfInBounds_toArray,List.set_cons_zero,List.set_cons_succ]
  refine wpAnyH_ready (rs:=[2]) (by kernel_rfl) (by simp) ?_
  refine AllReadyH.cons rfl (fun K hK=>?_) AllReadyH.nil
  simp only [List.getElem_toArray,List.getElem_cons_succ,List.getElem_cons_zero]
  rw [if_pos (by rfl)]
  go_simp
  refine (cT.out _ (K3.out.trans (by repeat (with_reducible first | exact Keep.refl w3 | apply Keep.alloc | apply Keep.drew | apply Keep.drewN)))).mono ?_
  rintro e' w8 ⟨rfl,k8⟩
  have K38:Hid (Keep w3 w8):=((Keep.refl _).drew:Keep w3 _).trans k8
  have K8:Hid (Keep w2 w8):=K3.out.trans K38.out
  replace k8:=Lib.hid k8
  go_wp2_with fail
  refine hK.out _ _ ?_ (fun hHeld=>?_)
  · exact HELD _ K38.out
  clear hK K
  try simp only [Act.put,List.getElem_toArray,List.getElem_cons_succ,List.getElem_cons_zero,List.setIfInBounds_toArray,List.set_cons_zero,List.set_cons_succ]
  refine wpAnyH_take (i:=3) (v:=.bool true) rfl (by kernel_rfl) (by kernel_rfl) (by kernel_rfl) (fun _ _ _ h=>h) (Or.inl ⟨by rfl,fun Wz hW=>by obtain ⟨a0,a1,a2⟩:=hW;go_simp⟩) hHeld ?_
  simp only [Act.put,List.getElem_toArray,List.getElem_cons_succ,List.getElem_cons_zero,List.setIfInBounds_toArray,List.set_cons_zero,List.set_cons_succ]
  refine wpAnyH_take (i:=4) (v:=.slice LA 0 lc) rfl (by kernel_rfl) (by kernel_rfl) (by kernel_rfl) (fun _ _ _ h=>h) (Or.inl ⟨by rfl,fun Wz hW=>by obtain ⟨a0,a1,a2⟩:=hW;go_simp⟩) hHeld ?_
  simp only [Act.put,List.getElem_toArray,List.getElem_cons_succ,List.getElem_cons_zero,List.setIfInBounds_toArray,List.set_cons_zero,List.set_cons_succ]
  refine wpAnyH_take (i:=5) (v:=.int .i64 0) rfl (by kernel_rfl) (by kernel_rfl) (by kernel_rfl) (fun _ _ _ h=>h) (Or.inl ⟨by rfl,fun Wz hW=>by obtain ⟨a0,a1,a2⟩:=hW;go_simp⟩) hHeld ?_
  simp only [Act.put,List.getElem_toArray,List.getElem_cons_succ,List.getElem_cons_zero,List.setIfInBounds_toArray,List.set_cons_zero,List.set_cons_succ]
  refine wpAnyH_take (i:=6) (v:=.bool true) rfl (by kernel_rfl) (by kernel_rfl) (by kernel_rfl) (fun _ _ _ h=>h) (Or.inl ⟨by rfl,fun Wz hW=>by obtain ⟨a0,a1,a2⟩:=hW;go_simp⟩) hHeld ?_
  simp only [Act.put,List.getElem_toArray,List.getElem_cons_succ,List.getElem_cons_zero,List.setIfInBounds_toArray,List.set_cons_zero,List.set_cons_succ]
  refine wpAnyH_take (i:=7) (v:=.bool true) rfl (by kernel_rfl) (by kernel_rfl) (by kernel_rfl) (fun _ _ _ h=>h) (Or.inl ⟨by rfl,fun Wz hW=>by obtain ⟨a0,a1,a2⟩:=hW;go_simp⟩) hHeld ?_
  simp only [Act.put,List.getElem_toArray,List.getElem_cons_succ,List.getElem_cons_zero,List.setIfInBounds_toArray,List.set_cons_zero,List.set_cons_succ]
  refine wpAnyH_ready (rs:=[8]) (by kernel_rfl) (by simp) ?_
  refine AllReadyH.cons rfl (fun K hK=>?_) AllReadyH.nil
  simp only [List.getElem_toArray,List.getElem_cons_succ,List.getElem_cons_zero]
  rw [if_pos (by rfl)]
  obtain ⟨t0,t1,t2,tf⟩:=rc_cells (K8.out.block D6.out)
  unfold zrc at t0 t1 t2
  simp only at t0 t1 t2
  go_simp
  refine hK.out _ _ ?_ (fun hHeld=>?_)
  · exact (by obtain ⟨a0,a1,a2⟩:=HELD _ K38.out;have P9:∀ k,k≠b6→(put3 w8 b6 ⟨d,A,n,c,B,m,e⟩).heap[k]? = w8.heap[k]?:=fun k hk=>put3_block _ hk;have q4:=P9 b4 (by have:=bs.out;omega);simp only [put3] at q4;exact ⟨cell_same a0 q4,cell_same a1 q4,cell_same a2 q4⟩)
  clear hK K
  try simp only [Act.put,List.getElem_toArray,List.getElem_cons_succ,List.getElem_cons_zero,List.setIfInBounds_toArray,List.set_cons_zero,List.set_cons_succ]
  refine wpAnyH_take (i:=9) (v:=.bool true) rfl (by kernel_rfl) (by kernel_rfl) (by kernel_rfl) (fun _ _ _ h=>h) (Or.inl ⟨by rfl,fun Wz hW=>by obtain ⟨a0,a1,a2⟩:=hW;go_simp⟩) hHeld ?_
  simp only [Act.put,List.getElem_toArray,List.getElem_cons_succ,List.getElem_cons_zero,List.setIfInBounds_toArray,List.set_cons_zero,List.set_cons_succ]
  refine wpAnyH_done (by kernel_rfl) ?_ _
  go_wp2_with fail
  obtain ⟨F1,F2⟩:=fin.out w8 K8.out
  obtain ⟨e0,e1,e2,_⟩:=rc_cells F2
  simp only [put3] at *
  refine bodyPost_ret (v:=.tuple #[.agg #[.int .i64 d,.slice A n c,.slice B m e],.bool true]) (by simp [results,Tryz.results11,go_sem,e0,e1,e2]) rfl F1
end Go.Proofs.YtnclkefddkgojaaGreatDoor.T14

