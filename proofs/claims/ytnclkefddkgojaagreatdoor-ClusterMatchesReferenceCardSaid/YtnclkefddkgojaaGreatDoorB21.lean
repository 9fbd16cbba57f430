/-
  The law's play: the operations that answer a pod. Conditions: errors.errorType holds its own; at most 100 nodes and pods; the dimension is at most 64.
-/
import Derived.Test.YtnclkefddkgojaaGreatDoorB18
namespace Go.Proofs.YtnclkefddkgojaaGreatDoor.T14
open Go.RowKit Go.Sort Go.Lib V12 T13
set_option maxRecDepth 100000 in
set_option maxHeartbeats 32000000 in
theorem play_sub {CS:PredC} (C:Con CS) {w:World} {d q:Nat} {M:List NV} {L:List PodV} {X:Nat→Prop} {w1:World} {x:RcV} {Q:Nat→C14.NdC} {P:Nat→PodV} (h:St CS w d q M L X w1 x Q P) (hg:ErrT w) (hd:d≤64) (o:OpC) (ho:OcIs w o) (hf:FewK o) (hmn:x.n≤100) (hmm:x.m≤100) (hk:o.kd = 2) :
    Calls Tryz.prog 11 #[.pointer (some ⟨q,0,none⟩),x.val,o.val] w1 (StPost CS w d q (opM d M o) (opP d M L o) X w1):=by
  have lM:=h.lenM
  have lL:=h.lenL
  have hM1:opM d M o = M:=by unfold opM;rw [hk];rfl
  have hL1:opP d M L o = sbL L d o.x:=by unfold opP;rw [hk];rfl
  rw [hM1,hL1]
  clear hM1 hL1
  have hm20:o.x.m≤20:=hf.1.m
  have hxd:=h.xd
  have B5:=blk5 w1 x o
  obtain ⟨kd,y,nd,ev,VA,vn,vc,V⟩:=o
  obtain ⟨xd,A,n,c,B,m,e⟩:=x
  simp only at hxd lM lL hmn hmm hm20 hk ⊢
  subst hxd
  subst hk
  obtain ⟨W0,hW0⟩:∃ W0,W0 = w1.alloc (.cells (⟨d,A,n,c,B,m,e⟩:RcV).arr 30):=⟨_,rfl⟩
  rw [← hW0] at B5
  obtain ⟨W1,hW1⟩:∃ W1,W1 = W0.alloc (.cells (⟨2,y,nd,ev,VA,vn,vc,V⟩:OpC).arr 37):=⟨_,rfl⟩
  rw [← hW1] at B5
  obtain ⟨W2,hW2⟩:∃ W2,W2 = W1.alloc (.cells zrc.arr 30):=⟨_,rfl⟩
  rw [← hW2] at B5
  obtain ⟨W3,hW3⟩:∃ W3,W3 = W2.alloc (.cells (podB zpod) 35):=⟨_,rfl⟩
  rw [← hW3] at B5
  obtain ⟨W,hW⟩:∃ W,W = W3.alloc (.cells (⟨d,A,n,c,B,m,e⟩:RcV).arr 30):=⟨_,rfl⟩
  rw [← hW] at B5
  obtain ⟨b4,hb4⟩:∃ b4,b4 = w1.heap.size:=⟨_,rfl⟩
  obtain ⟨b5,hb5⟩:∃ b5,b5 = w1.heap.size + 1:=⟨_,rfl⟩
  obtain ⟨b6,hb6⟩:∃ b6,b6 = w1.heap.size + 1 + 1:=⟨_,rfl⟩
  obtain ⟨b8,hb8⟩:∃ b8,b8 = w1.heap.size + 1 + 1 + 1:=⟨_,rfl⟩
  obtain ⟨b10,hb10⟩:∃ b10,b10 = w1.heap.size + 1 + 1 + 1 + 1:=⟨_,rfl⟩
  have KW:Hid (Keep w1 W):=B5.k
  have sW:Hid (W.heap.size = b4 + 5):=by show _ = _;rw [B5.s,hb4]
  have A4:Hid (W.heap[b4]? = some (.cells (⟨d,A,n,c,B,m,e⟩:RcV).arr 30 (0,0))):=by show _ = _;rw [hb4];exact B5.b4
  have A5:Hid (W.heap[b5]? = some (.cells (⟨2,y,nd,ev,VA,vn,vc,V⟩:OpC).arr 37 (0,0))):=by show _ = _;rw [hb5];exact B5.b5
  have A6:Hid (W.heap[b6]? = some (.cells zrc.arr 30 (0,0))):=by show _ = _;rw [hb6];exact B5.b6
  have A8:Hid (W.heap[b8]? = some (.cells (podB zpod) 35 (0,0))):=by show _ = _;rw [hb8];exact B5.b8
  have A10:Hid (W.heap[b10]? = some (.cells (⟨d,A,n,c,B,m,e⟩:RcV).arr 30 (0,0))):=by show _ = _;rw [hb10];exact B5.b10
  have kw:Hid (Keep w w1):=C.kp h.o
  have KwW:Hid (Keep w W):=kw.out.trans KW.out
  have xlt:Hid (∀ i,X i→i < b4):=fun i hi=>by rw [hb4];exact C.lt h.o i hi
  have wlt:Hid (w.heap.size≤b4):=by show _≤_;rw [hb4];exact kw.out.size
  have bs:Hid (b5 = b4 + 1∧b6 = b4 + 2∧b8 = b4 + 3∧b10 = b4 + 4):=by rw [hb4,hb5,hb6,hb8,hb10];exact ⟨rfl,rfl,rfl,rfl⟩
  have hok:=Lib.hid (C.ok h.o)
  have hem:=Lib.hid h.em
  have hdn:=Lib.hid h.dn
  have hel:=Lib.hid h.el
  have hrn:=Lib.hid h.rn
  have hrl:=Lib.hid h.rl
  simp only at hem hdn hel hrn hrl
  have hy:PodIs w y:=ho.x
  have hnd:I64 nd:=ho.n
  have hev:I64 ev:=ho.e
  have CW:CS w d q M L (fun i=>X i∨(b4≤i∧i < b4 + 5)) W:=C.more h.o KW.out (fun i hi=>by rw [sW.out];omega)
  have cP:=Lib.hid (C.submit y CW (hg.keep KwW.out) (hy.keep KwW.out) (by omega) (by omega))
  clear h ho hf B5
  obtain ⟨cd,hcd⟩:∃ cd,cd = sbC L d y:=⟨_,rfl⟩
  obtain ⟨ix,hix⟩:∃ ix:Int,ix = wrI d y.m y.Z:=⟨_,rfl⟩
  obtain ⟨NR,hNR⟩:∃ NR,NR = subP y L.length:=⟨_,rfl⟩
  obtain ⟨L2,hL2⟩:∃ L2,L2 = sbL L d y:=⟨_,rfl⟩
  rw [← hcd,← hix,← hNR,← hL2] at cP
  rw [← hL2]
  have O5:=cel13_of A5.out
  have O5h:=Lib.hid O5
  obtain ⟨x0,x1,x2,xf⟩:=rc_cells A4.out
  have yk:=O5.k
  have yn:=O5.n;have ye:=O5.e
  have y0:=O5.x.e0;have y1:=O5.x.e1;have y2:=O5.x.e2;have y3:=O5.x.e3;have y4:=O5.x.e4;have y5:=O5.x.e5;have y6:=O5.x.e6;have y7:=O5.x.e7;have y8:=O5.x.e8
  clear O5
  replace hcd:=Lib.hid hcd
  replace hix:=Lib.hid hix
  replace hNR:=Lib.hid hNR
  replace hL2:=Lib.hid hL2
  replace hy:=Lib.hid hy
  replace hnd:=Lib.hid hnd
  replace hev:=Lib.hid hev
  replace CW:=Lib.hid CW
  replace lM:=Lib.hid lM
  replace lL:=Lib.hid lL
  replace hd:=Lib.hid hd
  replace hm20:=Lib.hid hm20
  unfold RcV.arr at hW0 hW
  unfold OpC.arr at hW1
  unfold zrc RcV.arr at hW2
  unfold podB zpod at hW3
  unfold OpC.val RcV.val PodV.val at *
  simp only at *
  go_enter Tryz.func11,Tryz.ntmps11
  go_wp2_with fail
  rw [← hW0,← hW1,← hW2,← hW3,← hW,← hb10,← hb8,← hb6,← hb5,← hb4]
  replace hW0:=Lib.hid hW0
  replace hW1:=Lib.hid hW1
  replace hW2:=Lib.hid hW2
  replace hW3:=Lib.hid hW3
  replace hW:=Lib.hid hW
  replace hb10:=Lib.hid hb10
  replace hb8:=Lib.hid hb8
  replace hb6:=Lib.hid hb6
  replace hb5:=Lib.hid hb5
  replace hb4:=Lib.hid hb4
  refine cP.out.mono ?_
  rintro e' w2 ⟨r,rfl,NE0,NE1,IR,QR,CS2,S2⟩
  have KwB:Keep w w2:=C.kp CS2
  have S2:=Lib.hid S2
  have D5:w2.heap[b5]? = some (.cells (⟨2,y,nd,ev,VA,vn,vc,V⟩:OpC).arr 37 (0,0)):=(S2.out b5 (Or.inr (by have:=bs.out;omega))).trans A5.out
  have D4:w2.heap[b4]? = some (.cells (⟨d,A,n,c,B,m,e⟩:RcV).arr 30 (0,0)):=(S2.out b4 (Or.inr (by omega))).trans A4.out
  have D6:w2.heap[b6]? = some (.cells zrc.arr 30 (0,0)):=(S2.out b6 (Or.inr (by have:=bs.out;omega))).trans A6.out
  have D8:w2.heap[b8]? = some (.cells (podB zpod) 35 (0,0)):=(S2.out b8 (Or.inr (by have:=bs.out;omega))).trans A8.out
  have D10:w2.heap[b10]? = some (.cells (⟨d,A,n,c,B,m,e⟩:RcV).arr 30 (0,0)):=(S2.out b10 (Or.inr (by have:=bs.out;omega))).trans A10.out
  obtain ⟨w3,hw3⟩:∃ w3,w3 = put9 w2 b8 r:=⟨_,rfl⟩
  have P3:=put9_x hw3
  have s3:Hid (w3.heap.size = w2.heap.size):=by rw [hw3];exact put9_size
  have Kw3:Hid (Keep w w3):=by rw [hw3];exact put9_keep r KwB (by have:=wlt.out;have:=bs.out;omega)
  have CS3:Hid (CS w d q M L2 (fun i=>X i∨(b4≤i∧i < b4 + 5)) w3):=C.write CS2 Kw3.out (by rw [s3.out];exact Nat.le_refl _) (fun k _ hk=>P3 k fun e=>hk (Or.inr (by have:=bs.out;omega)))
  have sx3:Hid (SameX X w1 w3):=fun i hi=>by
    have hi4:=xlt.out i hi
    rw [P3 i (by have:=bs.out;omega),S2.out i (Or.inl hi)]
    exact keep_at KW.out (by have:=hb4.out;omega)
  have RN3:Hid (C14.RN w X w3 A c n Q):=hrn.out.same sx3.out
  have RL3:Hid (RL w X w3 B e m P):=hrl.out.same Kw3.out sx3.out
  have sz3:Hid (b4 + 5≤w3.heap.size):=by
    have:=lt_of_block D10
    have:=s3.out
    have:=bs.out
    show _≤_
    omega
  have lt3:Hid (∀ i,X i→i < w3.heap.size):=fun i hi=>by have:=xlt.out i hi;have:=sz3.out;omega
  have E4:Hid (w3.heap[b4]? = some (.cells (⟨d,A,n,c,B,m,e⟩:RcV).arr 30 (0,0))):=(P3 b4 (by have:=bs.out;omega)).trans D4
  have E5:Hid (w3.heap[b5]? = some (.cells (⟨2,y,nd,ev,VA,vn,vc,V⟩:OpC).arr 37 (0,0))):=(P3 b5 (by have:=bs.out;omega)).trans D5
  have E6:Hid (w3.heap[b6]? = some (.cells zrc.arr 30 (0,0))):=(P3 b6 (by have:=bs.out;omega)).trans D6
  have E8:Hid (w3.heap[b8]? = some (.cells (podB r) 35 (0,0))):=by rw [hw3];exact put9_heap r zpod D8
  have E10:Hid (w3.heap[b10]? = some (.cells (⟨d,A,n,c,B,m,e⟩:RcV).arr 30 (0,0))):=(P3 b10 (by have:=bs.out;omega)).trans D10
  have IR3:Hid (PodIs w3 r):=req_other QR IR P3 (by rw [sW.out];have:=bs.out;omega)
  have QR3:Hid (Req w3 W.heap.size r):=own_blocks1 QR fun g hg=>P3 g (by have:=(QR.lt g hg).1;have:=sW.out;have:=bs.out;omega)
  have hy:=hy.out
  have hnd:=hnd.out
  have hev:=hev.out
  have hd:=hd.out
  have hm20:=hm20.out
  have cR:=Lib.hid (rc_submit d A n c B m e RL3.out hel.out y hy Kw3.out lt3.out (by omega))
  unfold RcPost at cR
  rw [← hcd.out,← hix.out,← hNR.out,← hL2.out] at cR
  obtain ⟨p0,p1,p2,p3,p4,p5,p6,p7,p8,pf⟩:=blk9 D8
  unfold zpod at p0 p1 p2 p3 p4 p5 p6 p7 p8
  clear x0 x1 x2 xf yk yn ye y0 y1 y2 y3 y4 y5 y6 y7 y8 O5h
  obtain ⟨x0,x1,x2,xf⟩:=rc_cells E4.out
  have O5:=cel13_of E5.out
  have yn:=O5.n;have ye:=O5.e
  have y0:=O5.x.e0;have y1:=O5.x.e1;have y2:=O5.x.e2;have y3:=O5.x.e3;have y4:=O5.x.e4;have y5:=O5.x.e5;have y6:=O5.x.e6;have y7:=O5.x.e7;have y8:=O5.x.e8
  clear O5
  rw [hw3] at x0 x1 x2 yn ye y0 y1 y2 y3 y4 y5 y6 y7 y8
  unfold put9 at hw3 x0 x1 x2 yn ye y0 y1 y2 y3 y4 y5 y6 y7 y8
  simp only at x0 x1 x2 yn ye y0 y1 y2 y3 y4 y5 y6 y7 y8
  replace hy:=Lib.hid hy
  replace hnd:=Lib.hid hnd
  replace hev:=Lib.hid hev
  replace hd:=Lib.hid hd
  replace hm20:=Lib.hid hm20
  replace NE0:=Lib.hid NE0
  replace NE1:=Lib.hid NE1
  replace P3:=Lib.hid P3
  replace CS2:=Lib.hid CS2
  replace KwB:=Lib.hid KwB
  replace D4:=Lib.hid D4
  replace D5:=Lib.hid D5
  replace D6:=Lib.hid D6
  replace D8:=Lib.hid D8
  replace D10:=Lib.hid D10
  clear IR QR cP
  unfold RcV.val at cR
  try unfold PodV.val at cR
  try simp only at cR
  go_wp2_with fail
  rw [← hw3]
  replace hw3:=Lib.hid hw3
  refine cR.out.mono ?_
  rintro e' w4 ⟨B',c',n',P',rfl,k4,RL4,el4,FT⟩
  obtain ⟨w5,hw5⟩:∃ w5,w5 = put3 w4 b10 ⟨d,A,n,c,B',n',c'⟩:=⟨_,rfl⟩
  have P5:=put3_x hw5
  have s5:Hid (w5.heap.size = w4.heap.size):=by rw [hw5];exact put3_size _ _ _
  have F10:w4.heap[b10]? = some (.cells (⟨d,A,n,c,B,m,e⟩:RcV).arr 30 (0,0)):=k4.block E10.out
  have Kw5:Hid (Keep w w5):=by rw [hw5];exact put3_keep _ (Kw3.out.trans k4) (by have:=wlt.out;have:=bs.out;omega)
  have G10:Hid (w5.heap[b10]? = some (.cells (⟨d,A,n,c,B',n',c'⟩:RcV).arr 30 (0,0))):=by rw [hw5];exact put3_heap _ _ F10
  have G5:Hid (w5.heap[b5]? = some (.cells (⟨2,y,nd,ev,VA,vn,vc,V⟩:OpC).arr 37 (0,0))):=(P5 b5 (by have:=bs.out;omega)).trans (k4.block E5.out)
  have G6:Hid (w5.heap[b6]? = some (.cells zrc.arr 30 (0,0))):=(P5 b6 (by have:=bs.out;omega)).trans (k4.block E6.out)
  have G8:Hid (w5.heap[b8]? = some (.cells (podB r) 35 (0,0))):=(P5 b8 (by have:=bs.out;omega)).trans (k4.block E8.out)
  have sz4:Hid (w3.heap.size≤w4.heap.size):=k4.size
  have ST5:Hid (St CS w d q M L2 (fun i=>(X i∨(b4≤i∧i < b4 + 5))∨(w3.heap.size≤i∧i < w4.heap.size)) w5 ⟨d,A,n,c,B',n',c'⟩ Q P'):=by
    refine ⟨C.write (C.more CS3.out k4 fun i hi=>hi) Kw5.out (by rw [s5.out];exact Nat.le_refl _) (fun k _ hk=>P5 k fun e=>hk (Or.inl (Or.inr (by have:=bs.out;omega)))),rfl,?_,hem.out,hdn.out,?_,el4⟩
    · exact (((RN3.out.keep k4).same fun i hi=>P5 i (by have:=xlt.out i hi;have:=bs.out;omega))).less fun i hi=>Or.inl (Or.inl hi)
    · exact (RL4.same Kw5.out fun i hi=>P5 i (by
        rcases hi with hi | hi
        · have:=xlt.out i hi
          have:=bs.out
          omega
        · have:=sz3.out
          have:=bs.out
          omega)).less fun i hi=>hi.imp (fun hi=>Or.inl hi) (fun hi=>hi)
  have S5:Hid (SameX X w1 w5):=fun i hi=>by
    have hi4:=xlt.out i hi
    rw [P5 i (by have:=bs.out;omega),← sx3.out i hi]
    exact keep_at k4 (lt3.out i hi)
  have PR:Hid (RdPods w5 B' n' P'):=ST5.out.rl.rd
  have IR5:Hid (PodIs w5 r):=req_other (own_keep QR3.out k4) (IR3.out.keep k4) P5 (by have:=sW.out;have:=bs.out;omega)
  have cA:Hid (∀ W,Keep w5 W→Calls Tryz.prog 16 #[(⟨d,A,n,c,B',n',c'⟩:RcV).val,.int .i64 y.k,.int .i64 cd] W (AfPost W P' n' y.k cd)):=fun W k=>after_fn d A n c B' n' c' P' y.k cd W (PR.out.keep k)
  have cT:Hid (∀ W,Keep w5 W→Calls Tryz.prog 24 #[fltA cd ix,.int .i64 cd,.int .i64 ix] W fun e w'=>e = .returned (.bool true)∧Keep W w'):=fun W k=>told_yes cd ix W (hg.keep (Kw5.out.trans k))
  obtain ⟨x0,x1,x2,xf⟩:=rc_cells F10
  simp only at x0 x1 x2
  unfold put3 at hw5
  simp only at hw5
  have SAME:Hid (∀ z,(¬ cd = 0∨findN P' y.k n' < 0→z = zpod)→(cd = 0→∀ j:Nat,j < n'→findN P' y.k n' = (j:Int)→z = P' j)→SameV r z∧PodIs w5 z):=fun z hz1 hz2=>by
    by_cases hc:cd = 0
    · obtain ⟨t,ht,hft,hnt⟩:=FT hc
      have e:=hz2 hc t ht hft
      rw [e]
      exact ⟨same_nm ((NE0.out hc).trans hnt.symm),PR.out.is t ht⟩
    · have e:=hz1 (Or.inl hc)
      rw [e]
      exact ⟨same_nm (NE1.out hc),zpod_is _⟩
  have fin:Hid (∀ w8,Keep w5 w8→StPost CS w d q M L2 X w1 (.returned (.tuple #[(⟨d,A,n,c,B',n',c'⟩:RcV).val,.bool true])) (put3 w8 b6 ⟨d,A,n,c,B',n',c'⟩)∧(put3 w8 b6 ⟨d,A,n,c,B',n',c'⟩).heap[b6]? = some (.cells (⟨d,A,n,c,B',n',c'⟩:RcV).arr 30 (0,0))):=fun w8 k8=>by
    have ST8:=ST5.out.keep C k8
    have P9:∀ k,k≠b6→(put3 w8 b6 ⟨d,A,n,c,B',n',c'⟩).heap[k]? = w8.heap[k]?:=fun k hk=>put3_block _ hk
    have s8:=k8.size
    have b6x:=bs.out
    have Kw9:Keep w (put3 w8 b6 ⟨d,A,n,c,B',n',c'⟩):=put3_keep _ (Kw5.out.trans k8) (by have:=wlt.out;omega)
    refine ⟨⟨_,Q,P',_,rfl,⟨C.write ST8.o Kw9 (by rw [put3_size];exact Nat.le_refl _) (fun k _ hk=>P9 k fun e=>hk (Or.inl (Or.inr (by omega)))),rfl,?_,ST8.em,ST8.dn,?_,ST8.el⟩,fun i hi=>Or.inl (Or.inl hi),fun i hi=>?_⟩,put3_heap _ _ (k8.block G6.out)⟩
    · exact ((((RN3.out.keep k4).same fun i hi=>P5 i (by have:=xlt.out i hi;omega)).keep k8).same fun i hi=>P9 i (by have:=xlt.out i hi;omega)).less fun i hi=>Or.inl (Or.inl hi)
    · have R5:RL w (fun i=>X i∨(w3.heap.size≤i∧i < w4.heap.size)) w5 B' c' n' P':=RL4.same Kw5.out fun i hi=>P5 i (by
        rcases hi with hi | hi
        · have:=xlt.out i hi
          omega
        · have:=sz3.out
          omega)
      exact ((R5.keep k8).same Kw9 fun i hi=>P9 i (by
        rcases hi with hi | hi
        · have:=xlt.out i hi
          omega
        · have:=sz3.out
          omega)).less fun i hi=>hi.imp (fun hi=>Or.inl hi) (fun hi=>hi)
    · have hi4:=xlt.out i hi
      rw [P9 i (by omega),← S5.out i hi]
      exact keep_at k8 (by have:=lt3.out i hi;have:=sz4.out;have:=s5.out;omega)
  replace FT:=Lib.hid FT
  replace P5:=Lib.hid P5
  replace k4:=Lib.hid k4
  replace RL4:=Lib.hid RL4
  replace el4:=Lib.hid el4
  replace F10:=Lib.hid F10
  clear yn ye y0 y1 y2 y3 y4 y5 y6 y7 y8 p0 p1 p2 p3 p4 p5 p6 p7 p8 pf cR
  go_upto_region 27 with fail
  rw [← hw5]
  replace hw5:=Lib.hid hw5
  clear x0 x1 x2 xf
  obtain ⟨x0,x1,x2,xf⟩:=rc_cells G10.out
  simp only at x0 x1 x2
  have yk:w5.cell? ⟨b5,1,none⟩ = some (.int .i64 y.k):=(cel13_of G5.out).x.e0
  obtain ⟨r0,r1,r2,r3,r4,r5,r6,r7,r8,rf⟩:=blk9 G8.out
  unfold RcV.val at cA fin
  simp only at cA fin
  have HELD:∀ Wz,Keep w5 Wz→(Wz.cell? ⟨b10,0,none⟩ = some (.int .i64 d)∧Wz.cell? ⟨b10,1,none⟩ = some (.slice A n c)∧Wz.cell? ⟨b10,2,none⟩ = some (.slice B' n' c')∧Wz.cell? ⟨b5,1,none⟩ = some (.int .i64 y.k)∧Wz.cell? ⟨b8,0,none⟩ = some (.int .i64 r.k)∧Wz.cell? ⟨b8,1,none⟩ = some (.int .i64 r.p)∧Wz.cell? ⟨b8,2,none⟩ = some (.bool r.f)∧Wz.cell? ⟨b8,3,none⟩ = some (.int .i64 r.g)∧Wz.cell? ⟨b8,4,none⟩ = some (.slice r.A r.m r.c)∧Wz.cell? ⟨b8,5,none⟩ = some (.int .i64 r.a)∧Wz.cell? ⟨b8,6,none⟩ = some (.int .i64 r.h)∧Wz.cell? ⟨b8,7,none⟩ = some (.int .i64 r.d)∧Wz.cell? ⟨b8,8,none⟩ = some (.int .i64 r.t)):=fun Wz KK=>⟨KK.cell x0,KK.cell x1,KK.cell x2,KK.cell yk,KK.cell r0,KK.cell r1,KK.cell r2,KK.cell r3,KK.cell r4,KK.cell r5,KK.cell r6,KK.cell r7,KK.cell r8⟩
  refine wp_region_held_drew (S:=fun w'=>w'.cell? ⟨b10,0,none⟩ = some (.int .i64 d)∧w'.cell? ⟨b10,1,none⟩ = some (.slice A n c)∧w'.cell? ⟨b10,2,none⟩ = some (.slice B' n' c')∧w'.cell? ⟨b5,1,none⟩ = some (.int .i64 y.k)∧w'.cell? ⟨b8,0,none⟩ = some (.int .i64 r.k)∧w'.cell? ⟨b8,1,none⟩ = some (.int .i64 r.p)∧w'.cell? ⟨b8,2,none⟩ = some (.bool r.f)∧w'.cell? ⟨b8,3,none⟩ = some (.int .i64 r.g)∧w'.cell? ⟨b8,4,none⟩ = some (.slice r.A r.m r.c)∧w'.cell? ⟨b8,5,none⟩ = some (.int .i64 r.a)∧w'.cell? ⟨b8,6,none⟩ = some (.int .i64 r.h)∧w'.cell? ⟨b8,7,none⟩ = some (.int .i64 r.d)∧w'.cell? ⟨b8,8,none⟩ = some (.int .i64 r.t)) (by kernel_rfl) ?_ (fun hHeld=>?_)
  · exact HELD _ (by repeat (with_reducible first | exact Keep.refl w5 | apply Keep.alloc | apply Keep.drew | apply Keep.drewN))
  refine wpAnyH_take (i:=0) (v:=.agg #[.int .i64 d,.slice A n c,.slice B' n' c']) rfl (by kernel_rfl) (by kernel_rfl) (by kernel_rfl) (fun _ _ _ h=>h) (Or.inl ⟨by rfl,fun Wz hW=>by obtain ⟨a0,a1,a2,ak,u0,u1,u2,u3,u4,u5,u6,u7,u8⟩:=hW;go_simp⟩) hHeld ?_
  simp only [Act.put,List.getElem_toArray,List.getElem_cons_zero,List.setIfInBounds_toArray,List.set_cons_zero,List.set_cons_succ]
  refine wpAnyH_take (i:=1) (v:=fltA cd ix) rfl (by kernel_rfl) (by kernel_rfl) (by kernel_rfl) (fun _ _ _ h=>h) (Or.inl ⟨by rfl,fun Wz hW=>by obtain ⟨a0,a1,a2,ak,u0,u1,u2,u3,u4,u5,u6,u7,u8⟩:=hW;go_simp⟩) hHeld ?_
  simp only [Act.put,List.getElem_toArray,List.getElem_cons_succ,List.getElem_cons_zero,List.setIfInBounds_toArray,List.set_cons_zero,List.set_cons_succ]
  refine wpAnyH_take (i:=2) (v:=.int .i64 cd) rfl (by kernel_rfl) (by kernel_rfl) (by kernel_rfl) (fun _ _ _ h=>h) (Or.inl ⟨by rfl,fun Wz hW=>by obtain ⟨a0,a1,a2,ak,u0,u1,u2,u3,u4,u5,u6,u7,u8⟩:=hW;go_simp⟩) hHeld ?_
  simp only [Act.put,List.getElem_toArray,List.getElem_cons_succ,List.getElem_cons_zero,List.setIfInBounds_toArray,List.set_cons_zero,List.set_cons_succ]
  refine wpAnyH_take (i:=3) (v:=.int .i64 ix) rfl (by kernel_rfl) (by kernel_rfl) (by kernel_rfl) (fun _ _ _ h=>h) (Or.inl ⟨by rfl,fun Wz hW=>by obtain ⟨a0,a1,a2,ak,u0,u1,u2,u3,u4,u5,u6,u7,u8⟩:=hW;go_simp⟩) hHeld ?_
  simp only [Act.put,List.getElem_toArray,List.getElem_cons_succ,List.getElem_cons_zero,List.setIfInBounds_toArray,List.set_cons_zero,List.set_cons_succ]
  refine wpAnyH_ready (rs:=[4]) (by kernel_rfl) (by simp) ?_
  refine AllReadyH.cons rfl (fun K hK=>?_) AllReadyH.nil
  simp only [List.getElem_toArray,List.getElem_cons_succ,List.getElem_cons_zero]
  rw [if_pos (by rfl)]
  go_simp
  refine (cT.out _ (by repeat (with_reducible first | exact Keep.refl w5 | apply Keep.alloc | apply Keep.drew | apply Keep.drewN))).mono ?_
  rintro e' w6 ⟨rfl,k6⟩
  have K6:Hid (Keep w5 w6):=(by exact (Keep.refl _).drew:Keep w5 _).trans k6
  replace k6:=Lib.hid k6
  go_wp2_with fail
  refine hK.out _ _ ?_ (fun hHeld=>?_)
  · exact HELD _ K6.out
  clear hK K
  try simp only [Act.put,List.getElem_toArray,List.getElem_cons_succ,List.getElem_cons_zero,List.setIfInBounds_toArray,List.set_cons_zero,List.set_cons_succ]
  refine wpAnyH_take (i:=5) (v:=.bool true) rfl (by kernel_rfl) (by kernel_rfl) (by kernel_rfl) (fun _ _ _ h=>h) (Or.inl ⟨by rfl,fun Wz hW=>by obtain ⟨a0,a1,a2,ak,u0,u1,u2,u3,u4,u5,u6,u7,u8⟩:=hW;go_simp⟩) hHeld ?_
  simp only [Act.put,List.getElem_toArray,List.getElem_cons_succ,List.getElem_cons_zero,List.setIfInBounds_toArray,List.set_cons_zero,List.set_cons_succ]
  refine wpAnyH_take (i:=6) (v:=.agg #[.int .i64 r.k,.int .i64 r.p,.bool r.f,.int .i64 r.g,.slice r.A r.m r.c,.int .i64 r.a,.int .i64 r.h,.int .i64 r.d,.int .i64 r.t]) rfl (by kernel_rfl) (by kernel_rfl) (by kernel_rfl) (fun _ _ _ h=>h) (Or.inl ⟨by rfl,fun Wz hW=>by obtain ⟨a0,a1,a2,ak,u0,u1,u2,u3,u4,u5,u6,u7,u8⟩:=hW;go_simp⟩) hHeld ?_
  simp only [Act.put,List.getElem_toArray,List.getElem_cons_succ,List.getElem_cons_zero,List.setIfInBounds_toArray,List.set_cons_zero,List.set_cons_succ]
  refine wpAnyH_take (i:=7) (v:=.agg #[.int .i64 d,.slice A n c,.slice B' n' c']) rfl (by kernel_rfl) (by kernel_rfl) (by kernel_rfl) (fun _ _ _ h=>h) (Or.inl ⟨by rfl,fun Wz hW=>by obtain ⟨a0,a1,a2,ak,u0,u1,u2,u3,u4,u5,u6,u7,u8⟩:=hW;go_simp⟩) hHeld ?_
  simp only [Act.put,List.getElem_toArray,List.getElem_cons_succ,List.getElem_cons_zero,List.setIfInBounds_toArray,List.set_cons_zero,List.set_cons_succ]
  refine wpAnyH_take (i:=8) (v:=.pointer (some ⟨b5,1,none⟩)) rfl (by kernel_rfl) (by kernel_rfl) (by kernel_rfl) (fun _ _ _ h=>h) (Or.inl ⟨by rfl,fun Wz hW=>by obtain ⟨a0,a1,a2,ak,u0,u1,u2,u3,u4,u5,u6,u7,u8⟩:=hW;go_simp⟩) hHeld ?_
  simp only [Act.put,List.getElem_toArray,List.getElem_cons_succ,List.getElem_cons_zero,List.setIfInBounds_toArray,List.set_cons_zero,List.set_cons_succ]
  refine wpAnyH_take (i:=9) (v:=.pointer (some ⟨b5,1,none⟩)) rfl (by kernel_rfl) (by kernel_rfl) (by kernel_rfl) (fun _ _ _ h=>h) (Or.inl ⟨by rfl,fun Wz hW=>by obtain ⟨a0,a1,a2,ak,u0,u1,u2,u3,u4,u5,u6,u7,u8⟩:=hW;go_simp⟩) hHeld ?_
  simp only [Act.put,List.getElem_toArray,List.getElem_cons_succ,List.getElem_cons_zero,List.setIfInBounds_toArray,List.set_cons_zero,List.set_cons_succ]
  refine wpAnyH_take (i:=10) (v:=.int .i64 y.k) rfl (by kernel_rfl) (by kernel_rfl) (by kernel_rfl) (fun _ _ _ h=>h) (Or.inl ⟨by rfl,fun Wz hW=>by obtain ⟨a0,a1,a2,ak,u0,u1,u2,u3,u4,u5,u6,u7,u8⟩:=hW;go_simp⟩) hHeld ?_
  simp only [Act.put,List.getElem_toArray,List.getElem_cons_succ,List.getElem_cons_zero,List.setIfInBounds_toArray,List.set_cons_zero,List.set_cons_succ]
  refine wpAnyH_take (i:=11) (v:=.int .i64 cd) rfl (by kernel_rfl) (by kernel_rfl) (by kernel_rfl) (fun _ _ _ h=>h) (Or.inl ⟨by rfl,fun Wz hW=>by obtain ⟨a0,a1,a2,ak,u0,u1,u2,u3,u4,u5,u6,u7,u8⟩:=hW;go_simp⟩) hHeld ?_
  simp only [Act.put,List.getElem_toArray,List.getElem_cons_succ,List.getElem_cons_zero,List.setIfInBounds_toArray,List.set_cons_zero,List.set_cons_succ]
  refine wpAnyH_ready (rs:=[12]) (by kernel_rfl) (by simp) ?_
  refine AllReadyH.cons rfl (fun K hK=>?_) AllReadyH.nil
  simp only [List.getElem_toArray,List.getElem_cons_succ,List.getElem_cons_zero]
  rw [if_pos (by rfl)]
  go_simp
  refine (cA.out _ K6.out).mono ?_
  rintro e' w7 ⟨z,rfl,k7,hz1,hz2⟩
  have K7:Hid (Keep w5 w7):=K6.out.trans k7
  replace k7:=Lib.hid k7
  have SZ:=Lib.hid (SAME.out z hz1 hz2)
  clear hz1 hz2
  have cY:Hid (∀ W,Keep w5 W→Calls Tryz.prog 15 #[r.val,z.val] W fun e w'=>e = .returned (.bool true)∧Keep W w'):=fun W k=>(rsamepod_fn r z W SZ.out.1 (IR5.out.keep k) (SZ.out.2.keep k)).mono fun _ _ h=>⟨h.1,h.2.keep⟩
  unfold PodV.val at cY ⊢
  go_wp2_with fail
  refine hK.out _ _ ?_ (fun hHeld=>?_)
  · exact HELD _ K7.out
  clear hK K
  try simp only [Act.put,List.getElem_toArray,List.getElem_cons_succ,List.getElem_cons_zero,List.setIfInBounds_toArray,List.set_cons_zero,List.set_cons_succ]
  refine wpAnyH_ready (rs:=[13]) (by kernel_rfl) (by simp) ?_
  refine AllReadyH.cons rfl (fun K hK=>?_) AllReadyH.nil
  simp only [List.getElem_toArray,List.getElem_cons_succ,List.getElem_cons_zero]
  rw [if_pos (by rfl)]
  go_simp
  refine (cY.out _ K7.out).mono ?_
  rintro e' w8 ⟨rfl,k8⟩
  have K8:Hid (Keep w5 w8):=K7.out.trans k8
  replace k8:=Lib.hid k8
  go_wp2_with fail
  refine hK.out _ _ ?_ (fun hHeld=>?_)
  · exact HELD _ K8.out
  clear hK K
  try simp only [Act.put,List.getElem_toArray,List.getElem_cons_succ,List.getElem_cons_zero,List.setIfInBounds_toArray,List.set_cons_zero,List.set_cons_succ]
  refine wpAnyH_take (i:=14) (v:=.bool true) rfl (by kernel_rfl) (by kernel_rfl) (by kernel_rfl) (fun _ _ _ h=>h) (Or.inl ⟨by rfl,fun Wz hW=>by obtain ⟨a0,a1,a2,ak,u0,u1,u2,u3,u4,u5,u6,u7,u8⟩:=hW;go_simp⟩) hHeld ?_
  simp only [Act.put,List.getElem_toArray,List.getElem_cons_succ,List.getElem_cons_zero,List.setIfInBounds_toArray,List.set_cons_zero,List.set_cons_succ]
  refine wpAnyH_ready (rs:=[15]) (by kernel_rfl) (by simp) ?_
  refine AllReadyH.cons rfl (fun K hK=>?_) AllReadyH.nil
  simp only [List.getElem_toArray,List.getElem_cons_succ,List.getElem_cons_zero]
  rw [if_pos (by rfl)]
  obtain ⟨t0,t1,t2,tf⟩:=rc_cells (K8.out.block G6.out)
  unfold zrc at t0 t1 t2
  simp only at t0 t1 t2
  go_simp
  refine hK.out _ _ ?_ (fun hHeld=>?_)
  · exact (by obtain ⟨a0,a1,a2,ak,u0,u1,u2,u3,u4,u5,u6,u7,u8⟩:=HELD _ K8.out;have P9:∀ k,k≠b6→(put3 w8 b6 ⟨d,A,n,c,B',n',c'⟩).heap[k]? = w8.heap[k]?:=fun k hk=>put3_block _ hk;have q10:=P9 b10 (by have:=bs.out;omega);have q5:=P9 b5 (by have:=bs.out;omega);have q8:=P9 b8 (by have:=bs.out;omega);simp only [put3] at q10 q5 q8;exact ⟨cell_same a0 q10,cell_same a1 q10,cell_same a2 q10,cell_same ak q5,cell_same u0 q8,cell_same u1 q8,cell_same u2 q8,cell_same u3 q8,cell_same u4 q8,cell_same u5 q8,cell_same u6 q8,cell_same u7 q8,cell_same u8 q8⟩)
  clear hK K
  try simp only [Act.put,List.getElem_toArray,List.getElem_cons_succ,List.getElem_cons_zero,List.setIfInBounds_toArray,List.set_cons_zero,List.set_cons_succ]
  refine wpAnyH_take (i:=16) (v:=.bool true) rfl (by kernel_rfl) (by kernel_rfl) (by kernel_rfl) (fun _ _ _ h=>h) (Or.inl ⟨by rfl,fun Wz hW=>by obtain ⟨a0,a1,a2,ak,u0,u1,u2,u3,u4,u5,u6,u7,u8⟩:=hW;go_simp⟩) hHeld ?_
  simp only [Act.put,List.getElem_toArray,List.getElem_cons_succ,List.getElem_cons_zero,List.setIfInBounds_toArray,List.set_cons_zero,List.set_cons_succ]
  refine wpAnyH_done (by kernel_rfl) ?_ _
  go_wp2_with fail
  obtain ⟨F1,F2⟩:=fin.out w8 K8.out
  obtain ⟨e0,e1,e2,_⟩:=rc_cells F2
  simp only [put3] at *
  refine bodyPost_ret (v:=.tuple #[.agg #[.int .i64 d,.slice A n c,.slice B' n' c'],.bool true]) (by simp [results,Tryz.results11,go_sem,e0,e1,e2]) rfl F1
end Go.Proofs.YtnclkefddkgojaaGreatDoor.T14

