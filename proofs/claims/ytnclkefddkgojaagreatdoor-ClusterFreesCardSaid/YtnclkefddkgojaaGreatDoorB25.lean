/-
  The law's same: true, where the cluster and the reference's have the same nodes and pods. Conditions: at most 100 nodes and pods; the dimension is at most 64.
-/
import Derived.Test.YtnclkefddkgojaaGreatDoorB18
namespace Go.Proofs.YtnclkefddkgojaaGreatDoor.T14
open Go.RowKit Go.Sort Go.Lib V12 T13
theorem nodes_same {M:List NV} {d n:Nat} {P Q:Nat→C14.NdC} (h:(C14.lst P n).map nv = M) (k:(C14.lst Q n).map nv = M) (hp:∀ j,j < n→(P j).n = d) (hq:∀ j,j < n→(Q j).n = d):snB n P n Q = true:=by
  unfold snB
  refine decide_eq_true ⟨rfl,fun j hj=>?_⟩
  have e:=congrArg (fun l=>l[j]?) (h.trans k.symm)
  simp only [List.getElem?_map,C14.lst_get hj,Option.map_some] at e
  have e2:=Option.some.inj e
  unfold nv at e2
  simp only [NV.mk.injEq] at e2
  refine ⟨e2.1,?_⟩
  unfold sameB
  exact decide_eq_true ⟨by rw [hp j hj,hq j hj],fun i _=>by rw [e2.2]⟩
set_option maxRecDepth 100000 in
set_option maxHeartbeats 32000000 in
theorem same_true {CS:PredC} (C:Con CS) {w:World} {d q:Nat} {M:List NV} {L:List PodV} {X:Nat→Prop} {w1:World} {x:RcV} {Q:Nat→C14.NdC} {P:Nat→PodV} (h:St CS w d q M L X w1 x Q P) (hd:d≤64) (hmn:x.n≤100) (hmm:x.m≤100) :
    Calls Tryz.prog 12 #[.pointer (some ⟨q,0,none⟩),x.val] w1 fun e w'=>e = .returned (.bool true)∧Keep w1 w':=by
  have lM:=h.lenM
  have lL:=h.lenL
  have hxd:=h.xd
  have RC:=h.rdc C
  obtain ⟨xd,A,n,c,B,m,e⟩:=x
  simp only at hxd lM lL hmn hmm RC ⊢
  subst hxd
  obtain ⟨W,hW⟩:∃ W,W = w1.alloc (.cells (⟨d,A,n,c,B,m,e⟩:RcV).arr 30):=⟨_,rfl⟩
  obtain ⟨b3,hb3⟩:∃ b3,b3 = w1.heap.size:=⟨_,rfl⟩
  have KW:Hid (Keep w1 W):=by rw [hW];exact Keep.one _ _
  have A3:Hid (W.heap[b3]? = some (.cells (⟨d,A,n,c,B,m,e⟩:RcV).arr 30 (0,0))):=by rw [hW,hb3];exact heap_alloc_new _ _
  have CW:Hid (CS w d q M L X W):=C.keep h.o KW.out
  have RCW:Hid (C14.RdC W A n Q):=RC.keep KW.out
  have RPW:Hid (RdPods W B m P):=h.rl.rd.keep KW.out
  have hem:Hid ((C14.lst Q n).map nv = M):=h.em
  have hdn:Hid (∀ j,j < n→(Q j).n = d):=h.dn
  have hel:Hid ((lst P m).map nm = L):=h.el
  have hok:Hid (Ok d M L):=C.ok h.o
  have cN:Hid (∀ Wz,Keep W Wz→Calls Tryz.prog 17 #[.pointer (some ⟨q,0,none⟩)] Wz fun e' w'=>∃ NA nc,e' = .returned (.slice NA n nc)∧NdsAre w' d NA M∧Keep W w'):=fun Wz k=>by
    refine (C.nodes (C.keep CW.out k) (by omega)).mono ?_
    rintro e' w' ⟨NA,nc,h1,h2,h3⟩
    rw [lM] at h1
    exact ⟨NA,nc,h1,h2,k.trans h3⟩
  have cSN:Hid (∀ Wz NA nc,NdsAre Wz d NA M→Keep W Wz→Calls Tryz.prog 44 #[.slice NA n nc,.slice A n c] Wz fun e' w'=>e' = .returned (.bool true)∧Keep Wz w'):=fun Wz NA nc hN k=>by
    obtain ⟨Q0,h1,h2,h3⟩:=hN
    rw [lM] at h1 h2 h3
    refine (rsamen_any NA A n n nc c Q0 Q Wz h1 (RCW.out.keep k)).mono ?_
    rintro e' w' ⟨h4,h5⟩
    rw [nodes_same h2 hem.out h3 hdn.out] at h4
    exact ⟨h4,h5⟩
  have cPo:Hid (∀ Wz,Keep W Wz→Calls Tryz.prog 18 #[.pointer (some ⟨q,0,none⟩)] Wz fun e' w'=>∃ PA pc S,e' = .returned (.slice PA m pc)∧RdPods w' PA m S∧(lst S m).map nm = L∧Keep W w'):=fun Wz k=>by
    refine (C.pods (C.keep CW.out k) (by omega)).mono ?_
    rintro e' w' ⟨v,S,h1,h2,h3,h4⟩
    obtain ⟨PA,pc,rfl,h5⟩:=h2.rd (by omega)
    rw [lL] at h1 h3 h5
    exact ⟨PA,pc,S,h1,h5,h3,k.trans h4⟩
  have cSP:Hid (∀ Wz PA pc S,RdPods Wz PA m S→(lst S m).map nm = L→Keep W Wz→Calls Tryz.prog 39 #[.slice PA m pc,.slice B m e] Wz fun e' w'=>e' = .returned (.bool true)∧Keep Wz w'):=fun Wz PA pc S h1 h2 k=>rsame6_fn PA B m pc e S P Wz h1 (RPW.out.keep k) (same_of14 (h2.trans hel.out.symm))
  have cD:Hid (∀ Wz,Keep W Wz→Calls Tryz.prog 34 #[.pointer (some ⟨q,0,none⟩)] Wz fun e' w'=>e' = .returned (.int .i64 d)∧Keep Wz w'):=fun Wz k=>C.dims (C.keep CW.out k)
  obtain ⟨x0,x1,x2,xf⟩:=rc_cells A3.out
  simp only at x0 x1 x2
  replace lM:=Lib.hid lM
  replace lL:=Lib.hid lL
  replace hd:=Lib.hid hd
  clear h RC
  unfold RcV.arr at hW
  unfold RcV.val
  simp only at hW ⊢
  go_enter Tryz.func12,Tryz.ntmps12
  go_upto_region 1 with fail
  rw [← hW,← hb3]
  replace hW:=Lib.hid hW
  replace hb3:=Lib.hid hb3
  have HELD:∀ Wz,Keep W Wz→(Wz.cell? ⟨b3,0,none⟩ = some (.int .i64 d)∧Wz.cell? ⟨b3,1,none⟩ = some (.slice A n c)∧Wz.cell? ⟨b3,2,none⟩ = some (.slice B m e)):=fun Wz KK=>⟨KK.cell x0,KK.cell x1,KK.cell x2⟩
  refine wp_region_held_drew (S:=fun w'=>w'.cell? ⟨b3,0,none⟩ = some (.int .i64 d)∧w'.cell? ⟨b3,1,none⟩ = some (.slice A n c)∧w'.cell? ⟨b3,2,none⟩ = some (.slice B m e)) (by kernel_rfl) ?_ (fun hHeld=>?_)
  · exact HELD _ (by repeat (with_reducible first | exact Keep.refl W | apply Keep.alloc | apply Keep.drew | apply Keep.drewN))
  refine wpAnyH_take (i:=0) (v:=.pointer (some ⟨q,0,none⟩)) rfl (by kernel_rfl) (by kernel_rfl) (by kernel_rfl) (fun _ _ _ h=>h) (Or.inl ⟨by rfl,fun Wz hW=>by obtain ⟨a0,a1,a2⟩:=hW;go_simp⟩) hHeld ?_
  simp only [Act.put,List.getElem_toArray,List.getElem_cons_zero,List.setIfInBounds_toArray,List.set_cons_zero,List.set_cons_succ]
  refine wpAnyH_take (i:=2) (v:=.pointer (some ⟨b3,1,none⟩)) rfl (by kernel_rfl) (by kernel_rfl) (by kernel_rfl) (fun _ _ _ h=>h) (Or.inl ⟨by rfl,fun Wz hW=>by obtain ⟨a0,a1,a2⟩:=hW;go_simp⟩) hHeld ?_
  simp only [Act.put,List.getElem_toArray,List.getElem_cons_succ,List.getElem_cons_zero,List.setIfInBounds_toArray,List.set_cons_zero,List.set_cons_succ]
  refine wpAnyH_take (i:=3) (v:=.slice A n c) rfl (by kernel_rfl) (by kernel_rfl) (by kernel_rfl) (fun _ _ _ h=>h) (Or.inl ⟨by rfl,fun Wz hW=>by obtain ⟨a0,a1,a2⟩:=hW;go_simp⟩) hHeld ?_
  simp only [Act.put,List.getElem_toArray,List.getElem_cons_succ,List.getElem_cons_zero,List.setIfInBounds_toArray,List.set_cons_zero,List.set_cons_succ]
  refine wpAnyH_ready (rs:=[1]) (by kernel_rfl) (by simp) ?_
  refine AllReadyH.cons rfl (fun K hK=>?_) AllReadyH.nil
  simp only [List.getElem_toArray,List.getElem_cons_succ,List.getElem_cons_zero]
  rw [if_pos (by rfl)]
  go_simp
  refine (cN.out _ (by repeat (with_reducible first | exact Keep.refl W | apply Keep.alloc | apply Keep.drew | apply Keep.drewN))).mono ?_
  rintro e' w2 ⟨NA,nc,rfl,NI,K2⟩
  have K2:=Lib.hid K2
  have NI:=Lib.hid NI
  go_wp2_with fail
  refine hK.out _ _ ?_ (fun hHeld=>?_)
  · exact HELD _ K2.out
  clear hK K
  try simp only [Act.put,List.getElem_toArray,List.getElem_cons_succ,List.getElem_cons_zero,List.setIfInBounds_toArray,List.set_cons_zero,List.set_cons_succ]
  refine wpAnyH_ready (rs:=[4]) (by kernel_rfl) (by simp) ?_
  refine AllReadyH.cons rfl (fun K hK=>?_) AllReadyH.nil
  simp only [List.getElem_toArray,List.getElem_cons_succ,List.getElem_cons_zero]
  rw [if_pos (by rfl)]
  go_simp
  refine (cSN.out _ NA nc NI.out K2.out).mono ?_
  rintro e' w4 ⟨rfl,k4⟩
  have K4:Hid (Keep W w4):=K2.out.trans k4
  replace k4:=Lib.hid k4
  go_wp2_with fail
  refine hK.out _ _ ?_ (fun hHeld=>?_)
  · exact HELD _ K4.out
  clear hK K
  try simp only [Act.put,List.getElem_toArray,List.getElem_cons_succ,List.getElem_cons_zero,List.setIfInBounds_toArray,List.set_cons_zero,List.set_cons_succ]
  refine wpAnyH_take (i:=5) (v:=.bool false) rfl (by kernel_rfl) (by kernel_rfl) (by kernel_rfl) (fun _ _ _ h=>h) (Or.inl ⟨by rfl,fun Wz hW=>by obtain ⟨a0,a1,a2⟩:=hW;go_simp⟩) hHeld ?_
  simp only [Act.put,List.getElem_toArray,List.getElem_cons_succ,List.getElem_cons_zero,List.setIfInBounds_toArray,List.set_cons_zero,List.set_cons_succ]
  refine wpAnyH_take (i:=6) (v:=.bool false) rfl (by kernel_rfl) (by kernel_rfl) (by kernel_rfl) (fun _ _ _ h=>h) (Or.inl ⟨by rfl,fun Wz hW=>by obtain ⟨a0,a1,a2⟩:=hW;go_simp⟩) hHeld ?_
  simp only [Act.put,List.getElem_toArray,List.getElem_cons_succ,List.getElem_cons_zero,List.setIfInBounds_toArray,List.set_cons_zero,List.set_cons_succ]
  refine wpAnyH_take (i:=7) (v:=.pointer (some ⟨q,0,none⟩)) rfl (by kernel_rfl) (by kernel_rfl) (by kernel_rfl) (fun _ _ _ h=>h) (Or.inl ⟨by rfl,fun Wz hW=>by obtain ⟨a0,a1,a2⟩:=hW;go_simp⟩) hHeld ?_
  simp only [Act.put,List.getElem_toArray,List.getElem_cons_succ,List.getElem_cons_zero,List.setIfInBounds_toArray,List.set_cons_zero,List.set_cons_succ]
  refine wpAnyH_take (i:=9) (v:=.pointer (some ⟨b3,2,none⟩)) rfl (by kernel_rfl) (by kernel_rfl) (by kernel_rfl) (fun _ _ _ h=>h) (Or.inl ⟨by rfl,fun Wz hW=>by obtain ⟨a0,a1,a2⟩:=hW;go_simp⟩) hHeld ?_
  simp only [Act.put,List.getElem_toArray,List.getElem_cons_succ,List.getElem_cons_zero,List.setIfInBounds_toArray,List.set_cons_zero,List.set_cons_succ]
  refine wpAnyH_take (i:=10) (v:=.slice B m e) rfl (by kernel_rfl) (by kernel_rfl) (by kernel_rfl) (fun _ _ _ h=>h) (Or.inl ⟨by rfl,fun Wz hW=>by obtain ⟨a0,a1,a2⟩:=hW;go_simp⟩) hHeld ?_
  simp only [Act.put,List.getElem_toArray,List.getElem_cons_succ,List.getElem_cons_zero,List.setIfInBounds_toArray,List.set_cons_zero,List.set_cons_succ]
  refine wpAnyH_ready (rs:=[8]) (by kernel_rfl) (by simp) ?_
  refine AllReadyH.cons rfl (fun K hK=>?_) AllReadyH.nil
  simp only [List.getElem_toArray,List.getElem_cons_succ,List.getElem_cons_zero]
  rw [if_pos (by rfl)]
  go_simp
  refine (cPo.out _ K4.out).mono ?_
  rintro e' w8 ⟨PA,pc,S,rfl,RP,SL,K8⟩
  have K8:=Lib.hid K8
  have RP:=Lib.hid RP
  have SL:=Lib.hid SL
  go_wp2_with fail
  refine hK.out _ _ ?_ (fun hHeld=>?_)
  · exact HELD _ K8.out
  clear hK K
  try simp only [Act.put,List.getElem_toArray,List.getElem_cons_succ,List.getElem_cons_zero,List.setIfInBounds_toArray,List.set_cons_zero,List.set_cons_succ]
  refine wpAnyH_ready (rs:=[11]) (by kernel_rfl) (by simp) ?_
  refine AllReadyH.cons rfl (fun K hK=>?_) AllReadyH.nil
  simp only [List.getElem_toArray,List.getElem_cons_succ,List.getElem_cons_zero]
  rw [if_pos (by rfl)]
  go_simp
  refine (cSP.out _ PA pc S RP.out SL.out K8.out).mono ?_
  rintro e' w11 ⟨rfl,k11⟩
  have K11:Hid (Keep W w11):=K8.out.trans k11
  replace k11:=Lib.hid k11
  go_wp2_with fail
  refine hK.out _ _ ?_ (fun hHeld=>?_)
  · exact HELD _ K11.out
  clear hK K
  try simp only [Act.put,List.getElem_toArray,List.getElem_cons_succ,List.getElem_cons_zero,List.setIfInBounds_toArray,List.set_cons_zero,List.set_cons_succ]
  refine wpAnyH_take (i:=12) (v:=.bool false) rfl (by kernel_rfl) (by kernel_rfl) (by kernel_rfl) (fun _ _ _ h=>h) (Or.inl ⟨by rfl,fun Wz hW=>by obtain ⟨a0,a1,a2⟩:=hW;go_simp⟩) hHeld ?_
  simp only [Act.put,List.getElem_toArray,List.getElem_cons_succ,List.getElem_cons_zero,List.setIfInBounds_toArray,List.set_cons_zero,List.set_cons_succ]
  refine wpAnyH_take (i:=13) (v:=.bool false) rfl (by kernel_rfl) (by kernel_rfl) (by kernel_rfl) (fun _ _ _ h=>h) (Or.inl ⟨by rfl,fun Wz hW=>by obtain ⟨a0,a1,a2⟩:=hW;go_simp⟩) hHeld ?_
  simp only [Act.put,List.getElem_toArray,List.getElem_cons_succ,List.getElem_cons_zero,List.setIfInBounds_toArray,List.set_cons_zero,List.set_cons_succ]
  refine wpAnyH_take (i:=14) (v:=.bool false) rfl (by kernel_rfl) (by kernel_rfl) (by kernel_rfl) (fun _ _ _ h=>h) (Or.inl ⟨by rfl,fun Wz hW=>by obtain ⟨a0,a1,a2⟩:=hW;go_simp⟩) hHeld ?_
  simp only [Act.put,List.getElem_toArray,List.getElem_cons_succ,List.getElem_cons_zero,List.setIfInBounds_toArray,List.set_cons_zero,List.set_cons_succ]
  refine wpAnyH_take (i:=15) (v:=.pointer (some ⟨q,0,none⟩)) rfl (by kernel_rfl) (by kernel_rfl) (by kernel_rfl) (fun _ _ _ h=>h) (Or.inl ⟨by rfl,fun Wz hW=>by obtain ⟨a0,a1,a2⟩:=hW;go_simp⟩) hHeld ?_
  simp only [Act.put,List.getElem_toArray,List.getElem_cons_succ,List.getElem_cons_zero,List.setIfInBounds_toArray,List.set_cons_zero,List.set_cons_succ]
  refine wpAnyH_take (i:=17) (v:=.pointer (some ⟨b3,0,none⟩)) rfl (by kernel_rfl) (by kernel_rfl) (by kernel_rfl) (fun _ _ _ h=>h) (Or.inl ⟨by rfl,fun Wz hW=>by obtain ⟨a0,a1,a2⟩:=hW;go_simp⟩) hHeld ?_
  simp only [Act.put,List.getElem_toArray,List.getElem_cons_succ,List.getElem_cons_zero,List.setIfInBounds_toArray,List.set_cons_zero,List.set_cons_succ]
  refine wpAnyH_take (i:=18) (v:=.int .i64 d) rfl (by kernel_rfl) (by kernel_rfl) (by kernel_rfl) (fun _ _ _ h=>h) (Or.inl ⟨by rfl,fun Wz hW=>by obtain ⟨a0,a1,a2⟩:=hW;go_simp⟩) hHeld ?_
  simp only [Act.put,List.getElem_toArray,List.getElem_cons_succ,List.getElem_cons_zero,List.setIfInBounds_toArray,List.set_cons_zero,List.set_cons_succ]
  refine wpAnyH_ready (rs:=[16]) (by kernel_rfl) (by simp) ?_
  refine AllReadyH.cons rfl (fun K hK=>?_) AllReadyH.nil
  simp only [List.getElem_toArray,List.getElem_cons_succ,List.getElem_cons_zero]
  rw [if_pos (by rfl)]
  go_simp
  refine (cD.out _ K11.out).mono ?_
  rintro e' w16 ⟨rfl,k16⟩
  have K16:Hid (Keep W w16):=K11.out.trans k16
  replace k16:=Lib.hid k16
  go_wp2_with fail
  refine hK.out _ _ ?_ (fun hHeld=>?_)
  · exact HELD _ K16.out
  clear hK K
  try simp only [Act.put,List.getElem_toArray,List.getElem_cons_succ,List.getElem_cons_zero,List.setIfInBounds_toArray,List.set_cons_zero,List.set_cons_succ]
  refine wpAnyH_take (i:=19) (v:=.bool false) rfl (by kernel_rfl) (by kernel_rfl) (by kernel_rfl) (fun _ _ _ h=>h) (Or.inl ⟨by rfl,fun Wz hW=>by obtain ⟨a0,a1,a2⟩:=hW;go_simp⟩) hHeld ?_
  simp only [Act.put,List.getElem_toArray,List.getElem_cons_succ,List.getElem_cons_zero,List.setIfInBounds_toArray,List.set_cons_zero,List.set_cons_succ]
  refine wpAnyH_take (i:=20) (v:=.bool false) rfl (by kernel_rfl) (by kernel_rfl) (by kernel_rfl) (fun _ _ _ h=>h) (Or.inl ⟨by rfl,fun Wz hW=>by obtain ⟨a0,a1,a2⟩:=hW;go_simp⟩) hHeld ?_
  simp only [Act.put,List.getElem_toArray,List.getElem_cons_succ,List.getElem_cons_zero,List.setIfInBounds_toArray,List.set_cons_zero,List.set_cons_succ]
  refine wpAnyH_done (by kernel_rfl) ?_ _
  go_wp2
  go_loopg [5] n (fun gx s5 wr=>∃ j:Nat,j≤n∧gx = n - j∧s5 = .int .i64 j∧Hid (Keep W wr))
  case atStart=>exact ⟨0,Nat.zero_le _,rfl,rfl,K16⟩
  case round =>
    obtain ⟨j,hj,rfl,rfl,K0⟩:=hrel
    clear x0 x1 x2 xf HELD hHeld
    obtain ⟨x0,x1,x2,xf⟩:=rc_cells (K0.out.block A3.out)
    simp only at x0 x1 x2
    by_cases hlt:j < n
    · obtain ⟨gn,off,hA,ca⟩:=(RCW.out.row.keep K0.out).adr (by omega)
      subst hA
      have q1:=C14.atN gn off n c j hlt
      have V:=ca j hlt
      clear ca
      obtain ⟨v,hv⟩:∃ v,v = Q j:=⟨_,rfl⟩
      have vn:Hid (v.n = d):=by rw [hv];exact hdn.out j hlt
      have vM:Hid (nv v ∈ M):=by rw [hv,← hem.out];exact List.mem_map_of_mem (C14.lst_mem.2 ⟨j,hlt,rfl⟩)
      have vR:Hid (Rd W v.A v.n v.C):=by rw [hv];exact RCW.out.rd j hlt
      have vk:Hid (I64 v.k):=by rw [hv];exact (RCW.out.row.ok j hlt).k
      rw [← hv] at V
      have v0:=V.e0
      have v1:=V.e1
      clear V
      obtain ⟨k,CA,vn0,cc,CZ⟩:=v
      simp only at v0 v1 vn vM vR vk
      obtain rfl:vn0 = d:=vn.out
      have kM:Hid (k ∈ nk M):=by show k ∈ _;exact List.mem_map_of_mem vM.out
      have gM:Hid (nget M k = nv ⟨k,CA,vn0,cc,CZ⟩):=G.get_at hok.out.srt vM.out
      clear vn
      obtain ⟨w6,hw6⟩:∃ w6,w6 = wr.alloc (.cells #[.int .i64 k,.slice CA vn0 cc] 50):=⟨_,rfl⟩
      obtain ⟨b6,hb6⟩:∃ b6,b6 = wr.heap.size:=⟨_,rfl⟩
      have K06:Hid (Keep wr w6):=by rw [hw6];exact Keep.one _ _
      have K6:Hid (Keep W w6):=K0.out.trans K06.out
      have A6:Hid (w6.heap[b6]? = some (.cells #[.int .i64 k,.slice CA vn0 cc] 50 (0,0))):=by rw [hw6,hb6];exact heap_alloc_new _ _
      have cFr:Hid (∀ Wz,Keep w6 Wz→Calls Tryz.prog 28 #[.pointer (some ⟨q,0,none⟩),.int .i64 k] Wz fun e' w'=>∃ FA fc,e' = .returned (.slice FA vn0 fc)∧Rd w' FA vn0 (fun j=>CZ j - usedL L k j)∧Keep Wz w'):=fun Wz kk=>by
        refine (C.free k (C.keep CW.out (K6.out.trans kk)) vk.out (by have:=lM.out;omega) (by have:=lL.out;omega)).mono ?_
        rintro e' w' ⟨FA,fn,fc,h1,h2,_,h4⟩
        obtain ⟨h5,h6,_⟩:=h2 kM.out
        rw [h5] at h1
        rw [gM.out] at h6
        exact ⟨FA,fc,h1,h6,h4⟩
      have cU:Hid (∀ Wz,Keep w6 Wz→Calls Tryz.prog 20 #[(⟨vn0,some ⟨gn,off,none⟩,n,c,B,m,e⟩:RcV).val,.int .i64 k] Wz fun e' w'=>∃ g,e' = .returned (.slice (some ⟨g,0,none⟩) vn0 vn0)∧Rd w' (some ⟨g,0,none⟩) vn0 (usedL L k)∧Keep Wz w'):=fun Wz kk=>by
        have hu:∀ j,usedL (lst P m) k j = usedL L k j:=fun j=>by rw [← used_nm,hel.out]
        refine (rused_fn (⟨vn0,some ⟨gn,off,none⟩,n,c,B,m,e⟩:RcV) vn0 rfl hd.out P k Wz (RPW.out.keep (K6.out.trans kk)) hmm (fun j hj=>?_)).mono ?_
        · have hm2:nm (P j) ∈ L:=by rw [← hel.out];exact List.mem_map_of_mem (lst_mem.2 ⟨j,hj,rfl⟩)
          have h9:=hok.out.req (nm (P j)) hm2
          exact h9
        · rintro e' w' ⟨g,h1,_,h3,h4⟩
          refine ⟨g,h1,?_,h4⟩
          have h5:usedL (lst P m) k = usedL L k:=by funext j;exact hu j
          simp only at h3
          rw [h5] at h3
          refine h3.rd (by have:=hd.out;omega) fun j hj=>?_
          have h6:=usedL_lo (L:=L) (id:=k) (j:=j) (hok.out.amtL hj)
          have h7:=hok.out.fit _ vM.out j hj
          have h8:=hok.out.cap _ vM.out j hj
          unfold Amt at h8
          unfold nv at h7 h8
          simp only at h7 h8
          omega
      have sumR:Hid (∀ j,j < vn0→-9223372036854775808≤CZ j - usedL L k j + usedL L k j∧CZ j - usedL L k j + usedL L k j≤9223372036854775807):=fun j hj=>by
        have h8:=hok.out.cap _ vM.out j hj
        unfold Amt nv at h8
        simp only at h8
        omega
      have sumE:Hid (∀ j,j < vn0→CZ j - usedL L k j + usedL L k j = CZ j):=fun j _=>by omega
      unfold RcV.val at cU
      simp only at cU
      replace hv:=Lib.hid hv
      replace vM:=Lib.hid vM.out
      go_upto_region 7 with fail
      rw [← hw6,← hb6]
      replace hw6:=Lib.hid hw6
      replace hb6:=Lib.hid hb6
      clear x0 x1 x2 xf v0 v1 q1
      obtain ⟨x0,x1,x2,xf⟩:=rc_cells (K6.out.block A3.out)
      simp only at x0 x1 x2
      have z0:w6.cell? ⟨b6,0,none⟩ = some (.int .i64 k):=by rw [cell_of_row w6 b6 _ _ _ _ A6.out];rfl
      have z1:w6.cell? ⟨b6,1,none⟩ = some (.slice CA vn0 cc):=by rw [cell_of_row w6 b6 _ _ _ _ A6.out];rfl
      have cNd:Hid (∀ Wz,Keep w6 Wz→Calls Tryz.prog 22 #[.pointer (some ⟨q,0,none⟩),.int .i64 k] Wz fun e' w'=>∃ A2 n2 c2,e' = .returned (.tuple #[.agg #[.int .i64 k,.slice A2 n2 c2],.bool true])∧Keep Wz w'):=fun Wz kk=>by
        refine (C.node k (C.keep CW.out (K6.out.trans kk)) vk.out (by have:=lM.out;omega)).mono ?_
        rintro e' w' ⟨k2,A2,n2,c2,h1,h2,_,h4⟩
        rw [(h2 kM.out).1,decide_eq_true kM.out] at h1
        exact ⟨A2,n2,c2,h1,h4⟩
      obtain ⟨F,hF⟩:∃ F,F = (lst P m).filter (onB k):=⟨_,rfl⟩
      have hFn:Hid (F.map nm = L.filter (onB k)):=by show _ = _;rw [hF,filter_nm,hel.out]
      have hFl:Hid (F.length = (L.filter (onB k)).length):=by show _ = _;rw [← hFn.out,List.length_map]
      have cSm:Hid (∀ Wz G gc,Rd Wz G vn0 CZ→Keep w6 Wz→Calls Tryz.prog 27 #[.slice G vn0 gc,.slice CA vn0 cc] Wz fun e' w'=>e' = .returned (.bool true)∧Keep Wz w'):=fun Wz G gc h1 kk=>by
        refine (rsame_is G CA vn0 vn0 gc cc CZ CZ Wz h1 (vR.out.keep (K6.out.trans kk)) true (decide_eq_true ⟨rfl,fun _ _=>rfl⟩)).mono ?_
        rintro e' w' ⟨h2,q,rfl⟩
        exact ⟨h2,(Gr.refl Wz |>.drewN q).keep⟩
      have cOn:Hid (∀ Wz,Keep w6 Wz→Calls Tryz.prog 25 #[.pointer (some ⟨q,0,none⟩),.int .i64 k] Wz fun e' w'=>∃ OA oc OS,e' = .returned (.slice OA (L.filter (onB k)).length oc)∧RdPods w' OA (L.filter (onB k)).length OS∧(lst OS (L.filter (onB k)).length).map nm = L.filter (onB k)∧Keep Wz w'):=fun Wz kk=>by
        refine (C.on k (C.keep CW.out (K6.out.trans kk)) vk.out (by have:=lL.out;omega)).mono ?_
        rintro e' w' ⟨v,S,h1,h2,h3,h4⟩
        obtain ⟨OA,oc,rfl,h5⟩:=h2.rd (by have:=List.length_filter_le (onB k) L;have:=lL.out;omega)
        exact ⟨OA,oc,S,h1,h5,h3,h4⟩
      have cRo:Hid (∀ Wz,Keep w6 Wz→Calls Tryz.prog 46 #[.slice B m e,.int .i64 k] Wz fun e' w'=>∃ QA qc,e' = .returned (.slice QA (L.filter (onB k)).length qc)∧RdPods w' QA F.length (row F)∧Keep Wz w'):=fun Wz kk=>by
        have:=ron_fn B m e P k Wz (RPW.out.keep (K6.out.trans kk)) (by omega)
        rw [← hF] at this
        refine this.mono ?_
        rintro e' w' ⟨QA,qc,h1,h2,h3,_⟩
        rw [hFl.out] at h1
        exact ⟨QA,qc,h1,h3,h2⟩
      replace hF:=Lib.hid hF
      have HELD:∀ Wz,Keep w6 Wz→(Wz.cell? ⟨b3,0,none⟩ = some (.int .i64 vn0)∧Wz.cell? ⟨b3,1,none⟩ = some (.slice (some ⟨gn,off,none⟩) n c)∧Wz.cell? ⟨b3,2,none⟩ = some (.slice B m e)∧Wz.cell? ⟨b6,0,none⟩ = some (.int .i64 k)∧Wz.cell? ⟨b6,1,none⟩ = some (.slice CA vn0 cc)):=fun Wz KK=>⟨KK.cell x0,KK.cell x1,KK.cell x2,KK.cell z0,KK.cell z1⟩
      refine wp_region_held_drew (S:=fun w'=>w'.cell? ⟨b3,0,none⟩ = some (.int .i64 vn0)∧w'.cell? ⟨b3,1,none⟩ = some (.slice (some ⟨gn,off,none⟩) n c)∧w'.cell? ⟨b3,2,none⟩ = some (.slice B m e)∧w'.cell? ⟨b6,0,none⟩ = some (.int .i64 k)∧w'.cell? ⟨b6,1,none⟩ = some (.slice CA vn0 cc)) (by kernel_rfl) ?_ (fun hHeld=>?_)
      · exact HELD _ (by repeat (with_reducible first | exact Keep.refl w6 | apply Keep.alloc | apply Keep.drew | apply Keep.drewN))
      refine wpAnyH_take (i:=0) (v:=.pointer (some ⟨q,0,none⟩)) rfl (by kernel_rfl) (by kernel_rfl) (by kernel_rfl) (fun _ _ _ h=>h) (Or.inl ⟨by rfl,fun Wz hW=>by obtain ⟨a0,a1,a2,ak,ac⟩:=hW;go_simp⟩) hHeld ?_
      simp only [Act.put,List.getElem_toArray,List.getElem_cons_zero,List.setIfInBounds_toArray,List.set_cons_zero,List.set_cons_succ]
      refine wpAnyH_take (i:=1) (v:=.pointer (some ⟨b6,0,none⟩)) rfl (by kernel_rfl) (by kernel_rfl) (by kernel_rfl) (fun _ _ _ h=>h) (Or.inl ⟨by rfl,fun Wz hW=>by obtain ⟨a0,a1,a2,ak,ac⟩:=hW;go_simp⟩) hHeld ?_
      simp only [Act.put,List.getElem_toArray,List.getElem_cons_succ,List.getElem_cons_zero,List.setIfInBounds_toArray,List.set_cons_zero,List.set_cons_succ]
      refine wpAnyH_take (i:=2) (v:=.int .i64 k) rfl (by kernel_rfl) (by kernel_rfl) (by kernel_rfl) (fun _ _ _ h=>h) (Or.inl ⟨by rfl,fun Wz hW=>by obtain ⟨a0,a1,a2,ak,ac⟩:=hW;go_simp⟩) hHeld ?_
      simp only [Act.put,List.getElem_toArray,List.getElem_cons_succ,List.getElem_cons_zero,List.setIfInBounds_toArray,List.set_cons_zero,List.set_cons_succ]
      refine wpAnyH_take (i:=4) (v:=.agg #[.int .i64 vn0,.slice (some ⟨gn,off,none⟩) n c,.slice B m e]) rfl (by kernel_rfl) (by kernel_rfl) (by kernel_rfl) (fun _ _ _ h=>h) (Or.inl ⟨by rfl,fun Wz hW=>by obtain ⟨a0,a1,a2,ak,ac⟩:=hW;go_simp⟩) hHeld ?_
      simp only [Act.put,List.getElem_toArray,List.getElem_cons_succ,List.getElem_cons_zero,List.setIfInBounds_toArray,List.set_cons_zero,List.set_cons_succ]
      refine wpAnyH_take (i:=5) (v:=.pointer (some ⟨b6,0,none⟩)) rfl (by kernel_rfl) (by kernel_rfl) (by kernel_rfl) (fun _ _ _ h=>h) (Or.inl ⟨by rfl,fun Wz hW=>by obtain ⟨a0,a1,a2,ak,ac⟩:=hW;go_simp⟩) hHeld ?_
      simp only [Act.put,List.getElem_toArray,List.getElem_cons_succ,List.getElem_cons_zero,List.setIfInBounds_toArray,List.set_cons_zero,List.set_cons_succ]
      refine wpAnyH_take (i:=6) (v:=.int .i64 k) rfl (by kernel_rfl) (by kernel_rfl) (by kernel_rfl) (fun _ _ _ h=>h) (Or.inl ⟨by rfl,fun Wz hW=>by obtain ⟨a0,a1,a2,ak,ac⟩:=hW;go_simp⟩) hHeld ?_
      simp only [Act.put,List.getElem_toArray,List.getElem_cons_succ,List.getElem_cons_zero,List.setIfInBounds_toArray,List.set_cons_zero,List.set_cons_succ]
      refine wpAnyH_ready (rs:=[3]) (by kernel_rfl) (by simp) ?_
      refine AllReadyH.cons rfl (fun K hK=>?_) AllReadyH.nil
      simp only [List.getElem_toArray,List.getElem_cons_succ,List.getElem_cons_zero]
      rw [if_pos (by rfl)]
      go_simp
      refine (cFr.out _ (by repeat (with_reducible first | exact Keep.refl w6 | apply Keep.alloc | apply Keep.drew | apply Keep.drewN))).mono ?_
      rintro e' w7 ⟨FA,fc,rfl,RF,k7⟩
      have K7:Hid (Keep w6 w7):=((Keep.refl _).drew:Keep w6 _).trans k7
      replace k7:=Lib.hid k7
      have RF:=Lib.hid RF
      go_wp2_with fail
      refine hK.out _ _ ?_ (fun hHeld=>?_)
      · exact HELD _ K7.out
      clear hK K
      try simp only [Act.put,List.getElem_toArray,List.getElem_cons_succ,List.getElem_cons_zero,List.setIfInBounds_toArray,List.set_cons_zero,List.set_cons_succ]
      refine wpAnyH_ready (rs:=[7]) (by kernel_rfl) (by simp) ?_
      refine AllReadyH.cons rfl (fun K hK=>?_) AllReadyH.nil
      simp only [List.getElem_toArray,List.getElem_cons_succ,List.getElem_cons_zero]
      rw [if_pos (by rfl)]
      go_simp
      refine (cU.out _ K7.out).mono ?_
      rintro e' w8 ⟨gu,rfl,RU,k8⟩
      have K8:Hid (Keep w6 w8):=K7.out.trans k8
      replace RF:=Lib.hid (RF.out.keep k8)
      replace k8:=Lib.hid k8
      have RU:=Lib.hid RU
      go_wp2_with fail
      refine hK.out _ _ ?_ (fun hHeld=>?_)
      · exact HELD _ K8.out
      clear hK K
      try simp only [Act.put,List.getElem_toArray,List.getElem_cons_succ,List.getElem_cons_zero,List.setIfInBounds_toArray,List.set_cons_zero,List.set_cons_succ]
      refine wpAnyH_ready (rs:=[8]) (by kernel_rfl) (by simp) ?_
      refine AllReadyH.cons rfl (fun K hK=>?_) AllReadyH.nil
      simp only [List.getElem_toArray,List.getElem_cons_succ,List.getElem_cons_zero]
      rw [if_pos (by rfl)]
      go_simp
      obtain ⟨w9,hw9⟩:∃ w9,w9 = w8.alloc (.cells #[.slice FA vn0 fc,.slice (some ⟨gu,0,none⟩) vn0 vn0] 33):=⟨_,rfl⟩
      rw [← hw9]
      have K89:Hid (Keep w8 w9):=by rw [hw9];exact Keep.one _ _
      have K9:Hid (Keep w6 w9):=K8.out.trans K89.out
      have F9:Hid (w9.heap[w8.heap.size]? = some (.cells #[.slice FA vn0 fc,.slice (some ⟨gu,0,none⟩) vn0 vn0] 33 (0,0))):=by rw [hw9];exact heap_alloc_new _ _
      replace hw9:=Lib.hid hw9
      refine hK.out _ _ ?_ (fun hHeld=>?_)
      · exact HELD _ K9.out
      clear hK K
      try simp only [Act.put,List.getElem_toArray,List.getElem_cons_succ,List.getElem_cons_zero,List.setIfInBounds_toArray,List.set_cons_zero,List.set_cons_succ]
      have cA:Hid (Calls Tryz.prog 45 #[.slice (some ⟨w8.heap.size,0,none⟩) 2 2] w9 fun e w'=>∃ G c',e = .returned (.tuple #[.slice G vn0 c',.bool true])∧Rd w' G vn0 CZ∧Keep w9 w'):=(radd2_fn w9 w8.heap.size vn0 fc vn0 FA (some ⟨gu,0,none⟩) _ _ F9.out (RF.out.keep K89.out) (RU.out.keep K89.out) (by have:=hd.out;omega) (fun j hj=>sumR.out j hj)).mono fun _ _ ⟨G,c',h1,h2,h3⟩=>⟨G,c',h1,h2.congr (fun j hj=>sumE.out j hj),h3⟩
      refine wpAnyH_ready (rs:=[9]) (by kernel_rfl) (by simp) ?_
      refine AllReadyH.cons rfl (fun K hK=>?_) AllReadyH.nil
      simp only [List.getElem_toArray,List.getElem_cons_succ,List.getElem_cons_zero]
      rw [if_pos (by rfl)]
      go_simp
      refine (cA.out).mono ?_
      rintro e' w10 ⟨G,gc,rfl,RG,k10⟩
      have K10:Hid (Keep w6 w10):=K9.out.trans k10
      replace k10:=Lib.hid k10
      have RG:=Lib.hid RG
      go_wp2_with fail
      refine hK.out _ _ ?_ (fun hHeld=>?_)
      · exact HELD _ K10.out
      clear hK K
      try simp only [Act.put,List.getElem_toArray,List.getElem_cons_succ,List.getElem_cons_zero,List.setIfInBounds_toArray,List.set_cons_zero,List.set_cons_succ]
      refine wpAnyH_take (i:=10) (v:=.tuple #[.slice G vn0 gc,.bool true]) rfl (by kernel_rfl) (by kernel_rfl) (by kernel_rfl) (fun _ _ _ h=>h) (Or.inl ⟨by rfl,fun Wz hW=>by obtain ⟨a0,a1,a2,ak,ac⟩:=hW;go_simp⟩) hHeld ?_
      simp only [Act.put,List.getElem_toArray,List.getElem_cons_succ,List.getElem_cons_zero,List.setIfInBounds_toArray,List.set_cons_zero,List.set_cons_succ]
      refine wpAnyH_take (i:=11) (v:=.slice G vn0 gc) rfl (by kernel_rfl) (by kernel_rfl) (by kernel_rfl) (fun _ _ _ h=>h) (Or.inl ⟨by rfl,fun Wz hW=>by obtain ⟨a0,a1,a2,ak,ac⟩:=hW;go_simp⟩) hHeld ?_
      simp only [Act.put,List.getElem_toArray,List.getElem_cons_succ,List.getElem_cons_zero,List.setIfInBounds_toArray,List.set_cons_zero,List.set_cons_succ]
      refine wpAnyH_take (i:=12) (v:=.bool true) rfl (by kernel_rfl) (by kernel_rfl) (by kernel_rfl) (fun _ _ _ h=>h) (Or.inl ⟨by rfl,fun Wz hW=>by obtain ⟨a0,a1,a2,ak,ac⟩:=hW;go_simp⟩) hHeld ?_
      simp only [Act.put,List.getElem_toArray,List.getElem_cons_succ,List.getElem_cons_zero,List.setIfInBounds_toArray,List.set_cons_zero,List.set_cons_succ]
      refine wpAnyH_take (i:=13) (v:=.slice G vn0 gc) rfl (by kernel_rfl) (by kernel_rfl) (by kernel_rfl) (fun _ _ _ h=>h) (Or.inl ⟨by rfl,fun Wz hW=>by obtain ⟨a0,a1,a2,ak,ac⟩:=hW;go_simp⟩) hHeld ?_
      simp only [Act.put,List.getElem_toArray,List.getElem_cons_succ,List.getElem_cons_zero,List.setIfInBounds_toArray,List.set_cons_zero,List.set_cons_succ]
      refine wpAnyH_take (i:=14) (v:=.bool true) rfl (by kernel_rfl) (by kernel_rfl) (by kernel_rfl) (fun _ _ _ h=>h) (Or.inl ⟨by rfl,fun Wz hW=>by obtain ⟨a0,a1,a2,ak,ac⟩:=hW;go_simp⟩) hHeld ?_
      simp only [Act.put,List.getElem_toArray,List.getElem_cons_succ,List.getElem_cons_zero,List.setIfInBounds_toArray,List.set_cons_zero,List.set_cons_succ]
      refine wpAnyH_done (by kernel_rfl) ?_ _
      go_wp2_with fail
      refine (cNd.out _ K10.out).mono ?_
      rintro e' w11 ⟨A2,n2,c2,rfl,k11⟩
      have kx:=Lib.hid k11
      have K11n:Hid (Keep w6 w11):=K10.out.trans k11
      replace k11:=Lib.hid k11
      obtain ⟨w12,hw12⟩:∃ w12,w12 = w11.alloc (.cells #[.int .i64 k,.slice A2 n2 c2] 50):=⟨_,rfl⟩
      obtain ⟨b9,hb9⟩:∃ b9,b9 = w11.heap.size:=⟨_,rfl⟩
      have K112:Hid (Keep w11 w12):=by rw [hw12];exact Keep.one _ _
      have K12:Hid (Keep w6 w12):=K11n.out.trans K112.out
      have A9:Hid (w12.heap[b9]? = some (.cells #[.int .i64 k,.slice A2 n2 c2] 50 (0,0))):=by rw [hw12,hb9];exact heap_alloc_new _ _
      go_upto_region 9 with fail
      rw [← hw12,← hb9]
      replace hw12:=Lib.hid hw12
      replace hb9:=Lib.hid hb9
      clear HELD hHeld
      have RGx:Hid (Rd w12 G vn0 CZ):=RG.out.keep (kx.out.trans K112.out)
      have y0:=K12.out.cell x0
      have y1:=K12.out.cell x1
      have y2:=K12.out.cell x2
      have y3:=K12.out.cell z0
      have y4:=K12.out.cell z1
      have y5:w12.cell? ⟨b9,0,none⟩ = some (.int .i64 k):=by rw [cell_of_row w12 b9 _ _ _ _ A9.out];rfl
      have HELD:∀ Wz,Keep w12 Wz→(Wz.cell? ⟨b3,0,none⟩ = some (.int .i64 vn0)∧Wz.cell? ⟨b3,1,none⟩ = some (.slice (some ⟨gn,off,none⟩) n c)∧Wz.cell? ⟨b3,2,none⟩ = some (.slice B m e)∧Wz.cell? ⟨b6,0,none⟩ = some (.int .i64 k)∧Wz.cell? ⟨b6,1,none⟩ = some (.slice CA vn0 cc)∧Wz.cell? ⟨b9,0,none⟩ = some (.int .i64 k)):=fun Wz KK=>⟨KK.cell y0,KK.cell y1,KK.cell y2,KK.cell y3,KK.cell y4,KK.cell y5⟩
      refine wp_region_held_drew (S:=fun w'=>w'.cell? ⟨b3,0,none⟩ = some (.int .i64 vn0)∧w'.cell? ⟨b3,1,none⟩ = some (.slice (some ⟨gn,off,none⟩) n c)∧w'.cell? ⟨b3,2,none⟩ = some (.slice B m e)∧w'.cell? ⟨b6,0,none⟩ = some (.int .i64 k)∧w'.cell? ⟨b6,1,none⟩ = some (.slice CA vn0 cc)∧w'.cell? ⟨b9,0,none⟩ = some (.int .i64 k)) (by kernel_rfl) ?_ (fun hHeld=>?_)
      · exact HELD _ (by repeat (with_reducible first | exact Keep.refl w12 | apply Keep.alloc | apply Keep.drew | apply Keep.drewN))
      refine wpAnyH_take (i:=0) (v:=.bool true) rfl (by kernel_rfl) (by kernel_rfl) (by kernel_rfl) (fun _ _ _ h=>h) (Or.inl ⟨by rfl,fun Wz hW=>by obtain ⟨a0,a1,a2,ak,ac,an⟩:=hW;go_simp⟩) hHeld ?_
      simp only [Act.put,List.getElem_toArray,List.getElem_cons_zero,List.setIfInBounds_toArray,List.set_cons_zero,List.set_cons_succ]
      refine wpAnyH_take (i:=1) (v:=.bool false) rfl (by kernel_rfl) (by kernel_rfl) (by kernel_rfl) (fun _ _ _ h=>h) (Or.inl ⟨by rfl,fun Wz hW=>by obtain ⟨a0,a1,a2,ak,ac,an⟩:=hW;go_simp⟩) hHeld ?_
      simp only [Act.put,List.getElem_toArray,List.getElem_cons_succ,List.getElem_cons_zero,List.setIfInBounds_toArray,List.set_cons_zero,List.set_cons_succ]
      refine wpAnyH_take (i:=2) (v:=.bool false) rfl (by kernel_rfl) (by kernel_rfl) (by kernel_rfl) (fun _ _ _ h=>h) (Or.inl ⟨by rfl,fun Wz hW=>by obtain ⟨a0,a1,a2,ak,ac,an⟩:=hW;go_simp⟩) hHeld ?_
      simp only [Act.put,List.getElem_toArray,List.getElem_cons_succ,List.getElem_cons_zero,List.setIfInBounds_toArray,List.set_cons_zero,List.set_cons_succ]
      refine wpAnyH_take (i:=3) (v:=.slice G vn0 gc) rfl (by kernel_rfl) (by kernel_rfl) (by kernel_rfl) (fun _ _ _ h=>h) (Or.inl ⟨by rfl,fun Wz hW=>by obtain ⟨a0,a1,a2,ak,ac,an⟩:=hW;go_simp⟩) hHeld ?_
      simp only [Act.put,List.getElem_toArray,List.getElem_cons_succ,List.getElem_cons_zero,List.setIfInBounds_toArray,List.set_cons_zero,List.set_cons_succ]
      refine wpAnyH_take (i:=4) (v:=.pointer (some ⟨b6,1,none⟩)) rfl (by kernel_rfl) (by kernel_rfl) (by kernel_rfl) (fun _ _ _ h=>h) (Or.inl ⟨by rfl,fun Wz hW=>by obtain ⟨a0,a1,a2,ak,ac,an⟩:=hW;go_simp⟩) hHeld ?_
      simp only [Act.put,List.getElem_toArray,List.getElem_cons_succ,List.getElem_cons_zero,List.setIfInBounds_toArray,List.set_cons_zero,List.set_cons_succ]
      refine wpAnyH_take (i:=5) (v:=.slice CA vn0 cc) rfl (by kernel_rfl) (by kernel_rfl) (by kernel_rfl) (fun _ _ _ h=>h) (Or.inl ⟨by rfl,fun Wz hW=>by obtain ⟨a0,a1,a2,ak,ac,an⟩:=hW;go_simp⟩) hHeld ?_
      simp only [Act.put,List.getElem_toArray,List.getElem_cons_succ,List.getElem_cons_zero,List.setIfInBounds_toArray,List.set_cons_zero,List.set_cons_succ]
      refine wpAnyH_ready (rs:=[6]) (by kernel_rfl) (by simp) ?_
      refine AllReadyH.cons rfl (fun K hK=>?_) AllReadyH.nil
      simp only [List.getElem_toArray,List.getElem_cons_succ,List.getElem_cons_zero]
      rw [if_pos (by rfl)]
      go_simp
      refine (cSm.out _ G gc (RGx.out.keep (by repeat (with_reducible first | exact Keep.refl w12 | apply Keep.alloc | apply Keep.drew | apply Keep.drewN))) (K12.out.trans (by repeat (with_reducible first | exact Keep.refl w12 | apply Keep.alloc | apply Keep.drew | apply Keep.drewN)))).mono ?_
      rintro e' w13 ⟨rfl,k13⟩
      have K13:Hid (Keep w12 w13):=((Keep.refl _).drew:Keep w12 _).trans k13
      replace k13:=Lib.hid k13
      go_wp2_with fail
      refine hK.out _ _ ?_ (fun hHeld=>?_)
      · exact HELD _ K13.out
      clear hK K
      try simp only [Act.put,List.getElem_toArray,List.getElem_cons_succ,List.getElem_cons_zero,List.setIfInBounds_toArray,List.set_cons_zero,List.set_cons_succ]
      refine wpAnyH_take (i:=7) (v:=.bool false) rfl (by kernel_rfl) (by kernel_rfl) (by kernel_rfl) (fun _ _ _ h=>h) (Or.inl ⟨by rfl,fun Wz hW=>by obtain ⟨a0,a1,a2,ak,ac,an⟩:=hW;go_simp⟩) hHeld ?_
      simp only [Act.put,List.getElem_toArray,List.getElem_cons_succ,List.getElem_cons_zero,List.setIfInBounds_toArray,List.set_cons_zero,List.set_cons_succ]
      refine wpAnyH_take (i:=8) (v:=.bool false) rfl (by kernel_rfl) (by kernel_rfl) (by kernel_rfl) (fun _ _ _ h=>h) (Or.inl ⟨by rfl,fun Wz hW=>by obtain ⟨a0,a1,a2,ak,ac,an⟩:=hW;go_simp⟩) hHeld ?_
      simp only [Act.put,List.getElem_toArray,List.getElem_cons_succ,List.getElem_cons_zero,List.setIfInBounds_toArray,List.set_cons_zero,List.set_cons_succ]
      refine wpAnyH_take (i:=9) (v:=.bool false) rfl (by kernel_rfl) (by kernel_rfl) (by kernel_rfl) (fun _ _ _ h=>h) (Or.inl ⟨by rfl,fun Wz hW=>by obtain ⟨a0,a1,a2,ak,ac,an⟩:=hW;go_simp⟩) hHeld ?_
      simp only [Act.put,List.getElem_toArray,List.getElem_cons_succ,List.getElem_cons_zero,List.setIfInBounds_toArray,List.set_cons_zero,List.set_cons_succ]
      refine wpAnyH_take (i:=10) (v:=.bool true) rfl (by kernel_rfl) (by kernel_rfl) (by kernel_rfl) (fun _ _ _ h=>h) (Or.inl ⟨by rfl,fun Wz hW=>by obtain ⟨a0,a1,a2,ak,ac,an⟩:=hW;go_simp⟩) hHeld ?_
      simp only [Act.put,List.getElem_toArray,List.getElem_cons_succ,List.getElem_cons_zero,List.setIfInBounds_toArray,List.set_cons_zero,List.set_cons_succ]
      refine wpAnyH_take (i:=11) (v:=.bool false) rfl (by kernel_rfl) (by kernel_rfl) (by kernel_rfl) (fun _ _ _ h=>h) (Or.inl ⟨by rfl,fun Wz hW=>by obtain ⟨a0,a1,a2,ak,ac,an⟩:=hW;go_simp⟩) hHeld ?_
      simp only [Act.put,List.getElem_toArray,List.getElem_cons_succ,List.getElem_cons_zero,List.setIfInBounds_toArray,List.set_cons_zero,List.set_cons_succ]
      refine wpAnyH_take (i:=12) (v:=.bool false) rfl (by kernel_rfl) (by kernel_rfl) (by kernel_rfl) (fun _ _ _ h=>h) (Or.inl ⟨by rfl,fun Wz hW=>by obtain ⟨a0,a1,a2,ak,ac,an⟩:=hW;go_simp⟩) hHeld ?_
      simp only [Act.put,List.getElem_toArray,List.getElem_cons_succ,List.getElem_cons_zero,List.setIfInBounds_toArray,List.set_cons_zero,List.set_cons_succ]
      refine wpAnyH_take (i:=13) (v:=.bool false) rfl (by kernel_rfl) (by kernel_rfl) (by kernel_rfl) (fun _ _ _ h=>h) (Or.inl ⟨by rfl,fun Wz hW=>by obtain ⟨a0,a1,a2,ak,ac,an⟩:=hW;go_simp⟩) hHeld ?_
      simp only [Act.put,List.getElem_toArray,List.getElem_cons_succ,List.getElem_cons_zero,List.setIfInBounds_toArray,List.set_cons_zero,List.set_cons_succ]
      refine wpAnyH_take (i:=14) (v:=.pointer (some ⟨b9,0,none⟩)) rfl (by kernel_rfl) (by kernel_rfl) (by kernel_rfl) (fun _ _ _ h=>h) (Or.inl ⟨by rfl,fun Wz hW=>by obtain ⟨a0,a1,a2,ak,ac,an⟩:=hW;go_simp⟩) hHeld ?_
      simp only [Act.put,List.getElem_toArray,List.getElem_cons_succ,List.getElem_cons_zero,List.setIfInBounds_toArray,List.set_cons_zero,List.set_cons_succ]
      refine wpAnyH_take (i:=15) (v:=.int .i64 k) rfl (by kernel_rfl) (by kernel_rfl) (by kernel_rfl) (fun _ _ _ h=>h) (Or.inl ⟨by rfl,fun Wz hW=>by obtain ⟨a0,a1,a2,ak,ac,an⟩:=hW;go_simp⟩) hHeld ?_
      simp only [Act.put,List.getElem_toArray,List.getElem_cons_succ,List.getElem_cons_zero,List.setIfInBounds_toArray,List.set_cons_zero,List.set_cons_succ]
      refine wpAnyH_take (i:=16) (v:=.pointer (some ⟨b6,0,none⟩)) rfl (by kernel_rfl) (by kernel_rfl) (by kernel_rfl) (fun _ _ _ h=>h) (Or.inl ⟨by rfl,fun Wz hW=>by obtain ⟨a0,a1,a2,ak,ac,an⟩:=hW;go_simp⟩) hHeld ?_
      simp only [Act.put,List.getElem_toArray,List.getElem_cons_succ,List.getElem_cons_zero,List.setIfInBounds_toArray,List.set_cons_zero,List.set_cons_succ]
      refine wpAnyH_take (i:=17) (v:=.int .i64 k) rfl (by kernel_rfl) (by kernel_rfl) (by kernel_rfl) (fun _ _ _ h=>h) (Or.inl ⟨by rfl,fun Wz hW=>by obtain ⟨a0,a1,a2,ak,ac,an⟩:=hW;go_simp⟩) hHeld ?_
      simp only [Act.put,List.getElem_toArray,List.getElem_cons_succ,List.getElem_cons_zero,List.setIfInBounds_toArray,List.set_cons_zero,List.set_cons_succ]
      refine wpAnyH_take (i:=18) (v:=.bool false) rfl (by kernel_rfl) (by kernel_rfl) (by kernel_rfl) (fun _ _ _ h=>h) (Or.inl ⟨by rfl,fun Wz hW=>by obtain ⟨a0,a1,a2,ak,ac,an⟩:=hW;go_simp⟩) hHeld ?_
      simp only [Act.put,List.getElem_toArray,List.getElem_cons_succ,List.getElem_cons_zero,List.setIfInBounds_toArray,List.set_cons_zero,List.set_cons_succ]
      refine wpAnyH_take (i:=19) (v:=.bool false) rfl (by kernel_rfl) (by kernel_rfl) (by kernel_rfl) (fun _ _ _ h=>h) (Or.inl ⟨by rfl,fun Wz hW=>by obtain ⟨a0,a1,a2,ak,ac,an⟩:=hW;go_simp⟩) hHeld ?_
      simp only [Act.put,List.getElem_toArray,List.getElem_cons_succ,List.getElem_cons_zero,List.setIfInBounds_toArray,List.set_cons_zero,List.set_cons_succ]
      refine wpAnyH_take (i:=20) (v:=.bool false) rfl (by kernel_rfl) (by kernel_rfl) (by kernel_rfl) (fun _ _ _ h=>h) (Or.inl ⟨by rfl,fun Wz hW=>by obtain ⟨a0,a1,a2,ak,ac,an⟩:=hW;go_simp⟩) hHeld ?_
      simp only [Act.put,List.getElem_toArray,List.getElem_cons_succ,List.getElem_cons_zero,List.setIfInBounds_toArray,List.set_cons_zero,List.set_cons_succ]
      refine wpAnyH_take (i:=21) (v:=.pointer (some ⟨q,0,none⟩)) rfl (by kernel_rfl) (by kernel_rfl) (by kernel_rfl) (fun _ _ _ h=>h) (Or.inl ⟨by rfl,fun Wz hW=>by obtain ⟨a0,a1,a2,ak,ac,an⟩:=hW;go_simp⟩) hHeld ?_
      simp only [Act.put,List.getElem_toArray,List.getElem_cons_succ,List.getElem_cons_zero,List.setIfInBounds_toArray,List.set_cons_zero,List.set_cons_succ]
      refine wpAnyH_take (i:=22) (v:=.pointer (some ⟨b6,0,none⟩)) rfl (by kernel_rfl) (by kernel_rfl) (by kernel_rfl) (fun _ _ _ h=>h) (Or.inl ⟨by rfl,fun Wz hW=>by obtain ⟨a0,a1,a2,ak,ac,an⟩:=hW;go_simp⟩) hHeld ?_
      simp only [Act.put,List.getElem_toArray,List.getElem_cons_succ,List.getElem_cons_zero,List.setIfInBounds_toArray,List.set_cons_zero,List.set_cons_succ]
      refine wpAnyH_take (i:=23) (v:=.int .i64 k) rfl (by kernel_rfl) (by kernel_rfl) (by kernel_rfl) (fun _ _ _ h=>h) (Or.inl ⟨by rfl,fun Wz hW=>by obtain ⟨a0,a1,a2,ak,ac,an⟩:=hW;go_simp⟩) hHeld ?_
      simp only [Act.put,List.getElem_toArray,List.getElem_cons_succ,List.getElem_cons_zero,List.setIfInBounds_toArray,List.set_cons_zero,List.set_cons_succ]
      refine wpAnyH_take (i:=25) (v:=.pointer (some ⟨b3,2,none⟩)) rfl (by kernel_rfl) (by kernel_rfl) (by kernel_rfl) (fun _ _ _ h=>h) (Or.inl ⟨by rfl,fun Wz hW=>by obtain ⟨a0,a1,a2,ak,ac,an⟩:=hW;go_simp⟩) hHeld ?_
      simp only [Act.put,List.getElem_toArray,List.getElem_cons_succ,List.getElem_cons_zero,List.setIfInBounds_toArray,List.set_cons_zero,List.set_cons_succ]
      refine wpAnyH_take (i:=26) (v:=.slice B m e) rfl (by kernel_rfl) (by kernel_rfl) (by kernel_rfl) (fun _ _ _ h=>h) (Or.inl ⟨by rfl,fun Wz hW=>by obtain ⟨a0,a1,a2,ak,ac,an⟩:=hW;go_simp⟩) hHeld ?_
      simp only [Act.put,List.getElem_toArray,List.getElem_cons_succ,List.getElem_cons_zero,List.setIfInBounds_toArray,List.set_cons_zero,List.set_cons_succ]
      refine wpAnyH_take (i:=27) (v:=.pointer (some ⟨b6,0,none⟩)) rfl (by kernel_rfl) (by kernel_rfl) (by kernel_rfl) (fun _ _ _ h=>h) (Or.inl ⟨by rfl,fun Wz hW=>by obtain ⟨a0,a1,a2,ak,ac,an⟩:=hW;go_simp⟩) hHeld ?_
      simp only [Act.put,List.getElem_toArray,List.getElem_cons_succ,List.getElem_cons_zero,List.setIfInBounds_toArray,List.set_cons_zero,List.set_cons_succ]
      refine wpAnyH_take (i:=28) (v:=.int .i64 k) rfl (by kernel_rfl) (by kernel_rfl) (by kernel_rfl) (fun _ _ _ h=>h) (Or.inl ⟨by rfl,fun Wz hW=>by obtain ⟨a0,a1,a2,ak,ac,an⟩:=hW;go_simp⟩) hHeld ?_
      simp only [Act.put,List.getElem_toArray,List.getElem_cons_succ,List.getElem_cons_zero,List.setIfInBounds_toArray,List.set_cons_zero,List.set_cons_succ]
      refine wpAnyH_ready (rs:=[24]) (by kernel_rfl) (by simp) ?_
      refine AllReadyH.cons rfl (fun K hK=>?_) AllReadyH.nil
      simp only [List.getElem_toArray,List.getElem_cons_succ,List.getElem_cons_zero]
      rw [if_pos (by rfl)]
      go_simp
      refine (cOn.out _ (K12.out.trans K13.out)).mono ?_
      rintro e' w14 ⟨OA,oc,OS,rfl,RO,OL,k14⟩
      have K14:Hid (Keep w12 w14):=K13.out.trans k14
      replace k14:=Lib.hid k14
      have RO:=Lib.hid RO
      have OL:=Lib.hid OL
      go_wp2_with fail
      refine hK.out _ _ ?_ (fun hHeld=>?_)
      · exact HELD _ K14.out
      clear hK K
      try simp only [Act.put,List.getElem_toArray,List.getElem_cons_succ,List.getElem_cons_zero,List.setIfInBounds_toArray,List.set_cons_zero,List.set_cons_succ]
      refine wpAnyH_ready (rs:=[29]) (by kernel_rfl) (by simp) ?_
      refine AllReadyH.cons rfl (fun K hK=>?_) AllReadyH.nil
      simp only [List.getElem_toArray,List.getElem_cons_succ,List.getElem_cons_zero]
      rw [if_pos (by rfl)]
      go_simp
      refine (cRo.out _ (K12.out.trans K14.out)).mono ?_
      rintro e' w15 ⟨QA,qc,rfl,RQ,k15⟩
      have K15:Hid (Keep w12 w15):=K14.out.trans k15
      have RQ:=Lib.hid RQ
      replace RO:=Lib.hid (RO.out.keep k15)
      replace k15:=Lib.hid k15
      go_wp2_with fail
      refine hK.out _ _ ?_ (fun hHeld=>?_)
      · exact HELD _ K15.out
      clear hK K
      try simp only [Act.put,List.getElem_toArray,List.getElem_cons_succ,List.getElem_cons_zero,List.setIfInBounds_toArray,List.set_cons_zero,List.set_cons_succ]
      refine wpAnyH_ready (rs:=[30]) (by kernel_rfl) (by simp) ?_
      refine AllReadyH.cons rfl (fun K hK=>?_) AllReadyH.nil
      simp only [List.getElem_toArray,List.getElem_cons_succ,List.getElem_cons_zero]
      rw [if_pos (by rfl)]
      go_simp
      refine (rsame6_fn OA QA (L.filter (onB k)).length oc qc OS (row F) w15 RO.out (by rw [← hFl.out];exact RQ.out) (same_of14 (by rw [OL.out,← hFl.out,lst_row,hFn.out]))).mono ?_
      rintro e' w16 ⟨rfl,k16⟩
      have KE:Hid (Keep w12 w16):=K15.out.trans k16
      replace k16:=Lib.hid k16
      go_wp2_with fail
      refine hK.out _ _ ?_ (fun hHeld=>?_)
      · exact HELD _ KE.out
      clear hK K
      try simp only [Act.put,List.getElem_toArray,List.getElem_cons_succ,List.getElem_cons_zero,List.setIfInBounds_toArray,List.set_cons_zero,List.set_cons_succ]
      refine wpAnyH_take (i:=31) (v:=.bool false) rfl (by kernel_rfl) (by kernel_rfl) (by kernel_rfl) (fun _ _ _ h=>h) (Or.inl ⟨by rfl,fun Wz hW=>by obtain ⟨a0,a1,a2,ak,ac,an⟩:=hW;go_simp⟩) hHeld ?_
      simp only [Act.put,List.getElem_toArray,List.getElem_cons_succ,List.getElem_cons_zero,List.setIfInBounds_toArray,List.set_cons_zero,List.set_cons_succ]
      refine wpAnyH_take (i:=32) (v:=.bool false) rfl (by kernel_rfl) (by kernel_rfl) (by kernel_rfl) (fun _ _ _ h=>h) (Or.inl ⟨by rfl,fun Wz hW=>by obtain ⟨a0,a1,a2,ak,ac,an⟩:=hW;go_simp⟩) hHeld ?_
      simp only [Act.put,List.getElem_toArray,List.getElem_cons_succ,List.getElem_cons_zero,List.setIfInBounds_toArray,List.set_cons_zero,List.set_cons_succ]
      refine wpAnyH_done (by kernel_rfl) ?_ _
      have KF:Hid (Keep W w16):=K6.out.trans (K12.out.trans KE.out)
      clear x0 x1 x2 xf z0 z1 y0 y1 y2 y3 y4 y5 HELD hHeld
      go_wp2
      go_roundg (n - (j + 1))
      case measure=>omega
      case rel=>exact ⟨j + 1,hlt,rfl,by go_num,KF⟩
    · obtain rfl:j = n:=by omega
      go_wp2
      go_ret
      exact ⟨rfl,KW.out.trans K0.out⟩
end Go.Proofs.YtnclkefddkgojaaGreatDoor.T14

