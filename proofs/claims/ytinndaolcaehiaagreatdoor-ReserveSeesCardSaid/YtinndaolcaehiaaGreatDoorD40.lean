/-
  The law of P15.1: a reservation is seen as the reference says. Condition: errors.errorType holds its own.
-/
import Derived.Test.YtinndaolcaehiaaGreatDoorD38
namespace Go.Proofs.YtinndaolcaehiaaGreatDoor.T15
open Go.RowKit Go.Sort Go.Lib V12 T13 T14
set_option maxRecDepth 100000 in
set_option maxHeartbeats 16000000 in
theorem sees_walk {CS:PredC} (C:Con CS) (N:NewXOk CS) (p q:PodV) (nd:Int) (w:World) (hg:ErrT w):Calls Tryz.prog 3 #[p.val,q.val,.int .i64 nd] w fun e w'=>e = .returned (.bool true)∧Keep w w':=by
  have mixed:Tryz.prog.follows .mixedOrders = true:=by kernel_rfl
  have T:=two w p q
  obtain ⟨W,hW⟩:∃ W,W = (w.alloc (.cells (podB p) 24)).alloc (.cells (podB q) 24):=⟨_,rfl⟩
  rw [← hW] at T
  have kW:=Lib.hid T.k
  have BP:=Lib.hid T.b0
  have BQ:=Lib.hid T.b1
  clear T
  obtain ⟨bp,hbp⟩:∃ b,b = w.heap.size:=⟨_,rfl⟩
  obtain ⟨bq,hbq⟩:∃ b,b = w.heap.size + 1:=⟨_,rfl⟩
  rw [← hbp] at BP
  rw [← hbq] at BQ
  have aw:Hid (∀ W2,Keep W W2→Calls Tryz.prog 6 #[] W2 fun e w'=>e = .returned (.bool true)∧Keep W2 w'):=fun W2 k=>awake_true C N W2 (hg.keep (kW.out.trans k))
  obtain ⟨sb,hsb⟩:∃ sb,sb = seesB p nd q:=⟨_,rfl⟩
  have cS:Hid (∀ W2,Calls Tryz.prog 7 #[p.val,q.val,.int .i64 nd] W2 fun e w'=>e = .returned (.bool sb)∧Keep W2 w'):=fun W2=>by rw [hsb];exact sees_fn p q nd W2
  have cR:Hid (∀ W2,Calls Tryz.prog 8 #[p.val,q.val,.int .i64 nd] W2 fun e w'=>e = .returned (.bool sb)∧Keep W2 w'):=fun W2=>by rw [hsb];exact rsees_fn p q nd W2
  have cT:Hid (∀ W2,Calls Tryz.prog 7 #[p.val,p.val,.int .i64 nd] W2 fun e w'=>e = .returned (.bool false)∧Keep W2 w'):=fun W2=>by
    have h:=sees_fn p p nd W2
    rwa [sees_self] at h
  replace hsb:=Lib.hid hsb
  replace hg:=Lib.hid hg
  unfold podB at hW
  unfold PodV.val at cS cR cT ⊢
  go_enter Tryz.func3,Tryz.ntmps3
  go_upto_region 1 with fail
  rw [← hW,← hbq,← hbp]
  replace hW:=Lib.hid hW
  replace hbp:=Lib.hid hbp
  replace hbq:=Lib.hid hbq
  have HELD:∀ Wz,Keep W Wz→(Wz.cell? ⟨bp,0,none⟩ = some (.int .i64 p.k)∧Wz.cell? ⟨bp,1,none⟩ = some (.int .i64 p.p)∧Wz.cell? ⟨bp,2,none⟩ = some (.bool p.f)∧Wz.cell? ⟨bp,3,none⟩ = some (.int .i64 p.g)∧Wz.cell? ⟨bp,4,none⟩ = some (.slice p.A p.m p.c)∧Wz.cell? ⟨bp,5,none⟩ = some (.int .i64 p.a)∧Wz.cell? ⟨bp,6,none⟩ = some (.int .i64 p.h)∧Wz.cell? ⟨bp,7,none⟩ = some (.int .i64 p.d)∧Wz.cell? ⟨bp,8,none⟩ = some (.int .i64 p.t)∧Wz.cell? ⟨bq,0,none⟩ = some (.int .i64 q.k)∧Wz.cell? ⟨bq,1,none⟩ = some (.int .i64 q.p)∧Wz.cell? ⟨bq,2,none⟩ = some (.bool q.f)∧Wz.cell? ⟨bq,3,none⟩ = some (.int .i64 q.g)∧Wz.cell? ⟨bq,4,none⟩ = some (.slice q.A q.m q.c)∧Wz.cell? ⟨bq,5,none⟩ = some (.int .i64 q.a)∧Wz.cell? ⟨bq,6,none⟩ = some (.int .i64 q.h)∧Wz.cell? ⟨bq,7,none⟩ = some (.int .i64 q.d)∧Wz.cell? ⟨bq,8,none⟩ = some (.int .i64 q.t)):=fun Wz KK=>⟨(blk9 (Keep.block KK BP.out)).e0,(blk9 (Keep.block KK BP.out)).e1,(blk9 (Keep.block KK BP.out)).e2,(blk9 (Keep.block KK BP.out)).e3,(blk9 (Keep.block KK BP.out)).e4,(blk9 (Keep.block KK BP.out)).e5,(blk9 (Keep.block KK BP.out)).e6,(blk9 (Keep.block KK BP.out)).e7,(blk9 (Keep.block KK BP.out)).e8,(blk9 (Keep.block KK BQ.out)).e0,(blk9 (Keep.block KK BQ.out)).e1,(blk9 (Keep.block KK BQ.out)).e2,(blk9 (Keep.block KK BQ.out)).e3,(blk9 (Keep.block KK BQ.out)).e4,(blk9 (Keep.block KK BQ.out)).e5,(blk9 (Keep.block KK BQ.out)).e6,(blk9 (Keep.block KK BQ.out)).e7,(blk9 (Keep.block KK BQ.out)).e8⟩
  refine wp_region_held_drew (S:=fun w'=>w'.cell? ⟨bp,0,none⟩ = some (.int .i64 p.k)∧w'.cell? ⟨bp,1,none⟩ = some (.int .i64 p.p)∧w'.cell? ⟨bp,2,none⟩ = some (.bool p.f)∧w'.cell? ⟨bp,3,none⟩ = some (.int .i64 p.g)∧w'.cell? ⟨bp,4,none⟩ = some (.slice p.A p.m p.c)∧w'.cell? ⟨bp,5,none⟩ = some (.int .i64 p.a)∧w'.cell? ⟨bp,6,none⟩ = some (.int .i64 p.h)∧w'.cell? ⟨bp,7,none⟩ = some (.int .i64 p.d)∧w'.cell? ⟨bp,8,none⟩ = some (.int .i64 p.t)∧w'.cell? ⟨bq,0,none⟩ = some (.int .i64 q.k)∧w'.cell? ⟨bq,1,none⟩ = some (.int .i64 q.p)∧w'.cell? ⟨bq,2,none⟩ = some (.bool q.f)∧w'.cell? ⟨bq,3,none⟩ = some (.int .i64 q.g)∧w'.cell? ⟨bq,4,none⟩ = some (.slice q.A q.m q.c)∧w'.cell? ⟨bq,5,none⟩ = some (.int .i64 q.a)∧w'.cell? ⟨bq,6,none⟩ = some (.int .i64 q.h)∧w'.cell? ⟨bq,7,none⟩ = some (.int .i64 q.d)∧w'.cell? ⟨bq,8,none⟩ = some (.int .i64 q.t)) (by kernel_rfl) ?_ (fun hHeld=>?_)
  · exact HELD _ (by repeat (with_reducible first | exact Keep.refl W | apply Keep.alloc | apply Keep.drew | apply Keep.drewN))
  refine wpAnyH_ready (rs:=[0]) (by kernel_rfl) (by simp) ?_
  refine AllReadyH.cons rfl (fun K hK=>?_) AllReadyH.nil
  simp only [List.getElem_toArray,List.getElem_cons_zero]
  rw [if_pos (by rfl)]
  go_simp
  refine (aw.out _ (by repeat (with_reducible first | exact Keep.refl W | apply Keep.alloc | apply Keep.drew | apply Keep.drewN))).mono ?_
  rintro e w1 ⟨rfl,k1⟩
  have k1':Hid (Keep W w1):=Keep.trans (by repeat (with_reducible first | exact Keep.refl W | apply Keep.alloc | apply Keep.drew | apply Keep.drewN)) k1
  replace k1:=Lib.hid k1
  go_wp2_with fail
  refine hK.out _ _ ?_ (fun hHeld=>?_)
  · exact HELD _ k1'.out
  clear hK K
  try simp only [Act.put,List.getElem_toArray,List.getElem_cons_zero,List.setIfInBounds_toArray,List.set_cons_zero,List.set_cons_succ]
  refine wpAnyH_take (i:=1) (v:=.bool true) rfl (by kernel_rfl) (by kernel_rfl) (by kernel_rfl) (fun _ _ _ h=>h) (Or.inl ⟨by rfl,fun Wz hW=>by obtain ⟨a0,a1,a2,a3,a4,a5,a6,a7,a8,b0,b1,b2,b3,b4,b5,b6,b7,b8⟩:=hW;go_simp⟩) hHeld ?_
  simp only [Act.put,List.getElem_toArray,List.getElem_cons_succ,List.getElem_cons_zero,List.setIfInBounds_toArray,List.set_cons_zero,List.set_cons_succ]
  refine wpAnyH_take (i:=2) (v:=.agg #[.int .i64 p.k,.int .i64 p.p,.bool p.f,.int .i64 p.g,.slice p.A p.m p.c,.int .i64 p.a,.int .i64 p.h,.int .i64 p.d,.int .i64 p.t]) rfl (by kernel_rfl) (by kernel_rfl) (by kernel_rfl) (fun _ _ _ h=>h) (Or.inl ⟨by rfl,fun Wz hW=>by obtain ⟨a0,a1,a2,a3,a4,a5,a6,a7,a8,b0,b1,b2,b3,b4,b5,b6,b7,b8⟩:=hW;go_simp⟩) hHeld ?_
  simp only [Act.put,List.getElem_toArray,List.getElem_cons_succ,List.getElem_cons_zero,List.setIfInBounds_toArray,List.set_cons_zero,List.set_cons_succ]
  refine wpAnyH_take (i:=3) (v:=.agg #[.int .i64 q.k,.int .i64 q.p,.bool q.f,.int .i64 q.g,.slice q.A q.m q.c,.int .i64 q.a,.int .i64 q.h,.int .i64 q.d,.int .i64 q.t]) rfl (by kernel_rfl) (by kernel_rfl) (by kernel_rfl) (fun _ _ _ h=>h) (Or.inl ⟨by rfl,fun Wz hW=>by obtain ⟨a0,a1,a2,a3,a4,a5,a6,a7,a8,b0,b1,b2,b3,b4,b5,b6,b7,b8⟩:=hW;go_simp⟩) hHeld ?_
  simp only [Act.put,List.getElem_toArray,List.getElem_cons_succ,List.getElem_cons_zero,List.setIfInBounds_toArray,List.set_cons_zero,List.set_cons_succ]
  refine wpAnyH_take (i:=4) (v:=.int .i64 nd) rfl (by kernel_rfl) (by kernel_rfl) (by kernel_rfl) (fun _ _ _ h=>h) (Or.inl ⟨by rfl,fun Wz hW=>by obtain ⟨a0,a1,a2,a3,a4,a5,a6,a7,a8,b0,b1,b2,b3,b4,b5,b6,b7,b8⟩:=hW;go_simp⟩) hHeld ?_
  simp only [Act.put,List.getElem_toArray,List.getElem_cons_succ,List.getElem_cons_zero,List.setIfInBounds_toArray,List.set_cons_zero,List.set_cons_succ]
  refine wpAnyH_take (i:=6) (v:=.agg #[.int .i64 p.k,.int .i64 p.p,.bool p.f,.int .i64 p.g,.slice p.A p.m p.c,.int .i64 p.a,.int .i64 p.h,.int .i64 p.d,.int .i64 p.t]) rfl (by kernel_rfl) (by kernel_rfl) (by kernel_rfl) (fun _ _ _ h=>h) (Or.inl ⟨by rfl,fun Wz hW=>by obtain ⟨a0,a1,a2,a3,a4,a5,a6,a7,a8,b0,b1,b2,b3,b4,b5,b6,b7,b8⟩:=hW;go_simp⟩) hHeld ?_
  simp only [Act.put,List.getElem_toArray,List.getElem_cons_succ,List.getElem_cons_zero,List.setIfInBounds_toArray,List.set_cons_zero,List.set_cons_succ]
  refine wpAnyH_take (i:=7) (v:=.agg #[.int .i64 q.k,.int .i64 q.p,.bool q.f,.int .i64 q.g,.slice q.A q.m q.c,.int .i64 q.a,.int .i64 q.h,.int .i64 q.d,.int .i64 q.t]) rfl (by kernel_rfl) (by kernel_rfl) (by kernel_rfl) (fun _ _ _ h=>h) (Or.inl ⟨by rfl,fun Wz hW=>by obtain ⟨a0,a1,a2,a3,a4,a5,a6,a7,a8,b0,b1,b2,b3,b4,b5,b6,b7,b8⟩:=hW;go_simp⟩) hHeld ?_
  simp only [Act.put,List.getElem_toArray,List.getElem_cons_succ,List.getElem_cons_zero,List.setIfInBounds_toArray,List.set_cons_zero,List.set_cons_succ]
  refine wpAnyH_take (i:=8) (v:=.int .i64 nd) rfl (by kernel_rfl) (by kernel_rfl) (by kernel_rfl) (fun _ _ _ h=>h) (Or.inl ⟨by rfl,fun Wz hW=>by obtain ⟨a0,a1,a2,a3,a4,a5,a6,a7,a8,b0,b1,b2,b3,b4,b5,b6,b7,b8⟩:=hW;go_simp⟩) hHeld ?_
  simp only [Act.put,List.getElem_toArray,List.getElem_cons_succ,List.getElem_cons_zero,List.setIfInBounds_toArray,List.set_cons_zero,List.set_cons_succ]
  refine wpAnyH_ready (rs:=[5]) (by kernel_rfl) (by simp) ?_
  refine AllReadyH.cons rfl (fun K hK=>?_) AllReadyH.nil
  simp only [List.getElem_toArray,List.getElem_cons_succ,List.getElem_cons_zero]
  rw [if_pos (by rfl)]
  go_simp
  refine (cS.out w1).mono ?_
  rintro e w2 ⟨rfl,k2⟩
  have k2':Hid (Keep W w2):=k1'.out.trans k2
  replace k2:=Lib.hid k2
  go_wp2_with fail
  refine hK.out _ _ ?_ (fun hHeld=>?_)
  · exact HELD _ k2'.out
  clear hK K
  try simp only [Act.put,List.getElem_toArray,List.getElem_cons_succ,List.getElem_cons_zero,List.setIfInBounds_toArray,List.set_cons_zero,List.set_cons_succ]
  refine wpAnyH_ready (rs:=[9]) (by kernel_rfl) (by simp) ?_
  refine AllReadyH.cons rfl (fun K hK=>?_) AllReadyH.nil
  simp only [List.getElem_toArray,List.getElem_cons_succ,List.getElem_cons_zero]
  rw [if_pos (by rfl)]
  go_simp
  refine (cR.out w2).mono ?_
  rintro e w3 ⟨rfl,k3⟩
  have k3':Hid (Keep W w3):=k2'.out.trans k3
  replace k3:=Lib.hid k3
  go_wp2_with fail
  refine hK.out _ _ ?_ (fun hHeld=>?_)
  · exact HELD _ k3'.out
  clear hK K
  try simp only [Act.put,List.getElem_toArray,List.getElem_cons_succ,List.getElem_cons_zero,List.setIfInBounds_toArray,List.set_cons_zero,List.set_cons_succ]
  refine wpAnyH_take (i:=10) (v:=.bool true) rfl (by kernel_rfl) (by kernel_rfl) (by kernel_rfl) (fun _ _ _ h=>h) (Or.inl ⟨by rfl,fun Wz hW=>by obtain ⟨a0,a1,a2,a3,a4,a5,a6,a7,a8,b0,b1,b2,b3,b4,b5,b6,b7,b8⟩:=hW;go_simp⟩) hHeld ?_
  simp only [Act.put,List.getElem_toArray,List.getElem_cons_succ,List.getElem_cons_zero,List.setIfInBounds_toArray,List.set_cons_zero,List.set_cons_succ]
  refine wpAnyH_take (i:=11) (v:=.bool true) rfl (by kernel_rfl) (by kernel_rfl) (by kernel_rfl) (fun _ _ _ h=>h) (Or.inl ⟨by rfl,fun Wz hW=>by obtain ⟨a0,a1,a2,a3,a4,a5,a6,a7,a8,b0,b1,b2,b3,b4,b5,b6,b7,b8⟩:=hW;go_simp⟩) hHeld ?_
  simp only [Act.put,List.getElem_toArray,List.getElem_cons_succ,List.getElem_cons_zero,List.setIfInBounds_toArray,List.set_cons_zero,List.set_cons_succ]
  refine wpAnyH_take (i:=12) (v:=.bool true) rfl (by kernel_rfl) (by kernel_rfl) (by kernel_rfl) (fun _ _ _ h=>h) (Or.inl ⟨by rfl,fun Wz hW=>by obtain ⟨a0,a1,a2,a3,a4,a5,a6,a7,a8,b0,b1,b2,b3,b4,b5,b6,b7,b8⟩:=hW;go_simp⟩) hHeld ?_
  simp only [Act.put,List.getElem_toArray,List.getElem_cons_succ,List.getElem_cons_zero,List.setIfInBounds_toArray,List.set_cons_zero,List.set_cons_succ]
  refine wpAnyH_take (i:=13) (v:=.agg #[.int .i64 p.k,.int .i64 p.p,.bool p.f,.int .i64 p.g,.slice p.A p.m p.c,.int .i64 p.a,.int .i64 p.h,.int .i64 p.d,.int .i64 p.t]) rfl (by kernel_rfl) (by kernel_rfl) (by kernel_rfl) (fun _ _ _ h=>h) (Or.inl ⟨by rfl,fun Wz hW=>by obtain ⟨a0,a1,a2,a3,a4,a5,a6,a7,a8,b0,b1,b2,b3,b4,b5,b6,b7,b8⟩:=hW;go_simp⟩) hHeld ?_
  simp only [Act.put,List.getElem_toArray,List.getElem_cons_succ,List.getElem_cons_zero,List.setIfInBounds_toArray,List.set_cons_zero,List.set_cons_succ]
  refine wpAnyH_take (i:=14) (v:=.agg #[.int .i64 p.k,.int .i64 p.p,.bool p.f,.int .i64 p.g,.slice p.A p.m p.c,.int .i64 p.a,.int .i64 p.h,.int .i64 p.d,.int .i64 p.t]) rfl (by kernel_rfl) (by kernel_rfl) (by kernel_rfl) (fun _ _ _ h=>h) (Or.inl ⟨by rfl,fun Wz hW=>by obtain ⟨a0,a1,a2,a3,a4,a5,a6,a7,a8,b0,b1,b2,b3,b4,b5,b6,b7,b8⟩:=hW;go_simp⟩) hHeld ?_
  simp only [Act.put,List.getElem_toArray,List.getElem_cons_succ,List.getElem_cons_zero,List.setIfInBounds_toArray,List.set_cons_zero,List.set_cons_succ]
  refine wpAnyH_take (i:=15) (v:=.int .i64 nd) rfl (by kernel_rfl) (by kernel_rfl) (by kernel_rfl) (fun _ _ _ h=>h) (Or.inl ⟨by rfl,fun Wz hW=>by obtain ⟨a0,a1,a2,a3,a4,a5,a6,a7,a8,b0,b1,b2,b3,b4,b5,b6,b7,b8⟩:=hW;go_simp⟩) hHeld ?_
  simp only [Act.put,List.getElem_toArray,List.getElem_cons_succ,List.getElem_cons_zero,List.setIfInBounds_toArray,List.set_cons_zero,List.set_cons_succ]
  refine wpAnyH_ready (rs:=[16]) (by kernel_rfl) (by simp) ?_
  refine AllReadyH.cons rfl (fun K hK=>?_) AllReadyH.nil
  simp only [List.getElem_toArray,List.getElem_cons_succ,List.getElem_cons_zero]
  rw [if_pos (by rfl)]
  go_simp
  refine (cT.out w3).mono ?_
  rintro e w4 ⟨rfl,k4⟩
  have k4':Hid (Keep W w4):=k3'.out.trans k4
  replace k4:=Lib.hid k4
  go_wp2_with fail
  refine hK.out _ _ ?_ (fun hHeld=>?_)
  · exact HELD _ k4'.out
  clear hK K
  try simp only [Act.put,List.getElem_toArray,List.getElem_cons_succ,List.getElem_cons_zero,List.setIfInBounds_toArray,List.set_cons_zero,List.set_cons_succ]
  refine wpAnyH_take (i:=17) (v:=.bool true) rfl (by kernel_rfl) (by kernel_rfl) (by kernel_rfl) (fun _ _ _ h=>h) (Or.inl ⟨by rfl,fun Wz hW=>by obtain ⟨a0,a1,a2,a3,a4,a5,a6,a7,a8,b0,b1,b2,b3,b4,b5,b6,b7,b8⟩:=hW;go_simp⟩) hHeld ?_
  simp only [Act.put,List.getElem_toArray,List.getElem_cons_succ,List.getElem_cons_zero,List.setIfInBounds_toArray,List.set_cons_zero,List.set_cons_succ]
  refine wpAnyH_take (i:=18) (v:=.bool true) rfl (by kernel_rfl) (by kernel_rfl) (by kernel_rfl) (fun _ _ _ h=>h) (Or.inl ⟨by rfl,fun Wz hW=>by obtain ⟨a0,a1,a2,a3,a4,a5,a6,a7,a8,b0,b1,b2,b3,b4,b5,b6,b7,b8⟩:=hW;go_simp⟩) hHeld ?_
  simp only [Act.put,List.getElem_toArray,List.getElem_cons_succ,List.getElem_cons_zero,List.setIfInBounds_toArray,List.set_cons_zero,List.set_cons_succ]
  refine wpAnyH_take (i:=19) (v:=.bool true) rfl (by kernel_rfl) (by kernel_rfl) (by kernel_rfl) (fun _ _ _ h=>h) (Or.inl ⟨by rfl,fun Wz hW=>by obtain ⟨a0,a1,a2,a3,a4,a5,a6,a7,a8,b0,b1,b2,b3,b4,b5,b6,b7,b8⟩:=hW;go_simp⟩) hHeld ?_
  simp only [Act.put,List.getElem_toArray,List.getElem_cons_succ,List.getElem_cons_zero,List.setIfInBounds_toArray,List.set_cons_zero,List.set_cons_succ]
  refine wpAnyH_done (by kernel_rfl) ?_ _
  go_wp2
  go_ret
  exact ⟨rfl,kW.out.trans k4'.out⟩
end Go.Proofs.YtinndaolcaehiaaGreatDoor.T15

