/-
  The law of P14.1 to P14.5: the cluster is that of the reference. Condition: errors.errorType holds its own.
-/
import Derived.Test.YtnclkefddkgojaaGreatDoorB26
namespace Go.Proofs.YtnclkefddkgojaaGreatDoor.T14
open Go.RowKit Go.Sort Go.Lib V12 T13
theorem find_lst14 {Q:Nat→PodV} {m:Nat} {M:List PodV} (h:(lst Q m).map nm = M) (id:Int):(id ∉ keys M∧findN Q id m = -1)∨(id ∈ keys M∧∃ t,t < m∧findN Q id m = (t:Int)∧nm (Q t) = getL M id):=by
  subst h
  rcases find_where Q id m with ⟨h1,h2⟩ | ⟨j,h1,h2,_,_,h5,h6⟩
  · refine Or.inl ⟨h2,?_⟩
    by_cases hn:∃ j,j < m∧(Q j).k = id
    · obtain ⟨j,hj,hk⟩:=hn
      exact absurd (find_iff.2 ⟨j,hj,hk⟩) h1
    · exact find_no fun t ht e=>hn ⟨t,ht,e⟩
  · exact Or.inr ⟨h5,j,h1,h2,h6.symm⟩
theorem RdOc.at {w:World} {b off n:Nat} {P:Nat→OpC} (h:RdOc w (some ⟨b,off,none⟩) n P) {j:Nat} (hj:j < n):Cel13 w b (off + j * 13) (P j):=by
  obtain ⟨b',off',e,c⟩:=h.adr (by omega)
  have e2:=Option.some.inj e
  simp only [Addr.mk.injEq,and_true] at e2
  obtain ⟨rfl,rfl⟩:=e2
  exact c j hj
set_option maxRecDepth 100000 in
set_option maxHeartbeats 16000000 in
theorem match_walk {CS:PredC} (C:Con CS) (N:NewOk CS) (A:Option Addr) (n c:Nat) (P:Nat→OpC) (dv:Int) (hdv:0≤dv∧dv≤255) (w:World) (hR:RdOc w A n P) (hg:ErrT w):Calls Tryz.prog 3 #[.int .u8 dv,.slice A n c] w fun e w'=>e = .returned (.bool true)∧Keep w w':=by
  have hs:=hR.small
  obtain ⟨fb,hfb⟩:=fewc_or P n
  have cF:Hid (∀ W,Keep w W→Calls Tryz.prog 10 #[.slice A n c] W fun e w'=>e = .returned (.bool fb)∧Keep W w'):=fun W k=>fewc_fn A n c P W (hR.keep k) fb hfb
  have aw:Hid (∀ W,Keep w W→Calls Tryz.prog 9 #[] W fun e w'=>e = .returned (.bool true)∧Keep W w'):=fun W k=>awake_true C N W (hg.keep k)
  obtain ⟨D,hDv⟩:∃ D:Nat,Int.tmod dv 9 = (D:Int):=⟨(Int.tmod dv 9).toNat,by rw [Int.toNat_of_nonneg];exact Int.tmod_nonneg _ hdv.1⟩
  have hD:Hid (D≤64):=by
    show _≤_
    have h1:Int.tmod dv 9 < 9:=Int.tmod_lt_of_pos dv (by omega)
    omega
  have hD64:=hD.out
  have cN:Hid (Calls Tryz.prog 8 #[.int .i64 D] w fun e w'=>∃ q,e = .returned (.pointer (some ⟨q,0,none⟩))∧CS w D q [] [] (fun _=>False) w'∧Keep w w'):=N D w w (Keep.refl w) (by omega)
  have CB:Hid (∀ b o,Con (Bx CS b o)):=fun b o=>bx_con C
  replace hfb:=Lib.hid hfb
  replace hg:=Lib.hid hg
  replace hR:=Lib.hid hR
  have hw1:wrap64 dv = dv:=by unfold wrap64;omega
  go_enter Tryz.func3,Tryz.ntmps3
  go_wp2_with fail
  replace hDv:=Lib.hid hDv
  replace hw1:=Lib.hid hw1
  replace hdv:=Lib.hid hdv
  clear hD64
  refine cN.out.mono ?_
  rintro e w1 ⟨q,rfl,o1,_⟩
  have K1:=Lib.hid (C.kp o1)
  replace o1:=Lib.hid o1
  go_wp2_with fail
  refine (aw.out _ K1.out).mono ?_
  rintro e w2 ⟨rfl,k2⟩
  replace o1:=Lib.hid (C.keep o1.out k2)
  replace K1:=Lib.hid (C.kp o1.out)
  replace k2:=Lib.hid k2
  go_wp2_with fail
  refine (cF.out w2 K1.out).mono ?_
  rintro e w3 ⟨rfl,k3⟩
  replace o1:=Lib.hid (C.keep o1.out k3)
  replace K1:=Lib.hid (C.kp o1.out)
  replace k3:=Lib.hid k3
  cases fb with
  | false =>
    go_wp2_with fail
    refine (aw.out _ K1.out).mono ?_
    rintro e w4 ⟨rfl,k4⟩
    go_wp2
    go_ret
    exact ⟨rfl,K1.out.trans k4⟩
  | true =>
  have hf:=hfb.out.1 rfl
  have hn:=hf.1
  replace hf:=Lib.hid hf
  clear cN aw cF
  obtain ⟨b,hb⟩:∃ b,b = w3.heap.size:=⟨_,rfl⟩
  obtain ⟨wb,hwb⟩:∃ wb,wb = w3.alloc (.cells (⟨D,none,0,0,none,0,0⟩:RcV).arr 30):=⟨_,rfl⟩
  have S0:=bx_new C o1.out ⟨D,none,0,0,none,0,0⟩ rfl hwb
  rw [← hb] at S0
  have S0:=Lib.hid S0
  unfold RcV.arr at hwb
  simp only at hwb
  go_wp2
  rw [← hwb]
  try rw [← hb]
  replace hwb:=Lib.hid hwb
  replace hb:=Lib.hid hb
  go_loopg [8,9] n (fun gx s8 s5 wr=>∃ (j:Nat) (x:RcV) (M:List NV) (L:List PodV) (Q:Nat→C14.NdC) (P':Nat→PodV) (X:Nat→Prop),j≤n∧gx = n - j∧s5 = .int .i64 j∧s8 = .bool true∧Hid (St (Bx CS b (.cells x.arr 30 (0,0))) w D q M L X wr x Q P')∧Hid (x.n≤j∧x.m≤j))
  case atStart=>exact ⟨0,_,[],[],_,_,_,Nat.zero_le _,rfl,rfl,rfl,S0.out,Nat.le_refl _,Nat.le_refl _⟩
  case round =>
    clear o1 K1 S0
    obtain ⟨j,x,M,L,Q,P',X,hj,rfl,rfl,rfl,ST,LE⟩:=hrel
    by_cases hlt:j < n
    · have KR:Hid (Keep w wr):=(CB.out _ _).kp ST.out.o
      obtain ⟨bo,off,hA,_⟩:=hR.out.adr (by omega)
      subst hA
      have q1:=atC bo off n c j hlt
      have ox:=hR.out.is j hlt
      have hfk:=hf.out.2 j hlt
      obtain ⟨o,ho⟩:∃ o,o = P j:=⟨_,rfl⟩
      obtain ⟨oo,hoo⟩:∃ oo,oo = off + j * 13:=⟨_,rfl⟩
      have atW:Hid (∀ W,Keep w W→Cel13 W bo oo o):=fun W k=>by rw [ho,hoo];exact (hR.out.keep k).at hlt
      rw [← ho] at ox hfk
      rw [← hoo] at q1
      replace ho:=Lib.hid ho
      replace hoo:=Lib.hid hoo
      have BW:Hid (wr.heap[b]? = some (.cells x.arr 30 (0,0))):=ST.out.o.2.1
      have HS:Hid (∀ W,Keep w W→W.heap[b]? = some (.cells x.arr 30 (0,0))→(W.cell? ⟨b,0,none⟩ = some (.int .i64 x.d)∧W.cell? ⟨b,1,none⟩ = some (.slice x.A x.n x.c)∧W.cell? ⟨b,2,none⟩ = some (.slice x.B x.m x.e)∧W.cell? ⟨bo,oo,none⟩ = some (.int .i64 o.kd)∧W.cell? ⟨bo,oo + 1,none⟩ = some (.int .i64 o.x.k)∧W.cell? ⟨bo,oo + 2,none⟩ = some (.int .i64 o.x.p)∧W.cell? ⟨bo,oo + 3,none⟩ = some (.bool o.x.f)∧W.cell? ⟨bo,oo + 4,none⟩ = some (.int .i64 o.x.g)∧W.cell? ⟨bo,oo + 5,none⟩ = some (.slice o.x.A o.x.m o.x.c)∧W.cell? ⟨bo,oo + 6,none⟩ = some (.int .i64 o.x.a)∧W.cell? ⟨bo,oo + 7,none⟩ = some (.int .i64 o.x.h)∧W.cell? ⟨bo,oo + 8,none⟩ = some (.int .i64 o.x.d)∧W.cell? ⟨bo,oo + 9,none⟩ = some (.int .i64 o.x.t)∧W.cell? ⟨bo,oo + 10,none⟩ = some (.int .i64 o.nd)∧W.cell? ⟨bo,oo + 11,none⟩ = some (.int .i64 o.ev)∧W.cell? ⟨bo,oo + 12,none⟩ = some (.slice o.A o.n o.c))):=fun W KW HB=>⟨(rc_cells HB).1,(rc_cells HB).2.1,(rc_cells HB).2.2.1,(atW.out W KW).k,(atW.out W KW).x.e0,(atW.out W KW).x.e1,(atW.out W KW).x.e2,(atW.out W KW).x.e3,(atW.out W KW).x.e4,(atW.out W KW).x.e5,(atW.out W KW).x.e6,(atW.out W KW).x.e7,(atW.out W KW).x.e8,(atW.out W KW).n,(atW.out W KW).e,(atW.out W KW).v⟩
      have cP:Hid (∀ W,Keep wr W→Calls Tryz.prog 11 #[.pointer (some ⟨q,0,none⟩),x.val,o.val] W fun e' w'=>∃ x' Q2 P2 X2,e' = .returned (.tuple #[(x':RcV).val,.bool true])∧St (Bx CS b (.cells x.arr 30 (0,0))) w D q (opM D M o) (opP D M L o) X2 w' x' Q2 P2∧(∀ i,X i→X2 i)∧SameX X W w'):=fun W k=>by
        refine (st_play (CB.out _ _) (ST.out.keep (CB.out _ _) k) hg.out hD.out o ox hfk (by have:=LE.out;omega) (by have:=LE.out;omega)).mono ?_
        rintro e' w' ⟨x',Q2,P2,X2,h1,h2,h3,h4⟩
        exact ⟨x',Q2,P2,X2,h1,h2,h3,h4⟩
      unfold RcV.val OpC.val at cP
      go_upto_region 10 with fail
      have HELD:∀ Wz,Keep wr Wz→(Wz.cell? ⟨b,0,none⟩ = some (.int .i64 x.d)∧Wz.cell? ⟨b,1,none⟩ = some (.slice x.A x.n x.c)∧Wz.cell? ⟨b,2,none⟩ = some (.slice x.B x.m x.e)∧Wz.cell? ⟨bo,oo,none⟩ = some (.int .i64 o.kd)∧Wz.cell? ⟨bo,oo + 1,none⟩ = some (.int .i64 o.x.k)∧Wz.cell? ⟨bo,oo + 2,none⟩ = some (.int .i64 o.x.p)∧Wz.cell? ⟨bo,oo + 3,none⟩ = some (.bool o.x.f)∧Wz.cell? ⟨bo,oo + 4,none⟩ = some (.int .i64 o.x.g)∧Wz.cell? ⟨bo,oo + 5,none⟩ = some (.slice o.x.A o.x.m o.x.c)∧Wz.cell? ⟨bo,oo + 6,none⟩ = some (.int .i64 o.x.a)∧Wz.cell? ⟨bo,oo + 7,none⟩ = some (.int .i64 o.x.h)∧Wz.cell? ⟨bo,oo + 8,none⟩ = some (.int .i64 o.x.d)∧Wz.cell? ⟨bo,oo + 9,none⟩ = some (.int .i64 o.x.t)∧Wz.cell? ⟨bo,oo + 10,none⟩ = some (.int .i64 o.nd)∧Wz.cell? ⟨bo,oo + 11,none⟩ = some (.int .i64 o.ev)∧Wz.cell? ⟨bo,oo + 12,none⟩ = some (.slice o.A o.n o.c)):=fun Wz KK=>(HS.out Wz (KR.out.trans KK) (keep_at KK (lt_of_block BW.out) |>.trans BW.out))
      refine OrdS.rest_start (fun w'=>w'.cell? ⟨b,0,none⟩ = some (.int .i64 x.d)∧w'.cell? ⟨b,1,none⟩ = some (.slice x.A x.n x.c)∧w'.cell? ⟨b,2,none⟩ = some (.slice x.B x.m x.e)∧w'.cell? ⟨bo,oo,none⟩ = some (.int .i64 o.kd)∧w'.cell? ⟨bo,oo + 1,none⟩ = some (.int .i64 o.x.k)∧w'.cell? ⟨bo,oo + 2,none⟩ = some (.int .i64 o.x.p)∧w'.cell? ⟨bo,oo + 3,none⟩ = some (.bool o.x.f)∧w'.cell? ⟨bo,oo + 4,none⟩ = some (.int .i64 o.x.g)∧w'.cell? ⟨bo,oo + 5,none⟩ = some (.slice o.x.A o.x.m o.x.c)∧w'.cell? ⟨bo,oo + 6,none⟩ = some (.int .i64 o.x.a)∧w'.cell? ⟨bo,oo + 7,none⟩ = some (.int .i64 o.x.h)∧w'.cell? ⟨bo,oo + 8,none⟩ = some (.int .i64 o.x.d)∧w'.cell? ⟨bo,oo + 9,none⟩ = some (.int .i64 o.x.t)∧w'.cell? ⟨bo,oo + 10,none⟩ = some (.int .i64 o.nd)∧w'.cell? ⟨bo,oo + 11,none⟩ = some (.int .i64 o.ev)∧w'.cell? ⟨bo,oo + 12,none⟩ = some (.slice o.A o.n o.c)) [8,9,10,11] (by kernel_rfl) ?_ (fun hHeld=>?_)
      · exact HELD _ (Keep.refl wr).drew
      obtain ⟨wt0,hwt0⟩:∃ W,W = wr.drew:=⟨_,rfl⟩
      have Kwt0:Hid (Keep wr wt0):=by rw [hwt0];exact (Keep.refl _).drew
      rw [← hwt0] at hHeld ⊢
      replace hwt0:=Lib.hid hwt0
      refine OrdS.rest_take (i:=0) (v:=.pointer (some ⟨q,0,none⟩)) rfl (by kernel_rfl) (by kernel_rfl) (by kernel_rfl) (by kernel_rfl) (by kernel_rfl) (fun _ _ _ h=>h) (Or.inl ⟨by rfl,fun Wz hW=>by obtain ⟨a0,a1,a2,u0,u1,u2,u3,u4,u5,u6,u7,u8,u9,u10,u11,u12⟩:=hW;go_simp⟩) hHeld ?_
      simp only [Act.put,List.getElem_toArray,List.getElem_cons_zero,List.setIfInBounds_toArray,List.set_cons_zero,List.set_cons_succ]
      refine OrdS.rest_take (i:=1) (v:=.agg #[.int .i64 x.d,.slice x.A x.n x.c,.slice x.B x.m x.e]) rfl (by kernel_rfl) (by kernel_rfl) (by kernel_rfl) (by kernel_rfl) (by kernel_rfl) (fun _ _ _ h=>h) (Or.inl ⟨by rfl,fun Wz hW=>by obtain ⟨a0,a1,a2,u0,u1,u2,u3,u4,u5,u6,u7,u8,u9,u10,u11,u12⟩:=hW;go_simp⟩) hHeld ?_
      simp only [Act.put,List.getElem_toArray,List.getElem_cons_succ,List.getElem_cons_zero,List.setIfInBounds_toArray,List.set_cons_zero,List.set_cons_succ]
      refine OrdS.rest_take (i:=2) (v:=.slice (some ⟨bo,off,none⟩) n c) rfl (by kernel_rfl) (by kernel_rfl) (by kernel_rfl) (by kernel_rfl) (by kernel_rfl) (fun _ _ _ h=>h) (Or.inl ⟨by rfl,fun Wz hW=>by obtain ⟨a0,a1,a2,u0,u1,u2,u3,u4,u5,u6,u7,u8,u9,u10,u11,u12⟩:=hW;go_simp⟩) hHeld ?_
      simp only [Act.put,List.getElem_toArray,List.getElem_cons_succ,List.getElem_cons_zero,List.setIfInBounds_toArray,List.set_cons_zero,List.set_cons_succ]
      refine OrdS.rest_take (i:=3) (v:=.int .i64 j) rfl (by kernel_rfl) (by kernel_rfl) (by kernel_rfl) (by kernel_rfl) (by kernel_rfl) (fun _ _ _ h=>h) (Or.inl ⟨by rfl,fun Wz hW=>by obtain ⟨a0,a1,a2,u0,u1,u2,u3,u4,u5,u6,u7,u8,u9,u10,u11,u12⟩:=hW;go_simp⟩) hHeld ?_
      simp only [Act.put,List.getElem_toArray,List.getElem_cons_succ,List.getElem_cons_zero,List.setIfInBounds_toArray,List.set_cons_zero,List.set_cons_succ]
      refine OrdS.rest_take (i:=4) (v:=.pointer (some ⟨bo,oo,none⟩)) rfl (by kernel_rfl) (by kernel_rfl) (by kernel_rfl) (by kernel_rfl) (by kernel_rfl) (fun _ _ _ h=>h) (Or.inl ⟨by rfl,fun Wz hW=>by obtain ⟨a0,a1,a2,u0,u1,u2,u3,u4,u5,u6,u7,u8,u9,u10,u11,u12⟩:=hW;go_simp⟩) hHeld ?_
      simp only [Act.put,List.getElem_toArray,List.getElem_cons_succ,List.getElem_cons_zero,List.setIfInBounds_toArray,List.set_cons_zero,List.set_cons_succ]
      refine OrdS.rest_take (i:=5) (v:=.agg #[.int .i64 o.kd,.int .i64 o.x.k,.int .i64 o.x.p,.bool o.x.f,.int .i64 o.x.g,.slice o.x.A o.x.m o.x.c,.int .i64 o.x.a,.int .i64 o.x.h,.int .i64 o.x.d,.int .i64 o.x.t,.int .i64 o.nd,.int .i64 o.ev,.slice o.A o.n o.c]) rfl (by kernel_rfl) (by kernel_rfl) (by kernel_rfl) (by kernel_rfl) (by kernel_rfl) (fun _ _ _ h=>h) (Or.inl ⟨by rfl,fun Wz hW=>by obtain ⟨a0,a1,a2,u0,u1,u2,u3,u4,u5,u6,u7,u8,u9,u10,u11,u12⟩:=hW;go_simp⟩) hHeld ?_
      simp only [Act.put,List.getElem_toArray,List.getElem_cons_succ,List.getElem_cons_zero,List.setIfInBounds_toArray,List.set_cons_zero,List.set_cons_succ]
      refine OrdS.rest_ready (rs:=[6]) (by kernel_rfl) (by simp) ?_
      refine OrdS.Each.cons rfl (fun K hK=>?_) OrdS.Each.nil
      simp only [List.getElem_toArray,List.getElem_cons_succ,List.getElem_cons_zero]
      rw [if_pos (by rfl)]
      go_simp
      refine (cP.out _ Kwt0.out).mono ?_
      rintro e' w4 ⟨x',Q2,P2,X2,rfl,ST2,XX,SX⟩
      have ST2:=Lib.hid ST2
      have KW4:Hid (Keep w w4):=(CB.out _ _).kp ST2.out.o
      go_wp2_with fail
      refine hK.out _ _ (fun _=>HS.out w4 KW4.out ST2.out.o.2.1) ?_
      have hHeld:=HS.out w4 KW4.out ST2.out.o.2.1
      clear hK K
      try simp only [Act.put,List.getElem_toArray,List.getElem_cons_succ,List.getElem_cons_zero,List.setIfInBounds_toArray,List.set_cons_zero,List.set_cons_succ]
      refine OrdS.rest_take (i:=7) (v:=.tuple #[.agg #[.int .i64 x'.d,.slice x'.A x'.n x'.c,.slice x'.B x'.m x'.e],.bool true]) rfl (by kernel_rfl) (by kernel_rfl) (by kernel_rfl) (by kernel_rfl) (by kernel_rfl) (fun _ _ _ h=>h) (Or.inl ⟨by rfl,fun Wz hW=>by obtain ⟨a0,a1,a2,u0,u1,u2,u3,u4,u5,u6,u7,u8,u9,u10,u11,u12⟩:=hW;go_simp⟩) hHeld ?_
      simp only [Act.put,List.getElem_toArray,List.getElem_cons_succ,List.getElem_cons_zero,List.setIfInBounds_toArray,List.set_cons_zero,List.set_cons_succ]
      refine OrdS.rest_takeP (i:=8) (v:=.agg #[.int .i64 x'.d,.slice x'.A x'.n x'.c,.slice x'.B x'.m x'.e]) rfl (by kernel_rfl) (by kernel_rfl) (by kernel_rfl) (by kernel_rfl) (fun _ _ _ h=>h) (Or.inl ⟨by rfl,fun Wz _=>by go_simp⟩) ?_
      simp only [Act.put,List.getElem_toArray,List.getElem_cons_succ,List.getElem_cons_zero,List.setIfInBounds_toArray,List.set_cons_zero,List.set_cons_succ]
      refine OrdS.rest_takeP (i:=9) (v:=.bool true) rfl (by kernel_rfl) (by kernel_rfl) (by kernel_rfl) (by kernel_rfl) (fun _ _ _ h=>h) (Or.inl ⟨by rfl,fun Wz _=>by go_simp⟩) ?_
      simp only [Act.put,List.getElem_toArray,List.getElem_cons_succ,List.getElem_cons_zero,List.setIfInBounds_toArray,List.set_cons_zero,List.set_cons_succ]
      refine OrdS.rest_ready (rs:=[10]) (by kernel_rfl) (by simp) ?_
      refine OrdS.Each.cons rfl (fun K hK=>?_) OrdS.Each.nil
      simp only [List.getElem_toArray,List.getElem_cons_succ,List.getElem_cons_zero]
      rw [if_pos (by rfl)]
      obtain ⟨t0,t1,t2,tf⟩:=rc_cells ST2.out.o.2.1
      go_simp
      refine hK.out _ _ (fun e=>absurd (by simp) e) ?_
      clear hK K
      refine OrdS.rest_takeP (i:=11) (v:=.bool true) rfl (by kernel_rfl) (by kernel_rfl) (by kernel_rfl) (by kernel_rfl) (fun _ _ _ h=>h) (Or.inl ⟨by rfl,fun Wz _=>by go_simp⟩) ?_
      simp only [Act.put,List.getElem_toArray,List.getElem_cons_succ,List.getElem_cons_zero,List.setIfInBounds_toArray,List.set_cons_zero,List.set_cons_succ]
      refine OrdS.rest_done (by kernel_rfl) ?_ _
      clear hHeld HELD Kwt0 hwt0 tf t0 t1 t2
      obtain ⟨w5,hw5⟩:∃ w5,w5 = put3 w4 b x':=⟨_,rfl⟩
      have ST5:=Lib.hid (bx_store C ST2.out hw5)
      have hw5e:=hw5
      unfold put3 at hw5e
      obtain ⟨t0,t1,t2,_⟩:=rc_cells ST5.out.o.2.1
      rw [hw5e] at t0 t1 t2
      go_wp2_with fail
      try rw [← hw5e]
      clear hw5e
      have LE5:Hid (x'.n≤j + 1∧x'.m≤j + 1):=by
        have:=post_len ST.out ST2.out
        have:=LE.out
        exact ⟨by omega,by omega⟩
      replace hw5:=Lib.hid hw5
      have KW5:Hid (Keep w w5):=(CB.out _ _).kp ST5.out.o
      have lM:x'.n≤100:=by have:=LE5.out;omega
      have lL:x'.m≤100:=by have:=LE5.out;omega
      obtain ⟨M2,hM2⟩:∃ M2,M2 = opM D M o:=⟨_,rfl⟩
      obtain ⟨L2,hL2⟩:∃ L2,L2 = opP D M L o:=⟨_,rfl⟩
      rw [← hM2,← hL2] at ST5
      replace hM2:=Lib.hid hM2
      replace hL2:=Lib.hid hL2
      have lL2:Hid (L2.length≤100):=by show _≤_;rw [ST5.out.lenL];omega
      have cSa:=Lib.hid (same_true (CB.out _ _) ST5.out hD.out lM lL)
      unfold RcV.val at cSa
      refine cSa.out.mono ?_
      rintro e' w6 ⟨rfl,k6⟩
      have ST6:=Lib.hid (ST5.out.keep (CB.out _ _) k6)
      have K56:=Lib.hid k6
      replace k6:=Lib.hid k6
      clear t0 t1 t2 cSa
      have KW6:Hid (Keep w w6):=KW5.out.trans K56.out
      have yk:=(atW.out w6 KW6.out).x.e0
      have cPd:Hid (Calls Tryz.prog 13 #[.pointer (some ⟨q,0,none⟩),.int .i64 o.x.k] w6 fun e w'=>∃ r:PodV,e = .returned (.tuple #[r.val,.bool (decide (o.x.k ∈ keys L2))])∧nm r = getL L2 o.x.k∧PodIs w' r∧Keep w6 w'):=(C.pod o.x.k ST6.out.un ox.x.rng.1 lL2.out).mono fun _ _ ⟨r,h1,h2,h3,_,h4⟩=>⟨r,h1,h2,h3,h4⟩
      obtain ⟨isb,hisb⟩:∃ isb,isb = decide (o.x.k ∈ keys L2):=⟨_,rfl⟩
      rw [← hisb] at cPd
      obtain ⟨fk,hfk2⟩:∃ fk,fk = findN P2 o.x.k x'.m:=⟨_,rfl⟩
      have hge:decide (0≤fk) = isb:=by
        rw [hisb,hfk2]
        rcases find_lst14 ST6.out.el o.x.k with ⟨h1,h2⟩ | ⟨h1,t,ht,h2,_⟩
        · rw [h2,decide_eq_false h1];rfl
        · rw [h2,decide_eq_true h1];exact decide_eq_true (by omega)
      have PRD:Hid (RdPods w6 x'.B x'.m P2):=ST6.out.rl.rd
      replace hisb:=Lib.hid hisb
      unfold PodV.val at cPd
      go_wp2_with fail
      refine cPd.out.mono ?_
      rintro e' w7 ⟨r,rfl,NR,IR,k7⟩
      have K67:=Lib.hid k7
      replace k7:=Lib.hid k7
      replace NR:=Lib.hid NR
      replace IR:=Lib.hid IR
      clear cPd yk
      obtain ⟨b10,hb10⟩:∃ b10,b10 = w7.heap.size:=⟨_,rfl⟩
      obtain ⟨w8,hw8⟩:∃ w8,w8 = w7.alloc (.cells #[.int .i64 r.k,.int .i64 r.p,.bool r.f,.int .i64 r.g,.slice r.A r.m r.c,.int .i64 r.a,.int .i64 r.h,.int .i64 r.d,.int .i64 r.t] 35):=⟨_,rfl⟩
      have Kw8:Hid (Keep w7 w8):=by rw [hw8];exact Keep.one _ _
      have Bb10:Hid (w8.heap[b10]? = some (.cells #[.int .i64 r.k,.int .i64 r.p,.bool r.f,.int .i64 r.g,.slice r.A r.m r.c,.int .i64 r.a,.int .i64 r.h,.int .i64 r.d,.int .i64 r.t] 35 (0,0))):=by rw [hw8,hb10];exact heap_alloc_new _ _
      have K68:Hid (Keep w6 w8):=K67.out.trans Kw8.out
      have KW8:Hid (Keep w w8):=KW6.out.trans K68.out
      have ST8:=Lib.hid (ST6.out.keep (CB.out _ _) K68.out)
      replace IR:=Lib.hid (IR.out.keep Kw8.out)
      have B10:Hid (w8.heap[b10]? = some (.cells (podB r) 35 (0,0))):=Bb10.out
      have t2:=(rc_cells ST8.out.o.2.1).2.2.1
      have yk:=(atW.out w8 KW8.out).x.e0
      have T2:=Lib.hid t2
      have YK:=Lib.hid yk
      have cFd:Hid (∀ Wz,Keep w8 Wz→Calls Tryz.prog 14 #[.slice x'.B x'.m x'.e,.int .i64 o.x.k] Wz fun e' w'=>e' = .returned (.int .i64 fk)∧Keep Wz w'):=fun Wz kk=>(rfind_fn x'.B x'.m x'.e P2 o.x.k Wz (PRD.out.keep (K68.out.trans kk))).mono fun _ _ ⟨h1,h2⟩=>⟨by rw [h1,hfk2],by rw [← h2];exact Keep.refl _⟩
      have SAME:Hid (∀ z,(findN P2 o.x.k x'.m < 0→z = zpod)→(∀ j:Nat,j < x'.m→findN P2 o.x.k x'.m = (j:Int)→z = P2 j)→SameV r z∧PodIs w8 z):=fun z hz1 hz2=>by
        rcases find_lst14 ST6.out.el o.x.k with ⟨h1,h2⟩ | ⟨h1,t,ht,h2,h3⟩
        · have e:=hz1 (by rw [h2];decide)
          rw [e]
          refine ⟨same_nm ?_,zpod_is _⟩
          rw [NR.out,get_none h1]
          rfl
        · have e:=hz2 t ht h2
          rw [e]
          exact ⟨same_nm (NR.out.trans h3.symm),(PRD.out.keep K68.out).is t ht⟩
      replace hfk2:=Lib.hid hfk2
      clear t2 yk
      go_upto_region 14 with fail
      rw [← hw8]
      try rw [← hb10]
      replace hw8:=Lib.hid hw8
      replace hb10:=Lib.hid hb10
      have t2:=T2.out
      have yk:=YK.out
      have yk2:=yk
      have HELD:∀ Wz,Keep w8 Wz→(Wz.cell? ⟨b,2,none⟩ = some (.slice x'.B x'.m x'.e)∧Wz.cell? ⟨bo,oo + 1,none⟩ = some (.int .i64 o.x.k)):=fun Wz KK=>⟨KK.cell t2,KK.cell yk⟩
      refine wp_region_held_drew (S:=fun w'=>w'.cell? ⟨b,2,none⟩ = some (.slice x'.B x'.m x'.e)∧w'.cell? ⟨bo,oo + 1,none⟩ = some (.int .i64 o.x.k)) (by kernel_rfl) ?_ (fun hHeld=>?_)
      · exact HELD _ (by repeat (with_reducible first | exact Keep.refl w8 | apply Keep.alloc | apply Keep.drew | apply Keep.drewN))
      refine wpAnyH_take (i:=0) (v:=.pointer (some ⟨b,2,none⟩)) rfl (by kernel_rfl) (by kernel_rfl) (by kernel_rfl) (fun _ _ _ h=>h) (Or.inl ⟨by rfl,fun Wz hW=>by obtain ⟨a2,ak⟩:=hW;go_simp⟩) hHeld ?_
      simp only [Act.put,List.getElem_toArray,List.getElem_cons_zero,List.setIfInBounds_toArray,List.set_cons_zero,List.set_cons_succ]
      refine wpAnyH_take (i:=1) (v:=.slice x'.B x'.m x'.e) rfl (by kernel_rfl) (by kernel_rfl) (by kernel_rfl) (fun _ _ _ h=>h) (Or.inl ⟨by rfl,fun Wz hW=>by obtain ⟨a2,ak⟩:=hW;go_simp⟩) hHeld ?_
      simp only [Act.put,List.getElem_toArray,List.getElem_cons_succ,List.getElem_cons_zero,List.setIfInBounds_toArray,List.set_cons_zero,List.set_cons_succ]
      refine wpAnyH_take (i:=2) (v:=.slice (some ⟨bo,off,none⟩) n c) rfl (by kernel_rfl) (by kernel_rfl) (by kernel_rfl) (fun _ _ _ h=>h) (Or.inl ⟨by rfl,fun Wz hW=>by obtain ⟨a2,ak⟩:=hW;go_simp⟩) hHeld ?_
      simp only [Act.put,List.getElem_toArray,List.getElem_cons_succ,List.getElem_cons_zero,List.setIfInBounds_toArray,List.set_cons_zero,List.set_cons_succ]
      refine wpAnyH_take (i:=3) (v:=.int .i64 j) rfl (by kernel_rfl) (by kernel_rfl) (by kernel_rfl) (fun _ _ _ h=>h) (Or.inl ⟨by rfl,fun Wz hW=>by obtain ⟨a2,ak⟩:=hW;go_simp⟩) hHeld ?_
      simp only [Act.put,List.getElem_toArray,List.getElem_cons_succ,List.getElem_cons_zero,List.setIfInBounds_toArray,List.set_cons_zero,List.set_cons_succ]
      refine wpAnyH_take (i:=4) (v:=.pointer (some ⟨bo,oo,none⟩)) rfl (by kernel_rfl) (by kernel_rfl) (by kernel_rfl) (fun _ _ _ h=>h) (Or.inl ⟨by rfl,fun Wz hW=>by obtain ⟨a2,ak⟩:=hW;go_simp⟩) hHeld ?_
      simp only [Act.put,List.getElem_toArray,List.getElem_cons_succ,List.getElem_cons_zero,List.setIfInBounds_toArray,List.set_cons_zero,List.set_cons_succ]
      refine wpAnyH_take (i:=5) (v:=.pointer (some ⟨bo,oo + 1,none⟩)) rfl (by kernel_rfl) (by kernel_rfl) (by kernel_rfl) (fun _ _ _ h=>h) (Or.inl ⟨by rfl,fun Wz hW=>by obtain ⟨a2,ak⟩:=hW;go_simp⟩) hHeld ?_
      simp only [Act.put,List.getElem_toArray,List.getElem_cons_succ,List.getElem_cons_zero,List.setIfInBounds_toArray,List.set_cons_zero,List.set_cons_succ]
      refine wpAnyH_take (i:=6) (v:=.pointer (some ⟨bo,oo + 1,none⟩)) rfl (by kernel_rfl) (by kernel_rfl) (by kernel_rfl) (fun _ _ _ h=>h) (Or.inl ⟨by rfl,fun Wz hW=>by obtain ⟨a2,ak⟩:=hW;go_simp⟩) hHeld ?_
      simp only [Act.put,List.getElem_toArray,List.getElem_cons_succ,List.getElem_cons_zero,List.setIfInBounds_toArray,List.set_cons_zero,List.set_cons_succ]
      refine wpAnyH_take (i:=7) (v:=.int .i64 o.x.k) rfl (by kernel_rfl) (by kernel_rfl) (by kernel_rfl) (fun _ _ _ h=>h) (Or.inl ⟨by rfl,fun Wz hW=>by obtain ⟨a2,ak⟩:=hW;go_simp⟩) hHeld ?_
      simp only [Act.put,List.getElem_toArray,List.getElem_cons_succ,List.getElem_cons_zero,List.setIfInBounds_toArray,List.set_cons_zero,List.set_cons_succ]
      refine wpAnyH_ready (rs:=[8]) (by kernel_rfl) (by simp) ?_
      refine AllReadyH.cons rfl (fun K hK=>?_) AllReadyH.nil
      simp only [List.getElem_toArray,List.getElem_cons_succ,List.getElem_cons_zero]
      rw [if_pos (by rfl)]
      go_simp
      refine (cFd.out _ (by repeat (with_reducible first | exact Keep.refl w8 | apply Keep.alloc | apply Keep.drew | apply Keep.drewN))).mono ?_
      rintro e' w9 ⟨rfl,k9⟩
      have K9:Hid (Keep w8 w9):=((Keep.refl _).drew:Keep w8 _).trans k9
      replace k9:=Lib.hid k9
      go_wp2_with fail
      refine hK.out _ _ ?_ (fun hHeld=>?_)
      · exact HELD _ K9.out
      clear hK K
      try simp only [Act.put,List.getElem_toArray,List.getElem_cons_succ,List.getElem_cons_zero,List.setIfInBounds_toArray,List.set_cons_zero,List.set_cons_succ]
      refine wpAnyH_take (i:=9) (v:=.int .i64 fk) rfl (by kernel_rfl) (by kernel_rfl) (by kernel_rfl) (fun _ _ _ h=>h) (Or.inl ⟨by rfl,fun Wz hW=>by obtain ⟨a2,ak⟩:=hW;go_simp⟩) hHeld ?_
      simp only [Act.put,List.getElem_toArray,List.getElem_cons_succ,List.getElem_cons_zero,List.setIfInBounds_toArray,List.set_cons_zero,List.set_cons_succ]
      refine wpAnyH_done (by kernel_rfl) ?_ _
      clear HELD hHeld t2 yk yk2
      obtain ⟨w10,hw10⟩:∃ w10,w10 = w9:=⟨_,rfl⟩
      have K810:Hid (Keep w8 w10):=by rw [hw10];exact K9.out
      have ST10:=Lib.hid (ST8.out.keep (CB.out _ _) K810.out)
      obtain ⟨s0,s1,s2,_⟩:=rc_cells ST10.out.o.2.1
      have sk:=(atW.out w10 (KW8.out.trans K810.out)).x.e0
      obtain ⟨r0,r1,r2,r3,r4,r5,r6,r7,r8,_⟩:=blk9 (K810.out.block B10.out)
      replace IR:=Lib.hid (IR.out.keep K810.out)
      replace SAME:Hid (∀ z,(findN P2 o.x.k x'.m < 0→z = zpod)→(∀ j:Nat,j < x'.m→findN P2 o.x.k x'.m = (j:Int)→z = P2 j)→SameV r z∧PodIs w10 z):=fun z h1 h2=>⟨(SAME.out z h1 h2).1,(SAME.out z h1 h2).2.keep K810.out⟩
      have cAf:Hid (∀ Wz,Keep w10 Wz→Calls Tryz.prog 16 #[x'.val,.int .i64 o.x.k,.int .i64 0] Wz (AfPost Wz P2 x'.m o.x.k 0)):=fun Wz kk=>after_fn x'.d x'.A x'.n x'.c x'.B x'.m x'.e P2 o.x.k 0 Wz (ST10.out.rl.rd.keep kk)
      unfold RcV.val at cAf
      go_upto_region 15 with fail
      rw [← hw10]
      replace hw10:=Lib.hid hw10
      have HELD:∀ Wz,Keep w10 Wz→(Wz.cell? ⟨b,0,none⟩ = some (.int .i64 x'.d)∧Wz.cell? ⟨b,1,none⟩ = some (.slice x'.A x'.n x'.c)∧Wz.cell? ⟨b,2,none⟩ = some (.slice x'.B x'.m x'.e)∧Wz.cell? ⟨bo,oo + 1,none⟩ = some (.int .i64 o.x.k)∧Wz.cell? ⟨b10,0,none⟩ = some (.int .i64 r.k)∧Wz.cell? ⟨b10,1,none⟩ = some (.int .i64 r.p)∧Wz.cell? ⟨b10,2,none⟩ = some (.bool r.f)∧Wz.cell? ⟨b10,3,none⟩ = some (.int .i64 r.g)∧Wz.cell? ⟨b10,4,none⟩ = some (.slice r.A r.m r.c)∧Wz.cell? ⟨b10,5,none⟩ = some (.int .i64 r.a)∧Wz.cell? ⟨b10,6,none⟩ = some (.int .i64 r.h)∧Wz.cell? ⟨b10,7,none⟩ = some (.int .i64 r.d)∧Wz.cell? ⟨b10,8,none⟩ = some (.int .i64 r.t)):=fun Wz KK=>⟨KK.cell s0,KK.cell s1,KK.cell s2,KK.cell sk,KK.cell r0,KK.cell r1,KK.cell r2,KK.cell r3,KK.cell r4,KK.cell r5,KK.cell r6,KK.cell r7,KK.cell r8⟩
      refine wp_region_held_drew (S:=fun w'=>w'.cell? ⟨b,0,none⟩ = some (.int .i64 x'.d)∧w'.cell? ⟨b,1,none⟩ = some (.slice x'.A x'.n x'.c)∧w'.cell? ⟨b,2,none⟩ = some (.slice x'.B x'.m x'.e)∧w'.cell? ⟨bo,oo + 1,none⟩ = some (.int .i64 o.x.k)∧w'.cell? ⟨b10,0,none⟩ = some (.int .i64 r.k)∧w'.cell? ⟨b10,1,none⟩ = some (.int .i64 r.p)∧w'.cell? ⟨b10,2,none⟩ = some (.bool r.f)∧w'.cell? ⟨b10,3,none⟩ = some (.int .i64 r.g)∧w'.cell? ⟨b10,4,none⟩ = some (.slice r.A r.m r.c)∧w'.cell? ⟨b10,5,none⟩ = some (.int .i64 r.a)∧w'.cell? ⟨b10,6,none⟩ = some (.int .i64 r.h)∧w'.cell? ⟨b10,7,none⟩ = some (.int .i64 r.d)∧w'.cell? ⟨b10,8,none⟩ = some (.int .i64 r.t)) (by kernel_rfl) ?_ (fun hHeld=>?_)
      · exact HELD _ (by repeat (with_reducible first | exact Keep.refl w10 | apply Keep.alloc | apply Keep.drew | apply Keep.drewN))
      refine wpAnyH_take (i:=0) (v:=.bool isb) rfl (by kernel_rfl) (by kernel_rfl) (by kernel_rfl) (fun _ _ _ h=>h) (Or.inl ⟨by rfl,fun Wz hW=>by obtain ⟨a0,a1,a2,ak,u0,u1,u2,u3,u4,u5,u6,u7,u8⟩:=hW;go_simp⟩) hHeld ?_
      simp only [Act.put,List.getElem_toArray,List.getElem_cons_zero,List.setIfInBounds_toArray,List.set_cons_zero,List.set_cons_succ]
      refine wpAnyH_take (i:=1) (v:=.int .i64 fk) rfl (by kernel_rfl) (by kernel_rfl) (by kernel_rfl) (fun _ _ _ h=>h) (Or.inl ⟨by rfl,fun Wz hW=>by obtain ⟨a0,a1,a2,ak,u0,u1,u2,u3,u4,u5,u6,u7,u8⟩:=hW;go_simp⟩) hHeld ?_
      simp only [Act.put,List.getElem_toArray,List.getElem_cons_succ,List.getElem_cons_zero,List.setIfInBounds_toArray,List.set_cons_zero,List.set_cons_succ]
      refine wpAnyH_take (i:=2) (v:=.bool isb) rfl (by kernel_rfl) (by kernel_rfl) (by kernel_rfl) (fun _ _ _ h=>h) (Or.inl ⟨by rfl,fun Wz hW=>by obtain ⟨a0,a1,a2,ak,u0,u1,u2,u3,u4,u5,u6,u7,u8⟩:=hW;go_simp⟩) hHeld ?_
      simp only [Act.put,List.getElem_toArray,List.getElem_cons_succ,List.getElem_cons_zero,List.setIfInBounds_toArray,List.set_cons_zero,List.set_cons_succ]
      refine wpAnyH_take (i:=3) (v:=.bool false) rfl (by kernel_rfl) (by kernel_rfl) (by kernel_rfl) (fun _ _ _ h=>h) (Or.inl ⟨by rfl,fun Wz hW=>by obtain ⟨a0,a1,a2,ak,u0,u1,u2,u3,u4,u5,u6,u7,u8⟩:=hW;go_simp⟩) hHeld ?_
      simp only [Act.put,List.getElem_toArray,List.getElem_cons_succ,List.getElem_cons_zero,List.setIfInBounds_toArray,List.set_cons_zero,List.set_cons_succ]
      refine wpAnyH_take (i:=4) (v:=.bool false) rfl (by kernel_rfl) (by kernel_rfl) (by kernel_rfl) (fun _ _ _ h=>h) (Or.inl ⟨by rfl,fun Wz hW=>by obtain ⟨a0,a1,a2,ak,u0,u1,u2,u3,u4,u5,u6,u7,u8⟩:=hW;go_simp⟩) hHeld ?_
      simp only [Act.put,List.getElem_toArray,List.getElem_cons_succ,List.getElem_cons_zero,List.setIfInBounds_toArray,List.set_cons_zero,List.set_cons_succ]
      refine wpAnyH_take (i:=5) (v:=.agg #[.int .i64 r.k,.int .i64 r.p,.bool r.f,.int .i64 r.g,.slice r.A r.m r.c,.int .i64 r.a,.int .i64 r.h,.int .i64 r.d,.int .i64 r.t]) rfl (by kernel_rfl) (by kernel_rfl) (by kernel_rfl) (fun _ _ _ h=>h) (Or.inl ⟨by rfl,fun Wz hW=>by obtain ⟨a0,a1,a2,ak,u0,u1,u2,u3,u4,u5,u6,u7,u8⟩:=hW;go_simp⟩) hHeld ?_
      simp only [Act.put,List.getElem_toArray,List.getElem_cons_succ,List.getElem_cons_zero,List.setIfInBounds_toArray,List.set_cons_zero,List.set_cons_succ]
      refine wpAnyH_take (i:=6) (v:=.agg #[.int .i64 x'.d,.slice x'.A x'.n x'.c,.slice x'.B x'.m x'.e]) rfl (by kernel_rfl) (by kernel_rfl) (by kernel_rfl) (fun _ _ _ h=>h) (Or.inl ⟨by rfl,fun Wz hW=>by obtain ⟨a0,a1,a2,ak,u0,u1,u2,u3,u4,u5,u6,u7,u8⟩:=hW;go_simp⟩) hHeld ?_
      simp only [Act.put,List.getElem_toArray,List.getElem_cons_succ,List.getElem_cons_zero,List.setIfInBounds_toArray,List.set_cons_zero,List.set_cons_succ]
      refine wpAnyH_take (i:=7) (v:=.slice (some ⟨bo,off,none⟩) n c) rfl (by kernel_rfl) (by kernel_rfl) (by kernel_rfl) (fun _ _ _ h=>h) (Or.inl ⟨by rfl,fun Wz hW=>by obtain ⟨a0,a1,a2,ak,u0,u1,u2,u3,u4,u5,u6,u7,u8⟩:=hW;go_simp⟩) hHeld ?_
      simp only [Act.put,List.getElem_toArray,List.getElem_cons_succ,List.getElem_cons_zero,List.setIfInBounds_toArray,List.set_cons_zero,List.set_cons_succ]
      refine wpAnyH_take (i:=8) (v:=.int .i64 j) rfl (by kernel_rfl) (by kernel_rfl) (by kernel_rfl) (fun _ _ _ h=>h) (Or.inl ⟨by rfl,fun Wz hW=>by obtain ⟨a0,a1,a2,ak,u0,u1,u2,u3,u4,u5,u6,u7,u8⟩:=hW;go_simp⟩) hHeld ?_
      simp only [Act.put,List.getElem_toArray,List.getElem_cons_succ,List.getElem_cons_zero,List.setIfInBounds_toArray,List.set_cons_zero,List.set_cons_succ]
      refine wpAnyH_take (i:=9) (v:=.pointer (some ⟨bo,oo,none⟩)) rfl (by kernel_rfl) (by kernel_rfl) (by kernel_rfl) (fun _ _ _ h=>h) (Or.inl ⟨by rfl,fun Wz hW=>by obtain ⟨a0,a1,a2,ak,u0,u1,u2,u3,u4,u5,u6,u7,u8⟩:=hW;go_simp⟩) hHeld ?_
      simp only [Act.put,List.getElem_toArray,List.getElem_cons_succ,List.getElem_cons_zero,List.setIfInBounds_toArray,List.set_cons_zero,List.set_cons_succ]
      refine wpAnyH_take (i:=10) (v:=.pointer (some ⟨bo,oo + 1,none⟩)) rfl (by kernel_rfl) (by kernel_rfl) (by kernel_rfl) (fun _ _ _ h=>h) (Or.inl ⟨by rfl,fun Wz hW=>by obtain ⟨a0,a1,a2,ak,u0,u1,u2,u3,u4,u5,u6,u7,u8⟩:=hW;go_simp⟩) hHeld ?_
      simp only [Act.put,List.getElem_toArray,List.getElem_cons_succ,List.getElem_cons_zero,List.setIfInBounds_toArray,List.set_cons_zero,List.set_cons_succ]
      refine wpAnyH_take (i:=11) (v:=.pointer (some ⟨bo,oo + 1,none⟩)) rfl (by kernel_rfl) (by kernel_rfl) (by kernel_rfl) (fun _ _ _ h=>h) (Or.inl ⟨by rfl,fun Wz hW=>by obtain ⟨a0,a1,a2,ak,u0,u1,u2,u3,u4,u5,u6,u7,u8⟩:=hW;go_simp⟩) hHeld ?_
      simp only [Act.put,List.getElem_toArray,List.getElem_cons_succ,List.getElem_cons_zero,List.setIfInBounds_toArray,List.set_cons_zero,List.set_cons_succ]
      refine wpAnyH_take (i:=12) (v:=.int .i64 o.x.k) rfl (by kernel_rfl) (by kernel_rfl) (by kernel_rfl) (fun _ _ _ h=>h) (Or.inl ⟨by rfl,fun Wz hW=>by obtain ⟨a0,a1,a2,ak,u0,u1,u2,u3,u4,u5,u6,u7,u8⟩:=hW;go_simp⟩) hHeld ?_
      simp only [Act.put,List.getElem_toArray,List.getElem_cons_succ,List.getElem_cons_zero,List.setIfInBounds_toArray,List.set_cons_zero,List.set_cons_succ]
      refine wpAnyH_ready (rs:=[13]) (by kernel_rfl) (by simp) ?_
      refine AllReadyH.cons rfl (fun K hK=>?_) AllReadyH.nil
      simp only [List.getElem_toArray,List.getElem_cons_succ,List.getElem_cons_zero]
      rw [if_pos (by rfl)]
      go_simp
      refine (cAf.out _ (by repeat (with_reducible first | exact Keep.refl w10 | apply Keep.alloc | apply Keep.drew | apply Keep.drewN))).mono ?_
      rintro e' w11 ⟨z,rfl,k11,hz1,hz2⟩
      have K11:Hid (Keep w10 w11):=((Keep.refl _).drew:Keep w10 _).trans k11
      replace k11:=Lib.hid k11
      have SZ:=Lib.hid (SAME.out z (fun h=>hz1 (Or.inr h)) (fun t h1 h2=>hz2 (by simp) t h1 h2))
      clear hz1 hz2
      have cY:=Lib.hid (rsamepod_fn r z w11 SZ.out.1 (IR.out.keep K11.out) (SZ.out.2.keep K11.out))
      unfold PodV.val at cY ⊢
      go_wp2_with fail
      refine hK.out _ _ ?_ (fun hHeld=>?_)
      · exact HELD _ K11.out
      clear hK K
      try simp only [Act.put,List.getElem_toArray,List.getElem_cons_succ,List.getElem_cons_zero,List.setIfInBounds_toArray,List.set_cons_zero,List.set_cons_succ]
      refine wpAnyH_ready (rs:=[14]) (by kernel_rfl) (by simp) ?_
      refine AllReadyH.cons rfl (fun K hK=>?_) AllReadyH.nil
      simp only [List.getElem_toArray,List.getElem_cons_succ,List.getElem_cons_zero]
      rw [if_pos (by rfl)]
      go_simp
      refine (cY.out).mono ?_
      rintro e' w12 ⟨rfl,k12⟩
      have K12:Hid (Keep w10 w12):=K11.out.trans k12.keep
      replace k12:=Lib.hid k12
      go_wp2_with fail
      refine hK.out _ _ ?_ (fun hHeld=>?_)
      · exact HELD _ K12.out
      clear hK K
      try simp only [Act.put,List.getElem_toArray,List.getElem_cons_succ,List.getElem_cons_zero,List.setIfInBounds_toArray,List.set_cons_zero,List.set_cons_succ]
      refine wpAnyH_take (i:=15) (v:=.bool false) rfl (by kernel_rfl) (by kernel_rfl) (by kernel_rfl) (fun _ _ _ h=>h) (Or.inl ⟨by rfl,fun Wz hW=>by obtain ⟨a0,a1,a2,ak,u0,u1,u2,u3,u4,u5,u6,u7,u8⟩:=hW;go_simp⟩) hHeld ?_
      simp only [Act.put,List.getElem_toArray,List.getElem_cons_succ,List.getElem_cons_zero,List.setIfInBounds_toArray,List.set_cons_zero,List.set_cons_succ]
      refine wpAnyH_take (i:=16) (v:=.bool false) rfl (by kernel_rfl) (by kernel_rfl) (by kernel_rfl) (fun _ _ _ h=>h) (Or.inl ⟨by rfl,fun Wz hW=>by obtain ⟨a0,a1,a2,ak,u0,u1,u2,u3,u4,u5,u6,u7,u8⟩:=hW;go_simp⟩) hHeld ?_
      simp only [Act.put,List.getElem_toArray,List.getElem_cons_succ,List.getElem_cons_zero,List.setIfInBounds_toArray,List.set_cons_zero,List.set_cons_succ]
      refine wpAnyH_done (by kernel_rfl) ?_ _
      have ST12:=Lib.hid (ST10.out.keep (CB.out _ _) K12.out)
      clear HELD hHeld s0 s1 s2 sk r0 r1 r2 r3 r4 r5 r6 r7 r8
      go_wp2
      go_roundg (n - (j + 1))
      case measure=>omega
      case rel=>exact ⟨j + 1,x',_,_,Q2,P2,_,hlt,rfl,by go_num,rfl,ST12.out,LE5.out⟩
    · obtain rfl:j = n:=by omega
      go_wp2
      go_ret
      exact ⟨rfl,(CB.out _ _).kp ST.out.o⟩
end Go.Proofs.YtnclkefddkgojaaGreatDoor.T14

