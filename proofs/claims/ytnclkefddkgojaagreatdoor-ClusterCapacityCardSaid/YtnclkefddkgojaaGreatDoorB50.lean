/-
  The law of P14.6: what is used fits. Condition: errors.errorType holds its own.
-/
import Derived.Test.YtnclkefddkgojaaGreatDoorB26
namespace Go.Proofs.YtnclkefddkgojaaGreatDoor.T14
open Go.RowKit Go.Sort Go.Lib V12 T13
theorem RdOc.at {w:World} {b off n:Nat} {P:Nat→OpC} (h:RdOc w (some ⟨b,off,none⟩) n P) {j:Nat} (hj:j < n):Cel13 w b (off + j * 13) (P j):=by
  obtain ⟨b',off',e,c⟩:=h.adr (by omega)
  have e2:=Option.some.inj e
  simp only [Addr.mk.injEq,and_true] at e2
  obtain ⟨rfl,rfl⟩:=e2
  exact c j hj
set_option maxRecDepth 100000 in
set_option maxHeartbeats 16000000 in
theorem cap_walk {CS:PredC} (C:Con CS) (N:NewOk CS) (A:Option Addr) (n c:Nat) (P:Nat→OpC) (w:World) (hR:RdOc w A n P) (hg:ErrT w):Calls Tryz.prog 4 #[.slice A n c] w fun e w'=>e = .returned (.bool true)∧Keep w w':=by
  have hs:=hR.small
  obtain ⟨fb,hfb⟩:=fewc_or P n
  have cF:Hid (∀ W,Keep w W→Calls Tryz.prog 10 #[.slice A n c] W fun e w'=>e = .returned (.bool fb)∧Keep W w'):=fun W k=>fewc_fn A n c P W (hR.keep k) fb hfb
  have aw:Hid (∀ W,Keep w W→Calls Tryz.prog 9 #[] W fun e w'=>e = .returned (.bool true)∧Keep W w'):=fun W k=>awake_true C N W (hg.keep k)
  have cN:Hid (Calls Tryz.prog 8 #[.int .i64 2] w fun e w'=>∃ q,e = .returned (.pointer (some ⟨q,0,none⟩))∧CS w 2 q [] [] (fun _=>False) w'∧Keep w w'):=N 2 w w (Keep.refl w) (by omega)
  have CB:Hid (∀ b o,Con (Bx CS b o)):=fun b o=>bx_con C
  replace hfb:=Lib.hid hfb
  replace hg:=Lib.hid hg
  replace hR:=Lib.hid hR
  go_enter Tryz.func4,Tryz.ntmps4
  go_wp2_with fail
  refine cN.out.mono ?_
  rintro e w1 ⟨q,rfl,o1,_⟩
  have K1:=Lib.hid (C.kp o1)
  replace o1:=Lib.hid o1
  go_wp2_with fail
  refine (aw.out _ K1.out).mono ?_
  rintro e w2 ⟨rfl,k2⟩
  replace o1:=Lib.hid (C.keep o1.out k2)
  replace K1:=Lib.hid (C.kp o1.out)
  replace k2:=Lib.hid k2
  go_wp2_with fail
  refine (cF.out w2 K1.out).mono ?_
  rintro e w3 ⟨rfl,k3⟩
  replace o1:=Lib.hid (C.keep o1.out k3)
  replace K1:=Lib.hid (C.kp o1.out)
  replace k3:=Lib.hid k3
  cases fb with
  | false =>
    go_wp2_with fail
    refine (aw.out _ K1.out).mono ?_
    rintro e w4 ⟨rfl,k4⟩
    go_wp2
    go_ret
    exact ⟨rfl,K1.out.trans k4⟩
  | true =>
  have hf:=hfb.out.1 rfl
  have hn:=hf.1
  replace hf:=Lib.hid hf
  clear cN aw cF
  obtain ⟨b,hb⟩:∃ b,b = w3.heap.size:=⟨_,rfl⟩
  obtain ⟨wb,hwb⟩:∃ wb,wb = w3.alloc (.cells (⟨2,none,0,0,none,0,0⟩:RcV).arr 30):=⟨_,rfl⟩
  have S0:=bx_new C o1.out ⟨2,none,0,0,none,0,0⟩ rfl hwb
  rw [← hb] at S0
  have S0:=Lib.hid S0
  unfold RcV.arr at hwb
  simp only at hwb
  go_wp2
  rw [← hwb]
  try rw [← hb]
  replace hwb:=Lib.hid hwb
  replace hb:=Lib.hid hb
  go_loopg [5] n (fun gx s5 wr=>∃ (j:Nat) (x:RcV) (M:List NV) (L:List PodV) (Q:Nat→C14.NdC) (P':Nat→PodV) (X:Nat→Prop),j≤n∧gx = n - j∧s5 = .int .i64 j∧Hid (St (Bx CS b (.cells x.arr 30 (0,0))) w 2 q M L X wr x Q P')∧Hid (x.n≤j∧x.m≤j))
  case atStart=>exact ⟨0,_,[],[],_,_,_,Nat.zero_le _,rfl,rfl,S0.out,Nat.le_refl _,Nat.le_refl _⟩
  case round =>
    clear o1 K1 S0
    obtain ⟨j,x,M,L,Q,P',X,hj,rfl,rfl,ST,LE⟩:=hrel
    by_cases hlt:j < n
    · have KR:Hid (Keep w wr):=(CB.out _ _).kp ST.out.o
      obtain ⟨bo,off,hA,_⟩:=hR.out.adr (by omega)
      subst hA
      have q1:=atC bo off n c j hlt
      have ox:=hR.out.is j hlt
      have hfk:=hf.out.2 j hlt
      obtain ⟨o,ho⟩:∃ o,o = P j:=⟨_,rfl⟩
      obtain ⟨oo,hoo⟩:∃ oo,oo = off + j * 13:=⟨_,rfl⟩
      have atW:Hid (∀ W,Keep w W→Cel13 W bo oo o):=fun W k=>by rw [ho,hoo];exact (hR.out.keep k).at hlt
      rw [← ho] at ox hfk
      rw [← hoo] at q1
      replace ho:=Lib.hid ho
      replace hoo:=Lib.hid hoo
      have BW:Hid (wr.heap[b]? = some (.cells x.arr 30 (0,0))):=ST.out.o.2.1
      have HS:Hid (∀ W,Keep w W→W.heap[b]? = some (.cells x.arr 30 (0,0))→(W.cell? ⟨b,0,none⟩ = some (.int .i64 x.d)∧W.cell? ⟨b,1,none⟩ = some (.slice x.A x.n x.c)∧W.cell? ⟨b,2,none⟩ = some (.slice x.B x.m x.e)∧W.cell? ⟨bo,oo,none⟩ = some (.int .i64 o.kd)∧W.cell? ⟨bo,oo + 1,none⟩ = some (.int .i64 o.x.k)∧W.cell? ⟨bo,oo + 2,none⟩ = some (.int .i64 o.x.p)∧W.cell? ⟨bo,oo + 3,none⟩ = some (.bool o.x.f)∧W.cell? ⟨bo,oo + 4,none⟩ = some (.int .i64 o.x.g)∧W.cell? ⟨bo,oo + 5,none⟩ = some (.slice o.x.A o.x.m o.x.c)∧W.cell? ⟨bo,oo + 6,none⟩ = some (.int .i64 o.x.a)∧W.cell? ⟨bo,oo + 7,none⟩ = some (.int .i64 o.x.h)∧W.cell? ⟨bo,oo + 8,none⟩ = some (.int .i64 o.x.d)∧W.cell? ⟨bo,oo + 9,none⟩ = some (.int .i64 o.x.t)∧W.cell? ⟨bo,oo + 10,none⟩ = some (.int .i64 o.nd)∧W.cell? ⟨bo,oo + 11,none⟩ = some (.int .i64 o.ev)∧W.cell? ⟨bo,oo + 12,none⟩ = some (.slice o.A o.n o.c))):=fun W KW HB=>⟨(rc_cells HB).1,(rc_cells HB).2.1,(rc_cells HB).2.2.1,(atW.out W KW).k,(atW.out W KW).x.e0,(atW.out W KW).x.e1,(atW.out W KW).x.e2,(atW.out W KW).x.e3,(atW.out W KW).x.e4,(atW.out W KW).x.e5,(atW.out W KW).x.e6,(atW.out W KW).x.e7,(atW.out W KW).x.e8,(atW.out W KW).n,(atW.out W KW).e,(atW.out W KW).v⟩
      have cP:Hid (∀ W,Keep wr W→Calls Tryz.prog 11 #[.pointer (some ⟨q,0,none⟩),x.val,o.val] W fun e' w'=>∃ x' Q2 P2 X2,e' = .returned (.tuple #[(x':RcV).val,.bool true])∧St (Bx CS b (.cells x.arr 30 (0,0))) w 2 q (opM 2 M o) (opP 2 M L o) X2 w' x' Q2 P2∧(∀ i,X i→X2 i)∧SameX X W w'):=fun W k=>by
        refine (st_play (CB.out _ _) (ST.out.keep (CB.out _ _) k) hg.out (by omega) o ox hfk (by have:=LE.out;omega) (by have:=LE.out;omega)).mono ?_
        rintro e' w' ⟨x',Q2,P2,X2,h1,h2,h3,h4⟩
        exact ⟨x',Q2,P2,X2,h1,h2,h3,h4⟩
      unfold RcV.val OpC.val at cP
      go_upto_region 8 with fail
      have HELD:∀ Wz,Keep wr Wz→(Wz.cell? ⟨b,0,none⟩ = some (.int .i64 x.d)∧Wz.cell? ⟨b,1,none⟩ = some (.slice x.A x.n x.c)∧Wz.cell? ⟨b,2,none⟩ = some (.slice x.B x.m x.e)∧Wz.cell? ⟨bo,oo,none⟩ = some (.int .i64 o.kd)∧Wz.cell? ⟨bo,oo + 1,none⟩ = some (.int .i64 o.x.k)∧Wz.cell? ⟨bo,oo + 2,none⟩ = some (.int .i64 o.x.p)∧Wz.cell? ⟨bo,oo + 3,none⟩ = some (.bool o.x.f)∧Wz.cell? ⟨bo,oo + 4,none⟩ = some (.int .i64 o.x.g)∧Wz.cell? ⟨bo,oo + 5,none⟩ = some (.slice o.x.A o.x.m o.x.c)∧Wz.cell? ⟨bo,oo + 6,none⟩ = some (.int .i64 o.x.a)∧Wz.cell? ⟨bo,oo + 7,none⟩ = some (.int .i64 o.x.h)∧Wz.cell? ⟨bo,oo + 8,none⟩ = some (.int .i64 o.x.d)∧Wz.cell? ⟨bo,oo + 9,none⟩ = some (.int .i64 o.x.t)∧Wz.cell? ⟨bo,oo + 10,none⟩ = some (.int .i64 o.nd)∧Wz.cell? ⟨bo,oo + 11,none⟩ = some (.int .i64 o.ev)∧Wz.cell? ⟨bo,oo + 12,none⟩ = some (.slice o.A o.n o.c)):=fun Wz KK=>(HS.out Wz (KR.out.trans KK) (keep_at KK (lt_of_block BW.out) |>.trans BW.out))
      refine OrdS.rest_start (fun w'=>w'.cell? ⟨b,0,none⟩ = some (.int .i64 x.d)∧w'.cell? ⟨b,1,none⟩ = some (.slice x.A x.n x.c)∧w'.cell? ⟨b,2,none⟩ = some (.slice x.B x.m x.e)∧w'.cell? ⟨bo,oo,none⟩ = some (.int .i64 o.kd)∧w'.cell? ⟨bo,oo + 1,none⟩ = some (.int .i64 o.x.k)∧w'.cell? ⟨bo,oo + 2,none⟩ = some (.int .i64 o.x.p)∧w'.cell? ⟨bo,oo + 3,none⟩ = some (.bool o.x.f)∧w'.cell? ⟨bo,oo + 4,none⟩ = some (.int .i64 o.x.g)∧w'.cell? ⟨bo,oo + 5,none⟩ = some (.slice o.x.A o.x.m o.x.c)∧w'.cell? ⟨bo,oo + 6,none⟩ = some (.int .i64 o.x.a)∧w'.cell? ⟨bo,oo + 7,none⟩ = some (.int .i64 o.x.h)∧w'.cell? ⟨bo,oo + 8,none⟩ = some (.int .i64 o.x.d)∧w'.cell? ⟨bo,oo + 9,none⟩ = some (.int .i64 o.x.t)∧w'.cell? ⟨bo,oo + 10,none⟩ = some (.int .i64 o.nd)∧w'.cell? ⟨bo,oo + 11,none⟩ = some (.int .i64 o.ev)∧w'.cell? ⟨bo,oo + 12,none⟩ = some (.slice o.A o.n o.c)) [8,9,10] (by kernel_rfl) ?_ (fun hHeld=>?_)
      · exact HELD _ (Keep.refl wr).drew
      obtain ⟨wt0,hwt0⟩:∃ W,W = wr.drew:=⟨_,rfl⟩
      have Kwt0:Hid (Keep wr wt0):=by rw [hwt0];exact (Keep.refl _).drew
      rw [← hwt0] at hHeld ⊢
      replace hwt0:=Lib.hid hwt0
      refine OrdS.rest_take (i:=0) (v:=.pointer (some ⟨q,0,none⟩)) rfl (by kernel_rfl) (by kernel_rfl) (by kernel_rfl) (by kernel_rfl) (by kernel_rfl) (fun _ _ _ h=>h) (Or.inl ⟨by rfl,fun Wz hW=>by obtain ⟨a0,a1,a2,u0,u1,u2,u3,u4,u5,u6,u7,u8,u9,u10,u11,u12⟩:=hW;go_simp⟩) hHeld ?_
      simp only [Act.put,List.getElem_toArray,List.getElem_cons_zero,List.setIfInBounds_toArray,List.set_cons_zero,List.set_cons_succ]
      refine OrdS.rest_take (i:=1) (v:=.agg #[.int .i64 x.d,.slice x.A x.n x.c,.slice x.B x.m x.e]) rfl (by kernel_rfl) (by kernel_rfl) (by kernel_rfl) (by kernel_rfl) (by kernel_rfl) (fun _ _ _ h=>h) (Or.inl ⟨by rfl,fun Wz hW=>by obtain ⟨a0,a1,a2,u0,u1,u2,u3,u4,u5,u6,u7,u8,u9,u10,u11,u12⟩:=hW;go_simp⟩) hHeld ?_
      simp only [Act.put,List.getElem_toArray,List.getElem_cons_succ,List.getElem_cons_zero,List.setIfInBounds_toArray,List.set_cons_zero,List.set_cons_succ]
      refine OrdS.rest_take (i:=2) (v:=.slice (some ⟨bo,off,none⟩) n c) rfl (by kernel_rfl) (by kernel_rfl) (by kernel_rfl) (by kernel_rfl) (by kernel_rfl) (fun _ _ _ h=>h) (Or.inl ⟨by rfl,fun Wz hW=>by obtain ⟨a0,a1,a2,u0,u1,u2,u3,u4,u5,u6,u7,u8,u9,u10,u11,u12⟩:=hW;go_simp⟩) hHeld ?_
      simp only [Act.put,List.getElem_toArray,List.getElem_cons_succ,List.getElem_cons_zero,List.setIfInBounds_toArray,List.set_cons_zero,List.set_cons_succ]
      refine OrdS.rest_take (i:=3) (v:=.int .i64 j) rfl (by kernel_rfl) (by kernel_rfl) (by kernel_rfl) (by kernel_rfl) (by kernel_rfl) (fun _ _ _ h=>h) (Or.inl ⟨by rfl,fun Wz hW=>by obtain ⟨a0,a1,a2,u0,u1,u2,u3,u4,u5,u6,u7,u8,u9,u10,u11,u12⟩:=hW;go_simp⟩) hHeld ?_
      simp only [Act.put,List.getElem_toArray,List.getElem_cons_succ,List.getElem_cons_zero,List.setIfInBounds_toArray,List.set_cons_zero,List.set_cons_succ]
      refine OrdS.rest_take (i:=4) (v:=.pointer (some ⟨bo,oo,none⟩)) rfl (by kernel_rfl) (by kernel_rfl) (by kernel_rfl) (by kernel_rfl) (by kernel_rfl) (fun _ _ _ h=>h) (Or.inl ⟨by rfl,fun Wz hW=>by obtain ⟨a0,a1,a2,u0,u1,u2,u3,u4,u5,u6,u7,u8,u9,u10,u11,u12⟩:=hW;go_simp⟩) hHeld ?_
      simp only [Act.put,List.getElem_toArray,List.getElem_cons_succ,List.getElem_cons_zero,List.setIfInBounds_toArray,List.set_cons_zero,List.set_cons_succ]
      refine OrdS.rest_take (i:=5) (v:=.agg #[.int .i64 o.kd,.int .i64 o.x.k,.int .i64 o.x.p,.bool o.x.f,.int .i64 o.x.g,.slice o.x.A o.x.m o.x.c,.int .i64 o.x.a,.int .i64 o.x.h,.int .i64 o.x.d,.int .i64 o.x.t,.int .i64 o.nd,.int .i64 o.ev,.slice o.A o.n o.c]) rfl (by kernel_rfl) (by kernel_rfl) (by kernel_rfl) (by kernel_rfl) (by kernel_rfl) (fun _ _ _ h=>h) (Or.inl ⟨by rfl,fun Wz hW=>by obtain ⟨a0,a1,a2,u0,u1,u2,u3,u4,u5,u6,u7,u8,u9,u10,u11,u12⟩:=hW;go_simp⟩) hHeld ?_
      simp only [Act.put,List.getElem_toArray,List.getElem_cons_succ,List.getElem_cons_zero,List.setIfInBounds_toArray,List.set_cons_zero,List.set_cons_succ]
      refine OrdS.rest_ready (rs:=[6]) (by kernel_rfl) (by simp) ?_
      refine OrdS.Each.cons rfl (fun K hK=>?_) OrdS.Each.nil
      simp only [List.getElem_toArray,List.getElem_cons_succ,List.getElem_cons_zero]
      rw [if_pos (by rfl)]
      go_simp
      refine (cP.out _ Kwt0.out).mono ?_
      rintro e' w4 ⟨x',Q2,P2,X2,rfl,ST2,XX,SX⟩
      have ST2:=Lib.hid ST2
      have KW4:Hid (Keep w w4):=(CB.out _ _).kp ST2.out.o
      go_wp2_with fail
      refine hK.out _ _ (fun _=>HS.out w4 KW4.out ST2.out.o.2.1) ?_
      have hHeld:=HS.out w4 KW4.out ST2.out.o.2.1
      clear hK K
      try simp only [Act.put,List.getElem_toArray,List.getElem_cons_succ,List.getElem_cons_zero,List.setIfInBounds_toArray,List.set_cons_zero,List.set_cons_succ]
      refine OrdS.rest_take (i:=7) (v:=.tuple #[.agg #[.int .i64 x'.d,.slice x'.A x'.n x'.c,.slice x'.B x'.m x'.e],.bool true]) rfl (by kernel_rfl) (by kernel_rfl) (by kernel_rfl) (by kernel_rfl) (by kernel_rfl) (fun _ _ _ h=>h) (Or.inl ⟨by rfl,fun Wz hW=>by obtain ⟨a0,a1,a2,u0,u1,u2,u3,u4,u5,u6,u7,u8,u9,u10,u11,u12⟩:=hW;go_simp⟩) hHeld ?_
      simp only [Act.put,List.getElem_toArray,List.getElem_cons_succ,List.getElem_cons_zero,List.setIfInBounds_toArray,List.set_cons_zero,List.set_cons_succ]
      refine OrdS.rest_takeP (i:=8) (v:=.agg #[.int .i64 x'.d,.slice x'.A x'.n x'.c,.slice x'.B x'.m x'.e]) rfl (by kernel_rfl) (by kernel_rfl) (by kernel_rfl) (by kernel_rfl) (fun _ _ _ h=>h) (Or.inl ⟨by rfl,fun Wz _=>by go_simp⟩) ?_
      simp only [Act.put,List.getElem_toArray,List.getElem_cons_succ,List.getElem_cons_zero,List.setIfInBounds_toArray,List.set_cons_zero,List.set_cons_succ]
      refine OrdS.rest_takeP (i:=9) (v:=.bool true) rfl (by kernel_rfl) (by kernel_rfl) (by kernel_rfl) (by kernel_rfl) (fun _ _ _ h=>h) (Or.inl ⟨by rfl,fun Wz _=>by go_simp⟩) ?_
      simp only [Act.put,List.getElem_toArray,List.getElem_cons_succ,List.getElem_cons_zero,List.setIfInBounds_toArray,List.set_cons_zero,List.set_cons_succ]
      refine OrdS.rest_ready (rs:=[10]) (by kernel_rfl) (by simp) ?_
      refine OrdS.Each.cons rfl (fun K hK=>?_) OrdS.Each.nil
      simp only [List.getElem_toArray,List.getElem_cons_succ,List.getElem_cons_zero]
      rw [if_pos (by rfl)]
      obtain ⟨t0,t1,t2,tf⟩:=rc_cells ST2.out.o.2.1
      go_simp
      refine hK.out _ _ (fun e=>absurd (by simp) e) ?_
      clear hK K
      refine OrdS.rest_done (by kernel_rfl) ?_ _
      clear hHeld HELD Kwt0 hwt0 tf t0 t1 t2
      obtain ⟨w5,hw5⟩:∃ w5,w5 = put3 w4 b x':=⟨_,rfl⟩
      have ST5:=Lib.hid (bx_store C ST2.out hw5)
      have hw5e:=hw5
      unfold put3 at hw5e
      go_wp2_with fail
      try rw [← hw5e]
      clear hw5e
      have LE5:Hid (x'.n≤j + 1∧x'.m≤j + 1):=by
        have:=post_len ST.out ST2.out
        have:=LE.out
        exact ⟨by omega,by omega⟩
      replace hw5:=Lib.hid hw5
      have KW5:Hid (Keep w w5):=(CB.out _ _).kp ST5.out.o
      have lM:(opM 2 M o).length≤100:=by rw [ST5.out.lenM];have:=LE5.out;omega
      have lL:(opP 2 M L o).length≤100:=by rw [ST5.out.lenL];have:=LE5.out;omega
      obtain ⟨M2,hM2⟩:∃ M2,M2 = opM 2 M o:=⟨_,rfl⟩
      obtain ⟨L2,hL2⟩:∃ L2,L2 = opP 2 M L o:=⟨_,rfl⟩
      rw [← hM2,← hL2] at ST5
      rw [← hM2] at lM
      rw [← hL2] at lL
      have ok:=Lib.hid (C.ok ST5.out.un)
      have cNs:Hid (Calls Tryz.prog 17 #[.pointer (some ⟨q,0,none⟩)] w5 fun e' w'=>∃ NA nc Q0,e' = .returned (.slice NA M2.length nc)∧C14.RdC w' NA M2.length Q0∧(C14.lst Q0 M2.length).map nv = M2∧(∀ j,j < M2.length→(Q0 j).n = 2)∧Keep w5 w'):=(C.nodes ST5.out.un lM).mono fun _ _ ⟨NA,nc,h1,⟨Q0,h2,h3,h4⟩,h5⟩=>⟨NA,nc,Q0,h1,h2,h3,h4,h5⟩
      have cPs:Hid (∀ Wz,Keep w5 Wz→Calls Tryz.prog 18 #[.pointer (some ⟨q,0,none⟩)] Wz fun e' w'=>∃ PA pc S,e' = .returned (.slice PA L2.length pc)∧RdPods w' PA L2.length S∧(lst S L2.length).map nm = L2∧Keep Wz w'):=fun Wz kk=>(C.pods (C.keep ST5.out.un kk) lL).mono fun _ _ ⟨v,S,h1,h2,h3,h4⟩=>by
        obtain ⟨PA,pc,rfl,h5⟩:=h2.rd (by omega)
        exact ⟨PA,pc,S,h1,h5,h3,h4⟩
      obtain ⟨nn,hnn⟩:∃ nn,nn = M2.length:=⟨_,rfl⟩
      obtain ⟨mm,hmm⟩:∃ mm,mm = L2.length:=⟨_,rfl⟩
      rw [← hnn] at cNs lM
      rw [← hmm] at cPs lL
      replace hM2:=Lib.hid hM2
      replace hL2:=Lib.hid hL2
      replace hnn:=Lib.hid hnn
      replace hmm:=Lib.hid hmm
      go_wp2_with fail
      refine cNs.out.mono ?_
      rintro e' w6 ⟨NA,nc,Q0,rfl,NR,NE,ND,k6⟩
      have K6:=Lib.hid k6
      replace k6:=Lib.hid k6
      replace NR:=Lib.hid NR
      replace NE:=Lib.hid NE
      replace ND:=Lib.hid ND
      clear cNs
      go_wp2_with fail
      refine (cPs.out w6 K6.out).mono ?_
      rintro e' w7 ⟨PA,pc,S,rfl,PR,PE,k7⟩
      have K7:Hid (Keep w5 w7):=K6.out.trans k7
      replace NR:=Lib.hid (NR.out.keep k7)
      replace k7:=Lib.hid k7
      replace PR:=Lib.hid PR
      replace PE:=Lib.hid PE
      clear cPs
      obtain ⟨b6,hb6⟩:∃ b6,b6 = w7.heap.size:=⟨_,rfl⟩
      obtain ⟨w8,hw8⟩:∃ w8,w8 = w7.alloc (.cells #[.int .i64 2,.slice NA nn nc,.slice PA mm pc] 30):=⟨_,rfl⟩
      have Kw8:Hid (Keep w7 w8):=by rw [hw8];exact Keep.one _ _
      have B6:Hid (w8.heap[b6]? = some (.cells (⟨2,NA,nn,nc,PA,mm,pc⟩:RcV).arr 30 (0,0))):=by rw [hw8,hb6];exact heap_alloc_new _ _
      have K8:Hid (Keep w5 w8):=K7.out.trans Kw8.out
      go_wp2
      rw [← hw8]
      try rw [← hb6]
      replace hw8:=Lib.hid hw8
      replace hb6:=Lib.hid hb6
      generalize hwo:wr = wo at *
      clear hwo
      go_loopg [7] nn (fun gx s7 wr=>∃ k:Nat,k≤nn∧gx = nn - k∧s7 = .int .i64 k∧Hid (Keep w8 wr))
      case atStart=>exact ⟨0,Nat.zero_le _,rfl,rfl,Keep.refl _⟩
      case round =>
        obtain ⟨k,hk,rfl,rfl,K0⟩:=hrel
        obtain ⟨x0,x1,x2,xf⟩:=rc_cells (K0.out.block B6.out)
        simp only at x0 x1 x2
        by_cases hlt2:k < nn
        · obtain ⟨gn,on,hA,ca⟩:=(NR.out.row.keep (Kw8.out.trans K0.out)).adr (by omega)
          rw [hA] at x1
          have q2:=C14.atN gn on nn nc k hlt2
          have V:=ca k hlt2
          clear ca
          obtain ⟨v,hv⟩:∃ v,v = Q0 k:=⟨_,rfl⟩
          have vM:Hid (nv v ∈ M2):=by rw [hv,← NE.out];exact List.mem_map_of_mem (C14.lst_mem.2 ⟨k,hlt2,rfl⟩)
          have vR:Hid (Rd w8 v.A 2 v.C):=by
            have h1:=(NR.out.keep Kw8.out).rd k hlt2
            rw [← hv] at h1
            have h2:=ND.out k hlt2
            rw [← hv] at h2
            rw [h2] at h1
            exact h1
          have vn:v.n = 2:=by rw [hv];exact ND.out k hlt2
          rw [← hv] at V
          have v0:=V.e0
          have v1:=V.e1
          rw [vn] at v1
          clear V
          replace hv:=Lib.hid hv
          replace hA:=Lib.hid hA
          replace vn:=Lib.hid vn
          have cU:Hid (∀ Wz,Keep wr Wz→Calls Tryz.prog 20 #[.agg #[.int .i64 2,.slice (some ⟨gn,on,none⟩) nn nc,.slice PA mm pc],.int .i64 v.k] Wz fun e' w'=>∃ g,e' = .returned (.slice (some ⟨g,0,none⟩) 2 2)∧Rd w' (some ⟨g,0,none⟩) 2 (usedL L2 v.k)∧Keep Wz w'):=fun Wz kk=>by
            have hu:usedL (lst S mm) v.k = usedL L2 v.k:=by funext j;rw [← used_nm,PE.out]
            have h0:=rused_fn (⟨2,some ⟨gn,on,none⟩,nn,nc,PA,mm,pc⟩:RcV) 2 rfl (by omega) S v.k Wz (PR.out.keep ((Kw8.out.trans K0.out).trans kk)) (by show mm≤100;omega) (fun j hj=>?_)
            · refine h0.mono ?_
              rintro e' w' ⟨g,h1,_,h3,h4⟩
              refine ⟨g,h1,?_,h4⟩
              simp only at h3
              rw [hu] at h3
              refine h3.rd (by omega) fun j hj=>?_
              have h6:=usedL_lo (L:=L2) (id:=v.k) (j:=j) (ok.out.amtL hj)
              have h7:=ok.out.fit _ vM.out j hj
              have h8:=ok.out.cap _ vM.out j hj
              unfold Amt at h8
              unfold nv at h7 h8
              simp only at h7 h8
              omega
            · have hm2:nm (S j) ∈ L2:=by rw [← PE.out];exact List.mem_map_of_mem (lst_mem.2 ⟨j,hj,rfl⟩)
              have h9:=ok.out.req (nm (S j)) hm2
              exact h9
          have cFi:Hid (∀ Wz gu,Rd Wz (some ⟨gu,0,none⟩) 2 (usedL L2 v.k)→Keep wr Wz→Calls Tryz.prog 19 #[.slice (some ⟨gu,0,none⟩) 2 2,.slice v.A 2 v.c] Wz fun e' w'=>e' = .returned (.bool true)∧Keep Wz w'):=fun Wz gu h1 kk=>by
            have hb:fitsB 2 (usedL L2 v.k) 2 v.C = true:=by
              unfold fitsB
              exact decide_eq_true ⟨rfl,fun j hj=>by have h7:=ok.out.fit _ vM.out j hj;unfold nv at h7;exact h7⟩
            refine (rfits_is (some ⟨gu,0,none⟩) v.A 2 2 2 v.c (usedL L2 v.k) v.C Wz h1 (vR.out.keep (K0.out.trans kk)) true hb).mono ?_
            rintro e' w' ⟨h2,qq,rfl⟩
            exact ⟨h2,(Gr.refl Wz |>.drewN qq).keep⟩
          go_upto_region 13 with fail
          have HELD:∀ Wz,Keep wr Wz→(Wz.cell? ⟨b6,0,none⟩ = some (.int .i64 2)∧Wz.cell? ⟨b6,1,none⟩ = some (.slice (some ⟨gn,on,none⟩) nn nc)∧Wz.cell? ⟨b6,2,none⟩ = some (.slice PA mm pc)∧Wz.cell? ⟨gn,on + k * 2,none⟩ = some (.int .i64 v.k)∧Wz.cell? ⟨gn,on + k * 2 + 1,none⟩ = some (.slice v.A 2 v.c)):=fun Wz KK=>⟨KK.cell x0,KK.cell x1,KK.cell x2,KK.cell v0,KK.cell v1⟩
          refine wp_region_held_drew (S:=fun w'=>w'.cell? ⟨b6,0,none⟩ = some (.int .i64 2)∧w'.cell? ⟨b6,1,none⟩ = some (.slice (some ⟨gn,on,none⟩) nn nc)∧w'.cell? ⟨b6,2,none⟩ = some (.slice PA mm pc)∧w'.cell? ⟨gn,on + k * 2,none⟩ = some (.int .i64 v.k)∧w'.cell? ⟨gn,on + k * 2 + 1,none⟩ = some (.slice v.A 2 v.c)) (by kernel_rfl) ?_ (fun hHeld=>?_)
          · exact HELD _ (by repeat (with_reducible first | exact Keep.refl wr | apply Keep.alloc | apply Keep.drew | apply Keep.drewN))
          refine wpAnyH_take (i:=0) (v:=.agg #[.int .i64 2,.slice (some ⟨gn,on,none⟩) nn nc,.slice PA mm pc]) rfl (by kernel_rfl) (by kernel_rfl) (by kernel_rfl) (fun _ _ _ h=>h) (Or.inl ⟨by rfl,fun Wz hW=>by obtain ⟨a0,a1,a2,e0,e1⟩:=hW;go_simp⟩) hHeld ?_
          simp only [Act.put,List.getElem_toArray,List.getElem_cons_zero,List.setIfInBounds_toArray,List.set_cons_zero,List.set_cons_succ]
          refine wpAnyH_take (i:=1) (v:=.pointer (some ⟨b6,1,none⟩)) rfl (by kernel_rfl) (by kernel_rfl) (by kernel_rfl) (fun _ _ _ h=>h) (Or.inl ⟨by rfl,fun Wz hW=>by obtain ⟨a0,a1,a2,e0,e1⟩:=hW;go_simp⟩) hHeld ?_
          simp only [Act.put,List.getElem_toArray,List.getElem_cons_succ,List.getElem_cons_zero,List.setIfInBounds_toArray,List.set_cons_zero,List.set_cons_succ]
          refine wpAnyH_take (i:=2) (v:=.slice (some ⟨gn,on,none⟩) nn nc) rfl (by kernel_rfl) (by kernel_rfl) (by kernel_rfl) (fun _ _ _ h=>h) (Or.inl ⟨by rfl,fun Wz hW=>by obtain ⟨a0,a1,a2,e0,e1⟩:=hW;go_simp⟩) hHeld ?_
          simp only [Act.put,List.getElem_toArray,List.getElem_cons_succ,List.getElem_cons_zero,List.setIfInBounds_toArray,List.set_cons_zero,List.set_cons_succ]
          refine wpAnyH_take (i:=3) (v:=.int .i64 k) rfl (by kernel_rfl) (by kernel_rfl) (by kernel_rfl) (fun _ _ _ h=>h) (Or.inl ⟨by rfl,fun Wz hW=>by obtain ⟨a0,a1,a2,e0,e1⟩:=hW;go_simp⟩) hHeld ?_
          simp only [Act.put,List.getElem_toArray,List.getElem_cons_succ,List.getElem_cons_zero,List.setIfInBounds_toArray,List.set_cons_zero,List.set_cons_succ]
          refine wpAnyH_take (i:=4) (v:=.pointer (some ⟨gn,on + k * 2,none⟩)) rfl (by kernel_rfl) (by kernel_rfl) (by kernel_rfl) (fun _ _ _ h=>h) (Or.inl ⟨by rfl,fun Wz hW=>by obtain ⟨a0,a1,a2,e0,e1⟩:=hW;go_simp⟩) hHeld ?_
          simp only [Act.put,List.getElem_toArray,List.getElem_cons_succ,List.getElem_cons_zero,List.setIfInBounds_toArray,List.set_cons_zero,List.set_cons_succ]
          refine wpAnyH_take (i:=5) (v:=.pointer (some ⟨gn,on + k * 2,none⟩)) rfl (by kernel_rfl) (by kernel_rfl) (by kernel_rfl) (fun _ _ _ h=>h) (Or.inl ⟨by rfl,fun Wz hW=>by obtain ⟨a0,a1,a2,e0,e1⟩:=hW;go_simp⟩) hHeld ?_
          simp only [Act.put,List.getElem_toArray,List.getElem_cons_succ,List.getElem_cons_zero,List.setIfInBounds_toArray,List.set_cons_zero,List.set_cons_succ]
          refine wpAnyH_take (i:=6) (v:=.int .i64 v.k) rfl (by kernel_rfl) (by kernel_rfl) (by kernel_rfl) (fun _ _ _ h=>h) (Or.inl ⟨by rfl,fun Wz hW=>by obtain ⟨a0,a1,a2,e0,e1⟩:=hW;go_simp⟩) hHeld ?_
          simp only [Act.put,List.getElem_toArray,List.getElem_cons_succ,List.getElem_cons_zero,List.setIfInBounds_toArray,List.set_cons_zero,List.set_cons_succ]
          refine wpAnyH_take (i:=8) (v:=.pointer (some ⟨b6,1,none⟩)) rfl (by kernel_rfl) (by kernel_rfl) (by kernel_rfl) (fun _ _ _ h=>h) (Or.inl ⟨by rfl,fun Wz hW=>by obtain ⟨a0,a1,a2,e0,e1⟩:=hW;go_simp⟩) hHeld ?_
          simp only [Act.put,List.getElem_toArray,List.getElem_cons_succ,List.getElem_cons_zero,List.setIfInBounds_toArray,List.set_cons_zero,List.set_cons_succ]
          refine wpAnyH_take (i:=9) (v:=.slice (some ⟨gn,on,none⟩) nn nc) rfl (by kernel_rfl) (by kernel_rfl) (by kernel_rfl) (fun _ _ _ h=>h) (Or.inl ⟨by rfl,fun Wz hW=>by obtain ⟨a0,a1,a2,e0,e1⟩:=hW;go_simp⟩) hHeld ?_
          simp only [Act.put,List.getElem_toArray,List.getElem_cons_succ,List.getElem_cons_zero,List.setIfInBounds_toArray,List.set_cons_zero,List.set_cons_succ]
          refine wpAnyH_take (i:=10) (v:=.int .i64 k) rfl (by kernel_rfl) (by kernel_rfl) (by kernel_rfl) (fun _ _ _ h=>h) (Or.inl ⟨by rfl,fun Wz hW=>by obtain ⟨a0,a1,a2,e0,e1⟩:=hW;go_simp⟩) hHeld ?_
          simp only [Act.put,List.getElem_toArray,List.getElem_cons_succ,List.getElem_cons_zero,List.setIfInBounds_toArray,List.set_cons_zero,List.set_cons_succ]
          refine wpAnyH_take (i:=11) (v:=.pointer (some ⟨gn,on + k * 2,none⟩)) rfl (by kernel_rfl) (by kernel_rfl) (by kernel_rfl) (fun _ _ _ h=>h) (Or.inl ⟨by rfl,fun Wz hW=>by obtain ⟨a0,a1,a2,e0,e1⟩:=hW;go_simp⟩) hHeld ?_
          simp only [Act.put,List.getElem_toArray,List.getElem_cons_succ,List.getElem_cons_zero,List.setIfInBounds_toArray,List.set_cons_zero,List.set_cons_succ]
          refine wpAnyH_take (i:=12) (v:=.pointer (some ⟨gn,on + k * 2 + 1,none⟩)) rfl (by kernel_rfl) (by kernel_rfl) (by kernel_rfl) (fun _ _ _ h=>h) (Or.inl ⟨by rfl,fun Wz hW=>by obtain ⟨a0,a1,a2,e0,e1⟩:=hW;go_simp⟩) hHeld ?_
          simp only [Act.put,List.getElem_toArray,List.getElem_cons_succ,List.getElem_cons_zero,List.setIfInBounds_toArray,List.set_cons_zero,List.set_cons_succ]
          refine wpAnyH_take (i:=13) (v:=.slice v.A 2 v.c) rfl (by kernel_rfl) (by kernel_rfl) (by kernel_rfl) (fun _ _ _ h=>h) (Or.inl ⟨by rfl,fun Wz hW=>by obtain ⟨a0,a1,a2,e0,e1⟩:=hW;go_simp⟩) hHeld ?_
          simp only [Act.put,List.getElem_toArray,List.getElem_cons_succ,List.getElem_cons_zero,List.setIfInBounds_toArray,List.set_cons_zero,List.set_cons_succ]
          refine wpAnyH_ready (rs:=[7]) (by kernel_rfl) (by simp) ?_
          refine AllReadyH.cons rfl (fun K hK=>?_) AllReadyH.nil
          simp only [List.getElem_toArray,List.getElem_cons_succ,List.getElem_cons_zero]
          rw [if_pos (by rfl)]
          go_simp
          refine (cU.out _ (by repeat (with_reducible first | exact Keep.refl wr | apply Keep.alloc | apply Keep.drew | apply Keep.drewN))).mono ?_
          rintro e' w9 ⟨gu,rfl,RU,k9⟩
          have K9:Hid (Keep wr w9):=((Keep.refl _).drew:Keep wr _).trans k9
          replace k9:=Lib.hid k9
          have cFt:=Lib.hid (cFi.out w9 gu RU K9.out)
          have RU:=Lib.hid RU
          go_wp2_with fail
          refine hK.out _ _ ?_ (fun hHeld=>?_)
          · exact HELD _ K9.out
          clear hK K
          try simp only [Act.put,List.getElem_toArray,List.getElem_cons_succ,List.getElem_cons_zero,List.setIfInBounds_toArray,List.set_cons_zero,List.set_cons_succ]
          refine wpAnyH_ready (rs:=[14]) (by kernel_rfl) (by simp) ?_
          refine AllReadyH.cons rfl (fun K hK=>?_) AllReadyH.nil
          simp only [List.getElem_toArray,List.getElem_cons_succ,List.getElem_cons_zero]
          rw [if_pos (by rfl)]
          go_simp
          refine (cFt.out).mono ?_
          rintro e' w10 ⟨rfl,k10⟩
          have K10:Hid (Keep wr w10):=K9.out.trans k10
          replace k10:=Lib.hid k10
          go_wp2_with fail
          refine hK.out _ _ ?_ (fun hHeld=>?_)
          · exact HELD _ K10.out
          clear hK K
          try simp only [Act.put,List.getElem_toArray,List.getElem_cons_succ,List.getElem_cons_zero,List.setIfInBounds_toArray,List.set_cons_zero,List.set_cons_succ]
          refine wpAnyH_take (i:=15) (v:=.bool false) rfl (by kernel_rfl) (by kernel_rfl) (by kernel_rfl) (fun _ _ _ h=>h) (Or.inl ⟨by rfl,fun Wz hW=>by obtain ⟨a0,a1,a2,e0,e1⟩:=hW;go_simp⟩) hHeld ?_
          simp only [Act.put,List.getElem_toArray,List.getElem_cons_succ,List.getElem_cons_zero,List.setIfInBounds_toArray,List.set_cons_zero,List.set_cons_succ]
          refine wpAnyH_done (by kernel_rfl) ?_ _
          have K02:Hid (Keep w8 w10):=K0.out.trans K10.out
          clear x0 x1 x2 xf v0 v1 HELD hHeld q2
          go_wp2
          go_roundg (nn - (k + 1))
          case measure=>omega
          case rel=>exact ⟨k + 1,hlt2,rfl,by go_num,K02⟩
        · obtain rfl:k = nn:=by omega
          have SF:Hid (St (Bx CS b (.cells x'.arr 30 (0,0))) w 2 q M2 L2 X2 wr x' Q2 P2):=ST5.out.keep (CB.out _ _) (K8.out.trans K0.out)
          go_wp2
          go_roundg (n - (j + 1))
          case measure=>omega
          case rel=>exact ⟨j + 1,x',_,_,Q2,P2,_,hlt,rfl,by go_num,SF.out,LE5.out⟩
    · obtain rfl:j = n:=by omega
      go_wp2
      go_ret
      exact ⟨rfl,(CB.out _ _).kp ST.out.o⟩
end Go.Proofs.YtnclkefddkgojaaGreatDoor.T14

