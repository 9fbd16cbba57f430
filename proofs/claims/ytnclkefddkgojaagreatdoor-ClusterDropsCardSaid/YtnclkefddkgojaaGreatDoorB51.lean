/-
  The law of P14.4: a dropped node. Condition: errors.errorType holds its own.
-/
import Derived.Test.YtnclkefddkgojaaGreatDoorB26
namespace Go.Proofs.YtnclkefddkgojaaGreatDoor.T14
open Go.RowKit Go.Sort Go.Lib V12 T13
theorem RdOc.at {w:World} {b off n:Nat} {P:Nat→OpC} (h:RdOc w (some ⟨b,off,none⟩) n P) {j:Nat} (hj:j < n):Cel13 w b (off + j * 13) (P j):=by
  obtain ⟨b',off',e,c⟩:=h.adr (by omega)
  have e2:=Option.some.inj e
  simp only [Addr.mk.injEq,and_true] at e2
  obtain ⟨rfl,rfl⟩:=e2
  exact c j hj
set_option maxRecDepth 100000 in
set_option maxHeartbeats 16000000 in
theorem drops_walk {CS:PredC} (C:Con CS) (N:NewOk CS) (A:Option Addr) (n c:Nat) (P:Nat→OpC) (id:Int) (hid:I64 id) (w:World) (hR:RdOc w A n P) (hg:ErrT w):Calls Tryz.prog 6 #[.slice A n c,.int .i64 id] w fun e w'=>e = .returned (.bool true)∧Keep w w':=by
  have hs:=hR.small
  obtain ⟨fb,hfb⟩:=fewc_or P n
  have cF:Hid (∀ W,Keep w W→Calls Tryz.prog 10 #[.slice A n c] W fun e w'=>e = .returned (.bool fb)∧Keep W w'):=fun W k=>fewc_fn A n c P W (hR.keep k) fb hfb
  have aw:Hid (∀ W,Keep w W→Calls Tryz.prog 9 #[] W fun e w'=>e = .returned (.bool true)∧Keep W w'):=fun W k=>awake_true C N W (hg.keep k)
  have cN:Hid (Calls Tryz.prog 8 #[.int .i64 2] w fun e w'=>∃ q,e = .returned (.pointer (some ⟨q,0,none⟩))∧CS w 2 q [] [] (fun _=>False) w'∧Keep w w'):=N 2 w w (Keep.refl w) (by omega)
  have CB:Hid (∀ b o,Con (Bx CS b o)):=fun b o=>bx_con C
  replace hfb:=Lib.hid hfb
  replace hg:=Lib.hid hg
  replace hR:=Lib.hid hR
  go_enter Tryz.func6,Tryz.ntmps6
  go_wp2_with fail
  refine cN.out.mono ?_
  rintro e w1 ⟨q,rfl,o1,_⟩
  have K1:=Lib.hid (C.kp o1)
  replace o1:=Lib.hid o1
  go_wp2_with fail
  refine (aw.out _ K1.out).mono ?_
  rintro e w2 ⟨rfl,k2⟩
  replace o1:=Lib.hid (C.keep o1.out k2)
  replace K1:=Lib.hid (C.kp o1.out)
  replace k2:=Lib.hid k2
  go_wp2_with fail
  refine (cF.out w2 K1.out).mono ?_
  rintro e w3 ⟨rfl,k3⟩
  replace o1:=Lib.hid (C.keep o1.out k3)
  replace K1:=Lib.hid (C.kp o1.out)
  replace k3:=Lib.hid k3
  cases fb with
  | false =>
    go_wp2_with fail
    refine (aw.out _ K1.out).mono ?_
    rintro e w4 ⟨rfl,k4⟩
    go_wp2
    go_ret
    exact ⟨rfl,K1.out.trans k4⟩
  | true =>
  have hf:=hfb.out.1 rfl
  have hn:=hf.1
  replace hf:=Lib.hid hf
  clear cN aw cF
  obtain ⟨b,hb⟩:∃ b,b = w3.heap.size:=⟨_,rfl⟩
  obtain ⟨wb,hwb⟩:∃ wb,wb = w3.alloc (.cells (⟨2,none,0,0,none,0,0⟩:RcV).arr 30):=⟨_,rfl⟩
  have S0:=bx_new C o1.out ⟨2,none,0,0,none,0,0⟩ rfl hwb
  rw [← hb] at S0
  have S0:=Lib.hid S0
  unfold RcV.arr at hwb
  simp only at hwb
  go_wp2
  rw [← hwb]
  try rw [← hb]
  replace hwb:=Lib.hid hwb
  replace hb:=Lib.hid hb
  go_loopg [7] n (fun gx s5 wr=>∃ (j:Nat) (x:RcV) (M:List NV) (L:List PodV) (Q:Nat→C14.NdC) (P':Nat→PodV) (X:Nat→Prop),j≤n∧gx = n - j∧s5 = .int .i64 j∧Hid (St (Bx CS b (.cells x.arr 30 (0,0))) w 2 q M L X wr x Q P')∧Hid (x.n≤j∧x.m≤j))
  case atStart=>exact ⟨0,_,[],[],_,_,_,Nat.zero_le _,rfl,rfl,S0.out,Nat.le_refl _,Nat.le_refl _⟩
  case round =>
    clear o1 K1 S0
    obtain ⟨j,x,M,L,Q,P',X,hj,rfl,rfl,ST,LE⟩:=hrel
    by_cases hlt:j < n
    · have KR:Hid (Keep w wr):=(CB.out _ _).kp ST.out.o
      obtain ⟨bo,off,hA,_⟩:=hR.out.adr (by omega)
      subst hA
      have q1:=atC bo off n c j hlt
      have ox:=hR.out.is j hlt
      have hfk:=hf.out.2 j hlt
      obtain ⟨o,ho⟩:∃ o,o = P j:=⟨_,rfl⟩
      obtain ⟨oo,hoo⟩:∃ oo,oo = off + j * 13:=⟨_,rfl⟩
      have atW:Hid (∀ W,Keep w W→Cel13 W bo oo o):=fun W k=>by rw [ho,hoo];exact (hR.out.keep k).at hlt
      rw [← ho] at ox hfk
      rw [← hoo] at q1
      replace ho:=Lib.hid ho
      replace hoo:=Lib.hid hoo
      have BW:Hid (wr.heap[b]? = some (.cells x.arr 30 (0,0))):=ST.out.o.2.1
      have HS:Hid (∀ W,Keep w W→W.heap[b]? = some (.cells x.arr 30 (0,0))→(W.cell? ⟨b,0,none⟩ = some (.int .i64 x.d)∧W.cell? ⟨b,1,none⟩ = some (.slice x.A x.n x.c)∧W.cell? ⟨b,2,none⟩ = some (.slice x.B x.m x.e)∧W.cell? ⟨bo,oo,none⟩ = some (.int .i64 o.kd)∧W.cell? ⟨bo,oo + 1,none⟩ = some (.int .i64 o.x.k)∧W.cell? ⟨bo,oo + 2,none⟩ = some (.int .i64 o.x.p)∧W.cell? ⟨bo,oo + 3,none⟩ = some (.bool o.x.f)∧W.cell? ⟨bo,oo + 4,none⟩ = some (.int .i64 o.x.g)∧W.cell? ⟨bo,oo + 5,none⟩ = some (.slice o.x.A o.x.m o.x.c)∧W.cell? ⟨bo,oo + 6,none⟩ = some (.int .i64 o.x.a)∧W.cell? ⟨bo,oo + 7,none⟩ = some (.int .i64 o.x.h)∧W.cell? ⟨bo,oo + 8,none⟩ = some (.int .i64 o.x.d)∧W.cell? ⟨bo,oo + 9,none⟩ = some (.int .i64 o.x.t)∧W.cell? ⟨bo,oo + 10,none⟩ = some (.int .i64 o.nd)∧W.cell? ⟨bo,oo + 11,none⟩ = some (.int .i64 o.ev)∧W.cell? ⟨bo,oo + 12,none⟩ = some (.slice o.A o.n o.c))):=fun W KW HB=>⟨(rc_cells HB).1,(rc_cells HB).2.1,(rc_cells HB).2.2.1,(atW.out W KW).k,(atW.out W KW).x.e0,(atW.out W KW).x.e1,(atW.out W KW).x.e2,(atW.out W KW).x.e3,(atW.out W KW).x.e4,(atW.out W KW).x.e5,(atW.out W KW).x.e6,(atW.out W KW).x.e7,(atW.out W KW).x.e8,(atW.out W KW).n,(atW.out W KW).e,(atW.out W KW).v⟩
      have cP:Hid (∀ W,Keep wr W→Calls Tryz.prog 11 #[.pointer (some ⟨q,0,none⟩),x.val,o.val] W fun e' w'=>∃ x' Q2 P2 X2,e' = .returned (.tuple #[(x':RcV).val,.bool true])∧St (Bx CS b (.cells x.arr 30 (0,0))) w 2 q (opM 2 M o) (opP 2 M L o) X2 w' x' Q2 P2∧(∀ i,X i→X2 i)∧SameX X W w'):=fun W k=>by
        refine (st_play (CB.out _ _) (ST.out.keep (CB.out _ _) k) hg.out (by omega) o ox hfk (by have:=LE.out;omega) (by have:=LE.out;omega)).mono ?_
        rintro e' w' ⟨x',Q2,P2,X2,h1,h2,h3,h4⟩
        exact ⟨x',Q2,P2,X2,h1,h2,h3,h4⟩
      unfold RcV.val OpC.val at cP
      go_upto_region 8 with fail
      have HELD:∀ Wz,Keep wr Wz→(Wz.cell? ⟨b,0,none⟩ = some (.int .i64 x.d)∧Wz.cell? ⟨b,1,none⟩ = some (.slice x.A x.n x.c)∧Wz.cell? ⟨b,2,none⟩ = some (.slice x.B x.m x.e)∧Wz.cell? ⟨bo,oo,none⟩ = some (.int .i64 o.kd)∧Wz.cell? ⟨bo,oo + 1,none⟩ = some (.int .i64 o.x.k)∧Wz.cell? ⟨bo,oo + 2,none⟩ = some (.int .i64 o.x.p)∧Wz.cell? ⟨bo,oo + 3,none⟩ = some (.bool o.x.f)∧Wz.cell? ⟨bo,oo + 4,none⟩ = some (.int .i64 o.x.g)∧Wz.cell? ⟨bo,oo + 5,none⟩ = some (.slice o.x.A o.x.m o.x.c)∧Wz.cell? ⟨bo,oo + 6,none⟩ = some (.int .i64 o.x.a)∧Wz.cell? ⟨bo,oo + 7,none⟩ = some (.int .i64 o.x.h)∧Wz.cell? ⟨bo,oo + 8,none⟩ = some (.int .i64 o.x.d)∧Wz.cell? ⟨bo,oo + 9,none⟩ = some (.int .i64 o.x.t)∧Wz.cell? ⟨bo,oo + 10,none⟩ = some (.int .i64 o.nd)∧Wz.cell? ⟨bo,oo + 11,none⟩ = some (.int .i64 o.ev)∧Wz.cell? ⟨bo,oo + 12,none⟩ = some (.slice o.A o.n o.c)):=fun Wz KK=>(HS.out Wz (KR.out.trans KK) (keep_at KK (lt_of_block BW.out) |>.trans BW.out))
      refine OrdS.rest_start (fun w'=>w'.cell? ⟨b,0,none⟩ = some (.int .i64 x.d)∧w'.cell? ⟨b,1,none⟩ = some (.slice x.A x.n x.c)∧w'.cell? ⟨b,2,none⟩ = some (.slice x.B x.m x.e)∧w'.cell? ⟨bo,oo,none⟩ = some (.int .i64 o.kd)∧w'.cell? ⟨bo,oo + 1,none⟩ = some (.int .i64 o.x.k)∧w'.cell? ⟨bo,oo + 2,none⟩ = some (.int .i64 o.x.p)∧w'.cell? ⟨bo,oo + 3,none⟩ = some (.bool o.x.f)∧w'.cell? ⟨bo,oo + 4,none⟩ = some (.int .i64 o.x.g)∧w'.cell? ⟨bo,oo + 5,none⟩ = some (.slice o.x.A o.x.m o.x.c)∧w'.cell? ⟨bo,oo + 6,none⟩ = some (.int .i64 o.x.a)∧w'.cell? ⟨bo,oo + 7,none⟩ = some (.int .i64 o.x.h)∧w'.cell? ⟨bo,oo + 8,none⟩ = some (.int .i64 o.x.d)∧w'.cell? ⟨bo,oo + 9,none⟩ = some (.int .i64 o.x.t)∧w'.cell? ⟨bo,oo + 10,none⟩ = some (.int .i64 o.nd)∧w'.cell? ⟨bo,oo + 11,none⟩ = some (.int .i64 o.ev)∧w'.cell? ⟨bo,oo + 12,none⟩ = some (.slice o.A o.n o.c)) [8,9,10] (by kernel_rfl) ?_ (fun hHeld=>?_)
      · exact HELD _ (Keep.refl wr).drew
      obtain ⟨wt0,hwt0⟩:∃ W,W = wr.drew:=⟨_,rfl⟩
      have Kwt0:Hid (Keep wr wt0):=by rw [hwt0];exact (Keep.refl _).drew
      rw [← hwt0] at hHeld ⊢
      replace hwt0:=Lib.hid hwt0
      refine OrdS.rest_take (i:=0) (v:=.pointer (some ⟨q,0,none⟩)) rfl (by kernel_rfl) (by kernel_rfl) (by kernel_rfl) (by kernel_rfl) (by kernel_rfl) (fun _ _ _ h=>h) (Or.inl ⟨by rfl,fun Wz hW=>by obtain ⟨a0,a1,a2,u0,u1,u2,u3,u4,u5,u6,u7,u8,u9,u10,u11,u12⟩:=hW;go_simp⟩) hHeld ?_
      simp only [Act.put,List.getElem_toArray,List.getElem_cons_zero,List.setIfInBounds_toArray,List.set_cons_zero,List.set_cons_succ]
      refine OrdS.rest_take (i:=1) (v:=.agg #[.int .i64 x.d,.slice x.A x.n x.c,.slice x.B x.m x.e]) rfl (by kernel_rfl) (by kernel_rfl) (by kernel_rfl) (by kernel_rfl) (by kernel_rfl) (fun _ _ _ h=>h) (Or.inl ⟨by rfl,fun Wz hW=>by obtain ⟨a0,a1,a2,u0,u1,u2,u3,u4,u5,u6,u7,u8,u9,u10,u11,u12⟩:=hW;go_simp⟩) hHeld ?_
      simp only [Act.put,List.getElem_toArray,List.getElem_cons_succ,List.getElem_cons_zero,List.setIfInBounds_toArray,List.set_cons_zero,List.set_cons_succ]
      refine OrdS.rest_take (i:=2) (v:=.slice (some ⟨bo,off,none⟩) n c) rfl (by kernel_rfl) (by kernel_rfl) (by kernel_rfl) (by kernel_rfl) (by kernel_rfl) (fun _ _ _ h=>h) (Or.inl ⟨by rfl,fun Wz hW=>by obtain ⟨a0,a1,a2,u0,u1,u2,u3,u4,u5,u6,u7,u8,u9,u10,u11,u12⟩:=hW;go_simp⟩) hHeld ?_
      simp only [Act.put,List.getElem_toArray,List.getElem_cons_succ,List.getElem_cons_zero,List.setIfInBounds_toArray,List.set_cons_zero,List.set_cons_succ]
      refine OrdS.rest_take (i:=3) (v:=.int .i64 j) rfl (by kernel_rfl) (by kernel_rfl) (by kernel_rfl) (by kernel_rfl) (by kernel_rfl) (fun _ _ _ h=>h) (Or.inl ⟨by rfl,fun Wz hW=>by obtain ⟨a0,a1,a2,u0,u1,u2,u3,u4,u5,u6,u7,u8,u9,u10,u11,u12⟩:=hW;go_simp⟩) hHeld ?_
      simp only [Act.put,List.getElem_toArray,List.getElem_cons_succ,List.getElem_cons_zero,List.setIfInBounds_toArray,List.set_cons_zero,List.set_cons_succ]
      refine OrdS.rest_take (i:=4) (v:=.pointer (some ⟨bo,oo,none⟩)) rfl (by kernel_rfl) (by kernel_rfl) (by kernel_rfl) (by kernel_rfl) (by kernel_rfl) (fun _ _ _ h=>h) (Or.inl ⟨by rfl,fun Wz hW=>by obtain ⟨a0,a1,a2,u0,u1,u2,u3,u4,u5,u6,u7,u8,u9,u10,u11,u12⟩:=hW;go_simp⟩) hHeld ?_
      simp only [Act.put,List.getElem_toArray,List.getElem_cons_succ,List.getElem_cons_zero,List.setIfInBounds_toArray,List.set_cons_zero,List.set_cons_succ]
      refine OrdS.rest_take (i:=5) (v:=.agg #[.int .i64 o.kd,.int .i64 o.x.k,.int .i64 o.x.p,.bool o.x.f,.int .i64 o.x.g,.slice o.x.A o.x.m o.x.c,.int .i64 o.x.a,.int .i64 o.x.h,.int .i64 o.x.d,.int .i64 o.x.t,.int .i64 o.nd,.int .i64 o.ev,.slice o.A o.n o.c]) rfl (by kernel_rfl) (by kernel_rfl) (by kernel_rfl) (by kernel_rfl) (by kernel_rfl) (fun _ _ _ h=>h) (Or.inl ⟨by rfl,fun Wz hW=>by obtain ⟨a0,a1,a2,u0,u1,u2,u3,u4,u5,u6,u7,u8,u9,u10,u11,u12⟩:=hW;go_simp⟩) hHeld ?_
      simp only [Act.put,List.getElem_toArray,List.getElem_cons_succ,List.getElem_cons_zero,List.setIfInBounds_toArray,List.set_cons_zero,List.set_cons_succ]
      refine OrdS.rest_ready (rs:=[6]) (by kernel_rfl) (by simp) ?_
      refine OrdS.Each.cons rfl (fun K hK=>?_) OrdS.Each.nil
      simp only [List.getElem_toArray,List.getElem_cons_succ,List.getElem_cons_zero]
      rw [if_pos (by rfl)]
      go_simp
      refine (cP.out _ Kwt0.out).mono ?_
      rintro e' w4 ⟨x',Q2,P2,X2,rfl,ST2,XX,SX⟩
      have ST2:=Lib.hid ST2
      have KW4:Hid (Keep w w4):=(CB.out _ _).kp ST2.out.o
      go_wp2_with fail
      refine hK.out _ _ (fun _=>HS.out w4 KW4.out ST2.out.o.2.1) ?_
      have hHeld:=HS.out w4 KW4.out ST2.out.o.2.1
      clear hK K
      try simp only [Act.put,List.getElem_toArray,List.getElem_cons_succ,List.getElem_cons_zero,List.setIfInBounds_toArray,List.set_cons_zero,List.set_cons_succ]
      refine OrdS.rest_take (i:=7) (v:=.tuple #[.agg #[.int .i64 x'.d,.slice x'.A x'.n x'.c,.slice x'.B x'.m x'.e],.bool true]) rfl (by kernel_rfl) (by kernel_rfl) (by kernel_rfl) (by kernel_rfl) (by kernel_rfl) (fun _ _ _ h=>h) (Or.inl ⟨by rfl,fun Wz hW=>by obtain ⟨a0,a1,a2,u0,u1,u2,u3,u4,u5,u6,u7,u8,u9,u10,u11,u12⟩:=hW;go_simp⟩) hHeld ?_
      simp only [Act.put,List.getElem_toArray,List.getElem_cons_succ,List.getElem_cons_zero,List.setIfInBounds_toArray,List.set_cons_zero,List.set_cons_succ]
      refine OrdS.rest_takeP (i:=8) (v:=.agg #[.int .i64 x'.d,.slice x'.A x'.n x'.c,.slice x'.B x'.m x'.e]) rfl (by kernel_rfl) (by kernel_rfl) (by kernel_rfl) (by kernel_rfl) (fun _ _ _ h=>h) (Or.inl ⟨by rfl,fun Wz _=>by go_simp⟩) ?_
      simp only [Act.put,List.getElem_toArray,List.getElem_cons_succ,List.getElem_cons_zero,List.setIfInBounds_toArray,List.set_cons_zero,List.set_cons_succ]
      refine OrdS.rest_takeP (i:=9) (v:=.bool true) rfl (by kernel_rfl) (by kernel_rfl) (by kernel_rfl) (by kernel_rfl) (fun _ _ _ h=>h) (Or.inl ⟨by rfl,fun Wz _=>by go_simp⟩) ?_
      simp only [Act.put,List.getElem_toArray,List.getElem_cons_succ,List.getElem_cons_zero,List.setIfInBounds_toArray,List.set_cons_zero,List.set_cons_succ]
      refine OrdS.rest_ready (rs:=[10]) (by kernel_rfl) (by simp) ?_
      refine OrdS.Each.cons rfl (fun K hK=>?_) OrdS.Each.nil
      simp only [List.getElem_toArray,List.getElem_cons_succ,List.getElem_cons_zero]
      rw [if_pos (by rfl)]
      obtain ⟨t0,t1,t2,tf⟩:=rc_cells ST2.out.o.2.1
      go_simp
      refine hK.out _ _ (fun e=>absurd (by simp) e) ?_
      clear hK K
      refine OrdS.rest_done (by kernel_rfl) ?_ _
      clear hHeld HELD Kwt0 hwt0 tf t0 t1 t2
      obtain ⟨w5,hw5⟩:∃ w5,w5 = put3 w4 b x':=⟨_,rfl⟩
      have ST5:=Lib.hid (bx_store C ST2.out hw5)
      have hw5e:=hw5
      unfold put3 at hw5e
      go_wp2_with fail
      try rw [← hw5e]
      clear hw5e
      have LE5:Hid (x'.n≤j + 1∧x'.m≤j + 1):=by
        have:=post_len ST.out ST2.out
        have:=LE.out
        exact ⟨by omega,by omega⟩
      replace hw5:=Lib.hid hw5
      have KW5:Hid (Keep w w5):=(CB.out _ _).kp ST5.out.o
      go_roundg (n - (j + 1))
      case measure=>omega
      case rel=>exact ⟨j + 1,x',_,_,Q2,P2,_,hlt,rfl,by go_num,ST5.out,LE5.out⟩
    · obtain rfl:j = n:=by omega
      have U:=ST.out.un
      have lM:M.length≤60:=by rw [ST.out.lenM];have:=LE.out;omega
      have lL:L.length≤60:=by rw [ST.out.lenL];have:=LE.out;omega
      have ok:=C.ok U
      have KU:Hid (Keep w wr):=C.kp U
      clear LE
      by_cases hin:id ∈ nk M
      · have bk:=Lib.hid (back ok hin (by omega))
        have cNd:=Lib.hid (node_in C U id hid (by omega) (by omega) hin)
        replace ok:=Lib.hid ok
        replace U:=Lib.hid U
        replace hid:=Lib.hid hid
        replace hin:=Lib.hid hin
        go_wp2_with fail
        refine cNd.out.mono ?_
        rintro e' w4 ⟨g,og,c4,rfl,RC,hg1,hg2,k4⟩
        have U4:=Lib.hid (C.more U.out k4 (Z:=fun i=>i = g) (fun i hi=>by rw [hi];exact ⟨hg1,hg2⟩))
        replace RC:=Lib.hid RC
        replace k4:=Lib.hid k4
        replace hg1:=Lib.hid hg1
        replace hg2:=Lib.hid hg2
        clear cNd
        obtain ⟨b8,hb8⟩:∃ b8,b8 = w4.heap.size:=⟨_,rfl⟩
        obtain ⟨w5,hw5⟩:∃ w5,w5 = w4.alloc (.cells #[.int .i64 id,.slice (some ⟨g,og,none⟩) 2 c4] 50):=⟨_,rfl⟩
        have Kw5:Hid (Keep w4 w5):=by rw [hw5];exact Keep.one _ _
        have Bb8:Hid (w5.heap[b8]? = some (.cells #[.int .i64 id,.slice (some ⟨g,og,none⟩) 2 c4] 50 (0,0))):=by rw [hw5,hb8];exact heap_alloc_new _ _
        have U5:=Lib.hid (C.more U4.out Kw5.out (Z:=fun i=>i = b8) (fun i hi=>by have:=lt_of_block Bb8.out;omega))
        have cDr:Hid (Calls Tryz.prog 23 #[.pointer (some ⟨q,0,none⟩),.int .i64 id] w5 fun e w'=>∃ v,e = .returned (.tuple #[v,.nilIface])∧CS w 2 q (drM M id) (drL L id) (fun i=>((X i∨i = b)∨i = g)∨i = b8) w'∧SameX (fun i=>((X i∨i = b)∨i = g)∨i = b8) w5 w'):=by
          refine (C.dropNode id U5.out (hg.out.keep (C.kp U5.out)) hid.out (by omega) (by omega)).mono ?_
          rintro e' w' ⟨h1,_⟩
          obtain ⟨v,S,h2,_,_,h5,h6⟩:=h1 hin.out
          exact ⟨v,h2,h5,h6⟩
        go_wp2_with fail
        rw [← hw5]
        try rw [← hb8]
        replace hw5:=Lib.hid hw5
        replace hb8:=Lib.hid hb8
        refine cDr.out.mono ?_
        rintro e' w6 ⟨v,rfl,U6,S6⟩
        replace U6:=Lib.hid U6
        have RC6:Hid (Rd w6 (some ⟨g,og,none⟩) 2 (nget M id).C):=rd_sameB (RC.out.keep Kw5.out) (S6 g (Or.inl (Or.inr rfl)))
        have B6:Hid (w6.heap[b8]? = some (.cells #[.int .i64 id,.slice (some ⟨g,og,none⟩) 2 c4] 50 (0,0))):=(S6 b8 (Or.inr rfl)).trans Bb8.out
        replace S6:=Lib.hid S6
        have M4l:Hid ((adL (drM M id) 2 id 2 (nget M id).C).length≤100):=by show _≤_;have h1:=adL_len (M:=drM M id) (d:=2) (k:=id) (n:=2) (Z:=(nget M id).C);have h2:=drM_len M id;omega
        have L4l:Hid ((drL L id).length≤100):=by show _≤_;unfold drL;rw [List.length_map];omega
        have M5l:Hid ((drM M id).length≤100):=by show _≤_;have h2:=drM_len M id;omega
        clear cDr
        have cN2:=Lib.hid (node_out C U6.out id hid.out M5l.out (drM_not M id))
        go_wp2_with fail
        refine cN2.out.mono ?_
        rintro e' w7 ⟨k,A7,n7,c7,rfl,k7⟩
        have K67:=Lib.hid k7
        replace k7:=Lib.hid k7
        clear cN2
        obtain ⟨b12,hb12⟩:∃ b12,b12 = w7.heap.size:=⟨_,rfl⟩
        obtain ⟨w8,hw8⟩:∃ w8,w8 = w7.alloc (.cells #[.int .i64 k,.slice A7 n7 c7] 50):=⟨_,rfl⟩
        have Kw8:Hid (Keep w7 w8):=by rw [hw8];exact Keep.one _ _
        have Bb12:Hid (w8.heap[b12]? = some (.cells #[.int .i64 k,.slice A7 n7 c7] 50 (0,0))):=by rw [hw8,hb12];exact heap_alloc_new _ _
        have K8w:Hid (Keep w6 w8):=K67.out.trans Kw8.out
        have U8:=Lib.hid (C.keep U6.out K8w.out)
        have B8:=K8w.out.block B6.out
        have cOn:Hid (∀ Wz,Keep w8 Wz→Calls Tryz.prog 25 #[.pointer (some ⟨q,0,none⟩),.int .i64 id] Wz fun e' w'=>∃ OA oc,e' = .returned (.slice OA 0 oc)∧Keep Wz w'):=fun Wz kk=>by
          refine (C.on id (C.keep U8.out kk) hid.out L4l.out).mono ?_
          rintro e' w' ⟨v,S,h1,h2,_,h4⟩
          rw [on_drop] at h2
          obtain ⟨OA,oc,rfl,_⟩:=h2.rd (Nat.zero_le _)
          exact ⟨OA,oc,h1,h4⟩
        have cAd:Hid (∀ Wz,Keep w8 Wz→Calls Tryz.prog 26 #[.pointer (some ⟨q,0,none⟩),.agg #[.int .i64 id,.slice (some ⟨g,og,none⟩) 2 c4]] Wz fun e' w'=>e' = .returned .nilIface∧CS w 2 q (adL (drM M id) 2 id 2 (nget M id).C) (drL L id) (fun i=>((X i∨i = b)∨i = g)∨i = b8) w'∧SameX (fun i=>((X i∨i = b)∨i = g)∨i = b8) w8 w'):=fun Wz kk=>by
          refine (C.addNode id (some ⟨g,og,none⟩) 2 c4 (nget M id).C (C.keep U8.out kk) (hg.out.keep ((C.kp U8.out).trans kk)) (RC6.out.keep (K8w.out.trans kk)) (fun e=>by cases e) hid.out (by omega) M5l.out).mono ?_
          rintro e' w' ⟨h1,h2,h3⟩
          rw [bk.out.1,bk.out.2.1] at h1
          exact ⟨h1,h2,fun i hi=>(h3 i hi).trans (keep_at kk (C.lt U8.out i hi))⟩
        have x0:w8.cell? ⟨b8,0,none⟩ = some (.int .i64 id):=by rw [cell_of_row w8 b8 _ _ _ _ B8];rfl
        have x1:w8.cell? ⟨b8,1,none⟩ = some (.slice (some ⟨g,og,none⟩) 2 c4):=by rw [cell_of_row w8 b8 _ _ _ _ B8];rfl
        have X0:=Lib.hid x0
        have X1:=Lib.hid x1
        replace B8:=Lib.hid B8
        clear x0 x1
        go_upto_region 14 with fail
        rw [← hw8]
        try rw [← hb12]
        replace hw8:=Lib.hid hw8
        replace hb12:=Lib.hid hb12
        have x0:=X0.out
        have x1:=X1.out
        have HELD:∀ Wz,Keep w8 Wz→(Wz.cell? ⟨b8,0,none⟩ = some (.int .i64 id)∧Wz.cell? ⟨b8,1,none⟩ = some (.slice (some ⟨g,og,none⟩) 2 c4)):=fun Wz KK=>⟨KK.cell x0,KK.cell x1⟩
        refine wp_region_held_drew (S:=fun w'=>w'.cell? ⟨b8,0,none⟩ = some (.int .i64 id)∧w'.cell? ⟨b8,1,none⟩ = some (.slice (some ⟨g,og,none⟩) 2 c4)) (by kernel_rfl) ?_ (fun hHeld=>?_)
        · exact HELD _ (by repeat (with_reducible first | exact Keep.refl w8 | apply Keep.alloc | apply Keep.drew | apply Keep.drewN))
        refine wpAnyH_take (i:=0) (v:=.bool false) rfl (by kernel_rfl) (by kernel_rfl) (by kernel_rfl) (fun _ _ _ h=>h) (Or.inl ⟨by rfl,fun Wz hW=>by obtain ⟨a0,a1⟩:=hW;go_simp⟩) hHeld ?_
        simp only [Act.put,List.getElem_toArray,List.getElem_cons_zero,List.setIfInBounds_toArray,List.set_cons_zero,List.set_cons_succ]
        refine wpAnyH_take (i:=1) (v:=.bool true) rfl (by kernel_rfl) (by kernel_rfl) (by kernel_rfl) (fun _ _ _ h=>h) (Or.inl ⟨by rfl,fun Wz hW=>by obtain ⟨a0,a1⟩:=hW;go_simp⟩) hHeld ?_
        simp only [Act.put,List.getElem_toArray,List.getElem_cons_succ,List.getElem_cons_zero,List.setIfInBounds_toArray,List.set_cons_zero,List.set_cons_succ]
        refine wpAnyH_take (i:=2) (v:=.bool true) rfl (by kernel_rfl) (by kernel_rfl) (by kernel_rfl) (fun _ _ _ h=>h) (Or.inl ⟨by rfl,fun Wz hW=>by obtain ⟨a0,a1⟩:=hW;go_simp⟩) hHeld ?_
        simp only [Act.put,List.getElem_toArray,List.getElem_cons_succ,List.getElem_cons_zero,List.setIfInBounds_toArray,List.set_cons_zero,List.set_cons_succ]
        refine wpAnyH_take (i:=3) (v:=.pointer (some ⟨q,0,none⟩)) rfl (by kernel_rfl) (by kernel_rfl) (by kernel_rfl) (fun _ _ _ h=>h) (Or.inl ⟨by rfl,fun Wz hW=>by obtain ⟨a0,a1⟩:=hW;go_simp⟩) hHeld ?_
        simp only [Act.put,List.getElem_toArray,List.getElem_cons_succ,List.getElem_cons_zero,List.setIfInBounds_toArray,List.set_cons_zero,List.set_cons_succ]
        refine wpAnyH_take (i:=4) (v:=.int .i64 id) rfl (by kernel_rfl) (by kernel_rfl) (by kernel_rfl) (fun _ _ _ h=>h) (Or.inl ⟨by rfl,fun Wz hW=>by obtain ⟨a0,a1⟩:=hW;go_simp⟩) hHeld ?_
        simp only [Act.put,List.getElem_toArray,List.getElem_cons_succ,List.getElem_cons_zero,List.setIfInBounds_toArray,List.set_cons_zero,List.set_cons_succ]
        refine wpAnyH_ready (rs:=[5]) (by kernel_rfl) (by simp) ?_
        refine AllReadyH.cons rfl (fun K hK=>?_) AllReadyH.nil
        simp only [List.getElem_toArray,List.getElem_cons_succ,List.getElem_cons_zero]
        rw [if_pos (by rfl)]
        go_simp
        refine (cOn.out _ (by repeat (with_reducible first | exact Keep.refl w8 | apply Keep.alloc | apply Keep.drew | apply Keep.drewN))).mono ?_
        rintro e' w9 ⟨OA,oc,rfl,k9⟩
        have K9:Hid (Keep w8 w9):=((Keep.refl _).drew:Keep w8 _).trans k9
        replace k9:=Lib.hid k9
        go_wp2_with fail
        refine hK.out _ _ ?_ (fun hHeld=>?_)
        · exact HELD _ K9.out
        clear hK K
        try simp only [Act.put,List.getElem_toArray,List.getElem_cons_succ,List.getElem_cons_zero,List.setIfInBounds_toArray,List.set_cons_zero,List.set_cons_succ]
        refine wpAnyH_take (i:=6) (v:=.int .i64 0) rfl (by kernel_rfl) (by kernel_rfl) (by kernel_rfl) (fun _ _ _ h=>h) (Or.inl ⟨by rfl,fun Wz hW=>by obtain ⟨a0,a1⟩:=hW;go_simp⟩) hHeld ?_
        simp only [Act.put,List.getElem_toArray,List.getElem_cons_succ,List.getElem_cons_zero,List.setIfInBounds_toArray,List.set_cons_zero,List.set_cons_succ]
        refine wpAnyH_take (i:=7) (v:=.bool true) rfl (by kernel_rfl) (by kernel_rfl) (by kernel_rfl) (fun _ _ _ h=>h) (Or.inl ⟨by rfl,fun Wz hW=>by obtain ⟨a0,a1⟩:=hW;go_simp⟩) hHeld ?_
        simp only [Act.put,List.getElem_toArray,List.getElem_cons_succ,List.getElem_cons_zero,List.setIfInBounds_toArray,List.set_cons_zero,List.set_cons_succ]
        refine wpAnyH_take (i:=8) (v:=.bool true) rfl (by kernel_rfl) (by kernel_rfl) (by kernel_rfl) (fun _ _ _ h=>h) (Or.inl ⟨by rfl,fun Wz hW=>by obtain ⟨a0,a1⟩:=hW;go_simp⟩) hHeld ?_
        simp only [Act.put,List.getElem_toArray,List.getElem_cons_succ,List.getElem_cons_zero,List.setIfInBounds_toArray,List.set_cons_zero,List.set_cons_succ]
        refine wpAnyH_take (i:=9) (v:=.bool true) rfl (by kernel_rfl) (by kernel_rfl) (by kernel_rfl) (fun _ _ _ h=>h) (Or.inl ⟨by rfl,fun Wz hW=>by obtain ⟨a0,a1⟩:=hW;go_simp⟩) hHeld ?_
        simp only [Act.put,List.getElem_toArray,List.getElem_cons_succ,List.getElem_cons_zero,List.setIfInBounds_toArray,List.set_cons_zero,List.set_cons_succ]
        refine wpAnyH_take (i:=10) (v:=.pointer (some ⟨q,0,none⟩)) rfl (by kernel_rfl) (by kernel_rfl) (by kernel_rfl) (fun _ _ _ h=>h) (Or.inl ⟨by rfl,fun Wz hW=>by obtain ⟨a0,a1⟩:=hW;go_simp⟩) hHeld ?_
        simp only [Act.put,List.getElem_toArray,List.getElem_cons_succ,List.getElem_cons_zero,List.setIfInBounds_toArray,List.set_cons_zero,List.set_cons_succ]
        refine wpAnyH_take (i:=11) (v:=.agg #[.int .i64 id,.slice (some ⟨g,og,none⟩) 2 c4]) rfl (by kernel_rfl) (by kernel_rfl) (by kernel_rfl) (fun _ _ _ h=>h) (Or.inl ⟨by rfl,fun Wz hW=>by obtain ⟨a0,a1⟩:=hW;go_simp⟩) hHeld ?_
        simp only [Act.put,List.getElem_toArray,List.getElem_cons_succ,List.getElem_cons_zero,List.setIfInBounds_toArray,List.set_cons_zero,List.set_cons_succ]
        refine wpAnyH_ready (rs:=[12]) (by kernel_rfl) (by simp) ?_
        refine AllReadyH.cons rfl (fun K hK=>?_) AllReadyH.nil
        simp only [List.getElem_toArray,List.getElem_cons_succ,List.getElem_cons_zero]
        rw [if_pos (by rfl)]
        go_simp
        refine (cAd.out _ K9.out).mono ?_
        rintro e' w10 ⟨rfl,U10,S10⟩
        have U10:=Lib.hid U10
        have S10:=Lib.hid S10
        have q8:=S10.out b8 (Or.inr rfl)
        have HELD10:Hid (∀ Wz,Keep w10 Wz→(Wz.cell? ⟨b8,0,none⟩ = some (.int .i64 id)∧Wz.cell? ⟨b8,1,none⟩ = some (.slice (some ⟨g,og,none⟩) 2 c4))):=fun Wz KK=>⟨KK.cell (cell_same x0 q8),KK.cell (cell_same x1 q8)⟩
        have cFr:=Lib.hid (free_in C U10.out id hid.out (by have:=M4l.out;omega) (by have:=L4l.out;omega) (by omega) bk.out.2.2.1)
        go_wp2_with fail
        refine hK.out _ _ ?_ (fun hHeld=>?_)
        · exact HELD10.out _ (Keep.refl _)
        clear hK K
        try simp only [Act.put,List.getElem_toArray,List.getElem_cons_succ,List.getElem_cons_zero,List.setIfInBounds_toArray,List.set_cons_zero,List.set_cons_succ]
        refine wpAnyH_take (i:=13) (v:=.bool true) rfl (by kernel_rfl) (by kernel_rfl) (by kernel_rfl) (fun _ _ _ h=>h) (Or.inl ⟨by rfl,fun Wz hW=>by obtain ⟨a0,a1⟩:=hW;go_simp⟩) hHeld ?_
        simp only [Act.put,List.getElem_toArray,List.getElem_cons_succ,List.getElem_cons_zero,List.setIfInBounds_toArray,List.set_cons_zero,List.set_cons_succ]
        refine wpAnyH_take (i:=14) (v:=.bool true) rfl (by kernel_rfl) (by kernel_rfl) (by kernel_rfl) (fun _ _ _ h=>h) (Or.inl ⟨by rfl,fun Wz hW=>by obtain ⟨a0,a1⟩:=hW;go_simp⟩) hHeld ?_
        simp only [Act.put,List.getElem_toArray,List.getElem_cons_succ,List.getElem_cons_zero,List.setIfInBounds_toArray,List.set_cons_zero,List.set_cons_succ]
        refine wpAnyH_take (i:=15) (v:=.bool true) rfl (by kernel_rfl) (by kernel_rfl) (by kernel_rfl) (fun _ _ _ h=>h) (Or.inl ⟨by rfl,fun Wz hW=>by obtain ⟨a0,a1⟩:=hW;go_simp⟩) hHeld ?_
        simp only [Act.put,List.getElem_toArray,List.getElem_cons_succ,List.getElem_cons_zero,List.setIfInBounds_toArray,List.set_cons_zero,List.set_cons_succ]
        refine wpAnyH_take (i:=16) (v:=.pointer (some ⟨q,0,none⟩)) rfl (by kernel_rfl) (by kernel_rfl) (by kernel_rfl) (fun _ _ _ h=>h) (Or.inl ⟨by rfl,fun Wz hW=>by obtain ⟨a0,a1⟩:=hW;go_simp⟩) hHeld ?_
        simp only [Act.put,List.getElem_toArray,List.getElem_cons_succ,List.getElem_cons_zero,List.setIfInBounds_toArray,List.set_cons_zero,List.set_cons_succ]
        refine wpAnyH_take (i:=17) (v:=.int .i64 id) rfl (by kernel_rfl) (by kernel_rfl) (by kernel_rfl) (fun _ _ _ h=>h) (Or.inl ⟨by rfl,fun Wz hW=>by obtain ⟨a0,a1⟩:=hW;go_simp⟩) hHeld ?_
        simp only [Act.put,List.getElem_toArray,List.getElem_cons_succ,List.getElem_cons_zero,List.setIfInBounds_toArray,List.set_cons_zero,List.set_cons_succ]
        refine wpAnyH_take (i:=19) (v:=.pointer (some ⟨b8,1,none⟩)) rfl (by kernel_rfl) (by kernel_rfl) (by kernel_rfl) (fun _ _ _ h=>h) (Or.inl ⟨by rfl,fun Wz hW=>by obtain ⟨a0,a1⟩:=hW;go_simp⟩) hHeld ?_
        simp only [Act.put,List.getElem_toArray,List.getElem_cons_succ,List.getElem_cons_zero,List.setIfInBounds_toArray,List.set_cons_zero,List.set_cons_succ]
        refine wpAnyH_take (i:=20) (v:=.slice (some ⟨g,og,none⟩) 2 c4) rfl (by kernel_rfl) (by kernel_rfl) (by kernel_rfl) (fun _ _ _ h=>h) (Or.inl ⟨by rfl,fun Wz hW=>by obtain ⟨a0,a1⟩:=hW;go_simp⟩) hHeld ?_
        simp only [Act.put,List.getElem_toArray,List.getElem_cons_succ,List.getElem_cons_zero,List.setIfInBounds_toArray,List.set_cons_zero,List.set_cons_succ]
        refine wpAnyH_ready (rs:=[18]) (by kernel_rfl) (by simp) ?_
        refine AllReadyH.cons rfl (fun K hK=>?_) AllReadyH.nil
        simp only [List.getElem_toArray,List.getElem_cons_succ,List.getElem_cons_zero]
        rw [if_pos (by rfl)]
        go_simp
        refine (cFr.out).mono ?_
        rintro e' w11 ⟨gf,of,cf,rfl,RF,_,_,k11⟩
        have K11:=Lib.hid k11
        have RF:=Lib.hid RF
        have cSm:=Lib.hid (same_rows (c:=cf) (d:=c4) RF.out ((rd_sameB (RC6.out.keep K8w.out) (S10.out g (Or.inl (Or.inr rfl)))).keep K11.out) (fun j hj=>by rw [bk.out.2.2.2,drop_free ok.out,Int.sub_zero]))
        go_wp2_with fail
        refine hK.out _ _ ?_ (fun hHeld=>?_)
        · exact HELD10.out _ K11.out
        clear hK K
        try simp only [Act.put,List.getElem_toArray,List.getElem_cons_succ,List.getElem_cons_zero,List.setIfInBounds_toArray,List.set_cons_zero,List.set_cons_succ]
        refine wpAnyH_ready (rs:=[21]) (by kernel_rfl) (by simp) ?_
        refine AllReadyH.cons rfl (fun K hK=>?_) AllReadyH.nil
        simp only [List.getElem_toArray,List.getElem_cons_succ,List.getElem_cons_zero]
        rw [if_pos (by rfl)]
        go_simp
        refine (cSm.out).mono ?_
        rintro e' w12 ⟨rfl,k12⟩
        have K12:Hid (Keep w10 w12):=K11.out.trans k12
        replace k12:=Lib.hid k12
        go_wp2_with fail
        refine hK.out _ _ ?_ (fun hHeld=>?_)
        · exact HELD10.out _ K12.out
        clear hK K
        try simp only [Act.put,List.getElem_toArray,List.getElem_cons_succ,List.getElem_cons_zero,List.setIfInBounds_toArray,List.set_cons_zero,List.set_cons_succ]
        refine wpAnyH_take (i:=22) (v:=.bool true) rfl (by kernel_rfl) (by kernel_rfl) (by kernel_rfl) (fun _ _ _ h=>h) (Or.inl ⟨by rfl,fun Wz hW=>by obtain ⟨a0,a1⟩:=hW;go_simp⟩) hHeld ?_
        simp only [Act.put,List.getElem_toArray,List.getElem_cons_succ,List.getElem_cons_zero,List.setIfInBounds_toArray,List.set_cons_zero,List.set_cons_succ]
        refine wpAnyH_take (i:=23) (v:=.bool true) rfl (by kernel_rfl) (by kernel_rfl) (by kernel_rfl) (fun _ _ _ h=>h) (Or.inl ⟨by rfl,fun Wz hW=>by obtain ⟨a0,a1⟩:=hW;go_simp⟩) hHeld ?_
        simp only [Act.put,List.getElem_toArray,List.getElem_cons_succ,List.getElem_cons_zero,List.setIfInBounds_toArray,List.set_cons_zero,List.set_cons_succ]
        refine wpAnyH_done (by kernel_rfl) ?_ _
        go_wp2
        go_ret
        exact ⟨rfl,(C.kp U10.out).trans K12.out⟩
      · have cNd:=Lib.hid (node_out C U id hid (by omega) hin)
        replace ok:=Lib.hid ok
        replace U:=Lib.hid U
        replace hid:=Lib.hid hid
        replace hin:=Lib.hid hin
        go_wp2_with fail
        refine cNd.out.mono ?_
        rintro e' w4 ⟨k,A4,n4,c4,rfl,k4⟩
        have U4:=Lib.hid (C.keep U.out k4)
        replace k4:=Lib.hid k4
        clear cNd
        obtain ⟨b8,hb8⟩:∃ b8,b8 = w4.heap.size:=⟨_,rfl⟩
        obtain ⟨w5,hw5⟩:∃ w5,w5 = w4.alloc (.cells #[.int .i64 k,.slice A4 n4 c4] 50):=⟨_,rfl⟩
        have Kw5:Hid (Keep w4 w5):=by rw [hw5];exact Keep.one _ _
        have Bb8:Hid (w5.heap[b8]? = some (.cells #[.int .i64 k,.slice A4 n4 c4] 50 (0,0))):=by rw [hw5,hb8];exact heap_alloc_new _ _
        have U5:=Lib.hid (C.keep U4.out Kw5.out)
        have cDr:Hid (Calls Tryz.prog 23 #[.pointer (some ⟨q,0,none⟩),.int .i64 id] w5 fun e w'=>∃ A c,e = .returned (.tuple #[.slice A 0 c,.iface 145 (.agg #[.int .i64 5,.int .i64 0])])∧Keep w w'):=by
          refine (C.dropNode id U5.out (hg.out.keep (C.kp U5.out)) hid.out (by omega) (by omega)).mono ?_
          rintro e' w' ⟨_,h1⟩
          obtain ⟨A,c,h2,h5,_⟩:=h1 hin.out
          exact ⟨A,c,h2,C.kp h5⟩
        go_wp2_with fail
        rw [← hw5]
        try rw [← hb8]
        replace hw5:=Lib.hid hw5
        replace hb8:=Lib.hid hb8
        refine cDr.out.mono ?_
        rintro e' w6 ⟨A6,c6,rfl,k6⟩
        have t5:Hid (Calls Tryz.prog 24 #[.iface 145 (.agg #[.int .i64 5,.int .i64 0]),.int .i64 5,.int .i64 0] w6 fun e w'=>e = .returned (.bool true)∧Keep w6 w'):=told_yes 5 0 w6 (hg.out.keep k6)
        replace k6:=Lib.hid k6
        clear cDr
        go_wp2_with fail
        refine t5.out.mono ?_
        rintro e' w7 ⟨rfl,k7⟩
        go_wp2
        go_ret
        exact ⟨rfl,k6.out.trans k7⟩
end Go.Proofs.YtnclkefddkgojaaGreatDoor.T14

