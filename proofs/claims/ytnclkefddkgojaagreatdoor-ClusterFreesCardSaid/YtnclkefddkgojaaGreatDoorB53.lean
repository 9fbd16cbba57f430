/-
  A pod bound and freed again: what is used is as before. No condition, no walk.
  The law of P14.2, P14.3: a pod bound and freed. Condition: errors.errorType holds its own.
-/
import Derived.Test.YtnclkefddkgojaaGreatDoorB26
namespace Go.Proofs.YtnclkefddkgojaaGreatDoor.T14
open Go.RowKit Go.Sort Go.Lib V12 T13
theorem get_app {L:List PodV} (h:LOk L) {id e nd dl:Int} (h0:appC L id e = 0):id ∈ keys (appL L id e nd dl)∧getL (appL L id e nd dl) id = appP (getL L id) e nd dl:=by
  obtain ⟨hk,hm,hkk,_⟩:=app_at h0
  have hk2:id ∈ keys (appL L id e nd dl):=by rw [appL_keys];exact hk
  refine ⟨hk2,?_⟩
  have hm2:appP (getL L id) e nd dl ∈ appL L id e nd dl:=by
    unfold appL
    rw [if_pos h0]
    exact List.mem_map.2 ⟨getL L id,hm,if_pos hkk⟩
  have:=get_mem (appL_ok h) hm2
  rw [appP_k,hkk] at this
  exact this
theorem cg_step {L:List PodV} (h:LOk L) {id e dl:Int} (hk:id ∈ keys L) (he:¬ (e = 1∨e = 2)) (hn:nx (getL L id).h e≠0):cgC L id e = 0∧id ∈ keys (cgL L id e dl)∧getL (cgL L id e dl) id = appP (getL L id) e (-1) dl∧LOk (cgL L id e dl):=by
  have ha:appC L id e = 0:=by
    unfold appC
    rw [if_neg (not_not_intro hk),if_neg hn]
  have h0:cgC L id e = 0:=by
    unfold cgC
    rw [if_neg fun h=>he h.2]
    exact ha
  have e1:cgL L id e dl = appL L id e (-1) dl:=by unfold cgL;rw [if_pos h0]
  rw [e1]
  exact ⟨h0,(get_app h ha).1,(get_app h ha).2,appL_ok h⟩
theorem cg_end {L:List PodV} {id:Int} (hk:id ∈ keys L) (hp:(getL L id).h = 5):cgC L id 5 = 8:=by
  unfold cgC
  rw [if_neg fun h=>absurd h.2 (by decide)]
  unfold appC
  rw [if_neg (not_not_intro hk),hp]
  rfl
structure Freed (d:Nat) (M:List NV) (L:List PodV) (id nd:Int):Prop where
  inn:nd ∈ nk M
  e4:cgC (plL M L d id nd 1) id 4 = 0
  t4:(appP (getL (plL M L d id nd 1) id) 4 (-1) 5).t = 5
  e5:cgC (plL M L d id nd 1) id 5 = 0
  f5:cgC (cgL (plL M L d id nd 1) id 4 5) id 5 = 0
  e8:cgC (cgL (plL M L d id nd 1) id 5 0) id 5 = 8
  f8:cgC (cgL (cgL (plL M L d id nd 1) id 4 5) id 5 0) id 5 = 8
  ue:∀ j,usedL (cgL (plL M L d id nd 1) id 5 0) nd j = usedL L nd j
  uf:∀ j,usedL (cgL (cgL (plL M L d id nd 1) id 4 5) id 5 0) nd j = usedL L nd j
theorem freed {d:Nat} {M:List NV} {L:List PodV} (ok:Ok d M L) {id nd:Int} (h0:plC M L d id nd 1 = 0):Freed d M L id nd:=by
  obtain ⟨h1,h2,h3,_⟩:=plC_zero h0
  obtain ⟨hp,hn⟩:=nx_one h3
  have ha:=plC_app h0
  have us:=fun j=>plL_used (d:=d) (M:=M) ok.lok (Or.inl rfl) h0 nd j
  have e1:plL M L d id nd 1 = appL L id 1 nd (-1):=by unfold plL;rw [if_pos h0]
  obtain ⟨k1,g1⟩:=get_app (nd:=nd) (dl:=-1) ok.lok ha
  rw [← e1] at k1 g1
  have l1:LOk (plL M L d id nd 1):=(plL_ok ok (Or.inl rfl)).lok
  obtain ⟨L1,hL1⟩:∃ L1,L1 = plL M L d id nd 1:=⟨_,rfl⟩
  rw [← hL1] at k1 g1 l1 us
  have p1:(getL L1 id).h = 3:=by rw [g1,appP_h];exact hn
  have d1:(getL L1 id).d = nd:=by rw [g1];unfold appP;simp
  have z1:(getL L1 id).Z = (getL L id).Z:=by rw [g1];rfl
  obtain ⟨c4,k2,g2,l2⟩:=cg_step (e:=4) (dl:=5) l1 k1 (by decide) (by rw [p1];decide)
  obtain ⟨c5,k3,g3,_⟩:=cg_step (e:=5) (dl:=0) l1 k1 (by decide) (by rw [p1];decide)
  have p2:(getL (cgL L1 id 4 5) id).h = 4:=by rw [g2,appP_h,p1];decide
  have d2:(getL (cgL L1 id 4 5) id).d = nd:=by rw [g2];unfold appP;simp [d1]
  have z2:(getL (cgL L1 id 4 5) id).Z = (getL L id).Z:=by rw [g2];exact z1
  obtain ⟨c6,k4,g4,_⟩:=cg_step (e:=5) (dl:=0) l2 k2 (by decide) (by rw [p2];decide)
  have u2:=fun j=>cgL_used (dl:=5) l1 c4 nd j
  have u3:=fun j=>cgL_used (dl:=0) l1 c5 nd j
  have u4:=fun j=>cgL_used (dl:=0) l2 c6 nd j
  refine ⟨h2,by rw [← hL1];exact c4,by unfold appP;simp,by rw [← hL1];exact c5,by rw [← hL1];exact c6,?_,?_,fun j=>?_,fun j=>?_⟩
  · rw [← hL1];exact cg_end k3 (by rw [g3,appP_h,p1];decide)
  · rw [← hL1];exact cg_end k4 (by rw [g4,appP_h,p2];decide)
  · rw [← hL1,u3,if_pos rfl,heldZ_on (Or.inl p1),if_pos d1,us,if_pos ⟨rfl,rfl⟩,z1]
    omega
  · rw [← hL1,u4,if_pos rfl,heldZ_on (Or.inr p2),if_pos d2,u2,if_neg (by decide),us,if_pos ⟨rfl,rfl⟩,z2]
    omega
section
variable {CS:PredC} {w:World} {d q:Nat} {M:List NV} {L:List PodV} {X:Nat→Prop} {w1:World}
theorem chg_ok (C:Con CS) (h:CS w d q M L X w1) (hg:ErrT w) (id ev dl:Int) (hi:I64 id) (he:I64 ev) (hd:I64 dl) (hm:M.length≤100) (hl:L.length≤100) (hc:cgC L id ev = 0) :
    Calls Tryz.prog 30 #[.pointer (some ⟨q,0,none⟩),.int .i64 id,.int .i64 ev,.int .i64 dl] w1 fun e w'=>∃ r:PodV,e = .returned (.tuple #[r.val,.nilIface])∧r.t = (appP (getL L id) ev (-1) dl).t∧CS w d q M (cgL L id ev dl) X w'∧SameX X w1 w':=by
  refine (C.change id ev dl h (hg.keep (C.kp h)) hi he hd hm hl).mono ?_
  rintro e w' ⟨r,h1,h2,_,_,_,h3,h4⟩
  rw [hc] at h1
  have h5:(nm r).t = (appP (getL L id) ev (-1) dl).t:=congrArg PodV.t (h2 hc)
  exact ⟨r,h1,h5,h3,h4⟩
theorem chg_no (C:Con CS) (h:CS w d q M L X w1) (hg:ErrT w) (id ev dl:Int) (hi:I64 id) (he:I64 ev) (hd:I64 dl) (hm:M.length≤100) (hl:L.length≤100) (hc:cgC L id ev = 8) :
    Calls Tryz.prog 30 #[.pointer (some ⟨q,0,none⟩),.int .i64 id,.int .i64 ev,.int .i64 dl] w1 fun e w'=>∃ r:PodV,e = .returned (.tuple #[r.val,flt 8 0])∧CS w d q M L X w'∧SameX X w1 w':=by
  refine (C.change id ev dl h (hg.keep (C.kp h)) hi he hd hm hl).mono ?_
  rintro e w' ⟨r,h1,_,_,_,_,h3,h4⟩
  rw [hc] at h1
  have e1:cgL L id ev dl = L:=by unfold cgL;rw [hc];rfl
  rw [e1] at h3
  exact ⟨r,h1,h3,h4⟩
theorem bind_ok (C:Con CS) (h:CS w d q M L X w1) (hg:ErrT w) (id nd:Int) (hi:I64 id) (hn:I64 nd) (hm:M.length≤100) (hl:L.length≤100) (hc:plC M L d id nd 1 = 0) :
    Calls Tryz.prog 29 #[.pointer (some ⟨q,0,none⟩),.int .i64 id,.int .i64 nd] w1 fun e w'=>∃ r:PodV,e = .returned (.tuple #[r.val,.nilIface])∧CS w d q M (plL M L d id nd 1) X w'∧SameX X w1 w':=by
  refine (C.bind id nd h (hg.keep (C.kp h)) hi hn hm hl).mono ?_
  rintro e w' ⟨r,h1,_,_,_,_,h3,h4⟩
  rw [hc] at h1
  exact ⟨r,h1,h3,h4⟩
theorem bind_no (C:Con CS) (h:CS w d q M L X w1) (hg:ErrT w) (id nd:Int) (hi:I64 id) (hn:I64 nd) (hm:M.length≤100) (hl:L.length≤100) (hc:plC M L d id nd 1≠0) :
    Calls Tryz.prog 29 #[.pointer (some ⟨q,0,none⟩),.int .i64 id,.int .i64 nd] w1 fun e w'=>∃ (r:PodV) (c i:Int),e = .returned (.tuple #[r.val,.iface 145 (.agg #[.int .i64 c,.int .i64 i])])∧CS w d q M L X w'∧SameX X w1 w':=by
  refine (C.bind id nd h (hg.keep (C.kp h)) hi hn hm hl).mono ?_
  rintro e w' ⟨r,h1,_,_,_,_,h3,h4⟩
  unfold fltA at h1
  rw [if_neg hc] at h1
  have e1:plL M L d id nd 1 = L:=by unfold plL;rw [if_neg hc]
  rw [e1] at h3
  exact ⟨r,_,_,h1,h3,h4⟩
end
end Go.Proofs.YtnclkefddkgojaaGreatDoor.T14

namespace Go.Proofs.YtnclkefddkgojaaGreatDoor.T14
open Go.RowKit Go.Sort Go.Lib V12 T13
theorem RdOc.at {w:World} {b off n:Nat} {P:Nat→OpC} (h:RdOc w (some ⟨b,off,none⟩) n P) {j:Nat} (hj:j < n):Cel13 w b (off + j * 13) (P j):=by
  obtain ⟨b',off',e,c⟩:=h.adr (by omega)
  have e2:=Option.some.inj e
  simp only [Addr.mk.injEq,and_true] at e2
  obtain ⟨rfl,rfl⟩:=e2
  exact c j hj
set_option maxRecDepth 100000 in
set_option maxHeartbeats 16000000 in
theorem frees_walk {CS:PredC} (C:Con CS) (N:NewOk CS) (A:Option Addr) (n c:Nat) (P:Nat→OpC) (id nd:Int) (evi:Bool) (hid:I64 id) (hnd:I64 nd) (w:World) (hR:RdOc w A n P) (hg:ErrT w):Calls Tryz.prog 7 #[.slice A n c,.int .i64 id,.int .i64 nd,.bool evi] w fun e w'=>e = .returned (.bool true)∧Keep w w':=by
  have hs:=hR.small
  obtain ⟨fb,hfb⟩:=fewc_or P n
  have cF:Hid (∀ W,Keep w W→Calls Tryz.prog 10 #[.slice A n c] W fun e w'=>e = .returned (.bool fb)∧Keep W w'):=fun W k=>fewc_fn A n c P W (hR.keep k) fb hfb
  have aw:Hid (∀ W,Keep w W→Calls Tryz.prog 9 #[] W fun e w'=>e = .returned (.bool true)∧Keep W w'):=fun W k=>awake_true C N W (hg.keep k)
  have cN:Hid (Calls Tryz.prog 8 #[.int .i64 2] w fun e w'=>∃ q,e = .returned (.pointer (some ⟨q,0,none⟩))∧CS w 2 q [] [] (fun _=>False) w'∧Keep w w'):=N 2 w w (Keep.refl w) (by omega)
  have CB:Hid (∀ b o,Con (Bx CS b o)):=fun b o=>bx_con C
  replace hfb:=Lib.hid hfb
  replace hg:=Lib.hid hg
  replace hR:=Lib.hid hR
  go_enter Tryz.func7,Tryz.ntmps7
  go_wp2_with fail
  refine cN.out.mono ?_
  rintro e w1 ⟨q,rfl,o1,_⟩
  have K1:=Lib.hid (C.kp o1)
  replace o1:=Lib.hid o1
  go_wp2_with fail
  refine (aw.out _ K1.out).mono ?_
  rintro e w2 ⟨rfl,k2⟩
  replace o1:=Lib.hid (C.keep o1.out k2)
  replace K1:=Lib.hid (C.kp o1.out)
  replace k2:=Lib.hid k2
  go_wp2_with fail
  refine (cF.out w2 K1.out).mono ?_
  rintro e w3 ⟨rfl,k3⟩
  replace o1:=Lib.hid (C.keep o1.out k3)
  replace K1:=Lib.hid (C.kp o1.out)
  replace k3:=Lib.hid k3
  cases fb with
  | false =>
    go_wp2_with fail
    refine (aw.out _ K1.out).mono ?_
    rintro e w4 ⟨rfl,k4⟩
    go_wp2
    go_ret
    exact ⟨rfl,K1.out.trans k4⟩
  | true =>
  have hf:=hfb.out.1 rfl
  have hn:=hf.1
  replace hf:=Lib.hid hf
  clear cN aw cF
  obtain ⟨b,hb⟩:∃ b,b = w3.heap.size:=⟨_,rfl⟩
  obtain ⟨wb,hwb⟩:∃ wb,wb = w3.alloc (.cells (⟨2,none,0,0,none,0,0⟩:RcV).arr 30):=⟨_,rfl⟩
  have S0:=bx_new C o1.out ⟨2,none,0,0,none,0,0⟩ rfl hwb
  rw [← hb] at S0
  have S0:=Lib.hid S0
  unfold RcV.arr at hwb
  simp only at hwb
  go_wp2
  rw [← hwb]
  try rw [← hb]
  replace hwb:=Lib.hid hwb
  replace hb:=Lib.hid hb
  go_loopg [11] n (fun gx s5 wr=>∃ (j:Nat) (x:RcV) (M:List NV) (L:List PodV) (Q:Nat→C14.NdC) (P':Nat→PodV) (X:Nat→Prop),j≤n∧gx = n - j∧s5 = .int .i64 j∧Hid (St (Bx CS b (.cells x.arr 30 (0,0))) w 2 q M L X wr x Q P')∧Hid (x.n≤j∧x.m≤j))
  case atStart=>exact ⟨0,_,[],[],_,_,_,Nat.zero_le _,rfl,rfl,S0.out,Nat.le_refl _,Nat.le_refl _⟩
  case round =>
    clear o1 K1 S0
    obtain ⟨j,x,M,L,Q,P',X,hj,rfl,rfl,ST,LE⟩:=hrel
    by_cases hlt:j < n
    · have KR:Hid (Keep w wr):=(CB.out _ _).kp ST.out.o
      obtain ⟨bo,off,hA,_⟩:=hR.out.adr (by omega)
      subst hA
      have q1:=atC bo off n c j hlt
      have ox:=hR.out.is j hlt
      have hfk:=hf.out.2 j hlt
      obtain ⟨o,ho⟩:∃ o,o = P j:=⟨_,rfl⟩
      obtain ⟨oo,hoo⟩:∃ oo,oo = off + j * 13:=⟨_,rfl⟩
      have atW:Hid (∀ W,Keep w W→Cel13 W bo oo o):=fun W k=>by rw [ho,hoo];exact (hR.out.keep k).at hlt
      rw [← ho] at ox hfk
      rw [← hoo] at q1
      replace ho:=Lib.hid ho
      replace hoo:=Lib.hid hoo
      have BW:Hid (wr.heap[b]? = some (.cells x.arr 30 (0,0))):=ST.out.o.2.1
      have HS:Hid (∀ W,Keep w W→W.heap[b]? = some (.cells x.arr 30 (0,0))→(W.cell? ⟨b,0,none⟩ = some (.int .i64 x.d)∧W.cell? ⟨b,1,none⟩ = some (.slice x.A x.n x.c)∧W.cell? ⟨b,2,none⟩ = some (.slice x.B x.m x.e)∧W.cell? ⟨bo,oo,none⟩ = some (.int .i64 o.kd)∧W.cell? ⟨bo,oo + 1,none⟩ = some (.int .i64 o.x.k)∧W.cell? ⟨bo,oo + 2,none⟩ = some (.int .i64 o.x.p)∧W.cell? ⟨bo,oo + 3,none⟩ = some (.bool o.x.f)∧W.cell? ⟨bo,oo + 4,none⟩ = some (.int .i64 o.x.g)∧W.cell? ⟨bo,oo + 5,none⟩ = some (.slice o.x.A o.x.m o.x.c)∧W.cell? ⟨bo,oo + 6,none⟩ = some (.int .i64 o.x.a)∧W.cell? ⟨bo,oo + 7,none⟩ = some (.int .i64 o.x.h)∧W.cell? ⟨bo,oo + 8,none⟩ = some (.int .i64 o.x.d)∧W.cell? ⟨bo,oo + 9,none⟩ = some (.int .i64 o.x.t)∧W.cell? ⟨bo,oo + 10,none⟩ = some (.int .i64 o.nd)∧W.cell? ⟨bo,oo + 11,none⟩ = some (.int .i64 o.ev)∧W.cell? ⟨bo,oo + 12,none⟩ = some (.slice o.A o.n o.c))):=fun W KW HB=>⟨(rc_cells HB).1,(rc_cells HB).2.1,(rc_cells HB).2.2.1,(atW.out W KW).k,(atW.out W KW).x.e0,(atW.out W KW).x.e1,(atW.out W KW).x.e2,(atW.out W KW).x.e3,(atW.out W KW).x.e4,(atW.out W KW).x.e5,(atW.out W KW).x.e6,(atW.out W KW).x.e7,(atW.out W KW).x.e8,(atW.out W KW).n,(atW.out W KW).e,(atW.out W KW).v⟩
      have cP:Hid (∀ W,Keep wr W→Calls Tryz.prog 11 #[.pointer (some ⟨q,0,none⟩),x.val,o.val] W fun e' w'=>∃ x' Q2 P2 X2,e' = .returned (.tuple #[(x':RcV).val,.bool true])∧St (Bx CS b (.cells x.arr 30 (0,0))) w 2 q (opM 2 M o) (opP 2 M L o) X2 w' x' Q2 P2∧(∀ i,X i→X2 i)∧SameX X W w'):=fun W k=>by
        refine (st_play (CB.out _ _) (ST.out.keep (CB.out _ _) k) hg.out (by omega) o ox hfk (by have:=LE.out;omega) (by have:=LE.out;omega)).mono ?_
        rintro e' w' ⟨x',Q2,P2,X2,h1,h2,h3,h4⟩
        exact ⟨x',Q2,P2,X2,h1,h2,h3,h4⟩
      unfold RcV.val OpC.val at cP
      go_upto_region 8 with fail
      have HELD:∀ Wz,Keep wr Wz→(Wz.cell? ⟨b,0,none⟩ = some (.int .i64 x.d)∧Wz.cell? ⟨b,1,none⟩ = some (.slice x.A x.n x.c)∧Wz.cell? ⟨b,2,none⟩ = some (.slice x.B x.m x.e)∧Wz.cell? ⟨bo,oo,none⟩ = some (.int .i64 o.kd)∧Wz.cell? ⟨bo,oo + 1,none⟩ = some (.int .i64 o.x.k)∧Wz.cell? ⟨bo,oo + 2,none⟩ = some (.int .i64 o.x.p)∧Wz.cell? ⟨bo,oo + 3,none⟩ = some (.bool o.x.f)∧Wz.cell? ⟨bo,oo + 4,none⟩ = some (.int .i64 o.x.g)∧Wz.cell? ⟨bo,oo + 5,none⟩ = some (.slice o.x.A o.x.m o.x.c)∧Wz.cell? ⟨bo,oo + 6,none⟩ = some (.int .i64 o.x.a)∧Wz.cell? ⟨bo,oo + 7,none⟩ = some (.int .i64 o.x.h)∧Wz.cell? ⟨bo,oo + 8,none⟩ = some (.int .i64 o.x.d)∧Wz.cell? ⟨bo,oo + 9,none⟩ = some (.int .i64 o.x.t)∧Wz.cell? ⟨bo,oo + 10,none⟩ = some (.int .i64 o.nd)∧Wz.cell? ⟨bo,oo + 11,none⟩ = some (.int .i64 o.ev)∧Wz.cell? ⟨bo,oo + 12,none⟩ = some (.slice o.A o.n o.c)):=fun Wz KK=>(HS.out Wz (KR.out.trans KK) (keep_at KK (lt_of_block BW.out) |>.trans BW.out))
      refine OrdS.rest_start (fun w'=>w'.cell? ⟨b,0,none⟩ = some (.int .i64 x.d)∧w'.cell? ⟨b,1,none⟩ = some (.slice x.A x.n x.c)∧w'.cell? ⟨b,2,none⟩ = some (.slice x.B x.m x.e)∧w'.cell? ⟨bo,oo,none⟩ = some (.int .i64 o.kd)∧w'.cell? ⟨bo,oo + 1,none⟩ = some (.int .i64 o.x.k)∧w'.cell? ⟨bo,oo + 2,none⟩ = some (.int .i64 o.x.p)∧w'.cell? ⟨bo,oo + 3,none⟩ = some (.bool o.x.f)∧w'.cell? ⟨bo,oo + 4,none⟩ = some (.int .i64 o.x.g)∧w'.cell? ⟨bo,oo + 5,none⟩ = some (.slice o.x.A o.x.m o.x.c)∧w'.cell? ⟨bo,oo + 6,none⟩ = some (.int .i64 o.x.a)∧w'.cell? ⟨bo,oo + 7,none⟩ = some (.int .i64 o.x.h)∧w'.cell? ⟨bo,oo + 8,none⟩ = some (.int .i64 o.x.d)∧w'.cell? ⟨bo,oo + 9,none⟩ = some (.int .i64 o.x.t)∧w'.cell? ⟨bo,oo + 10,none⟩ = some (.int .i64 o.nd)∧w'.cell? ⟨bo,oo + 11,none⟩ = some (.int .i64 o.ev)∧w'.cell? ⟨bo,oo + 12,none⟩ = some (.slice o.A o.n o.c)) [8,9,10] (by kernel_rfl) ?_ (fun hHeld=>?_)
      · exact HELD _ (Keep.refl wr).drew
      obtain ⟨wt0,hwt0⟩:∃ W,W = wr.drew:=⟨_,rfl⟩
      have Kwt0:Hid (Keep wr wt0):=by rw [hwt0];exact (Keep.refl _).drew
      rw [← hwt0] at hHeld ⊢
      replace hwt0:=Lib.hid hwt0
      refine OrdS.rest_take (i:=0) (v:=.pointer (some ⟨q,0,none⟩)) rfl (by kernel_rfl) (by kernel_rfl) (by kernel_rfl) (by kernel_rfl) (by kernel_rfl) (fun _ _ _ h=>h) (Or.inl ⟨by rfl,fun Wz hW=>by obtain ⟨a0,a1,a2,u0,u1,u2,u3,u4,u5,u6,u7,u8,u9,u10,u11,u12⟩:=hW;go_simp⟩) hHeld ?_
      simp only [Act.put,List.getElem_toArray,List.getElem_cons_zero,List.setIfInBounds_toArray,List.set_cons_zero,List.set_cons_succ]
      refine OrdS.rest_take (i:=1) (v:=.agg #[.int .i64 x.d,.slice x.A x.n x.c,.slice x.B x.m x.e]) rfl (by kernel_rfl) (by kernel_rfl) (by kernel_rfl) (by kernel_rfl) (by kernel_rfl) (fun _ _ _ h=>h) (Or.inl ⟨by rfl,fun Wz hW=>by obtain ⟨a0,a1,a2,u0,u1,u2,u3,u4,u5,u6,u7,u8,u9,u10,u11,u12⟩:=hW;go_simp⟩) hHeld ?_
      simp only [Act.put,List.getElem_toArray,List.getElem_cons_succ,List.getElem_cons_zero,List.setIfInBounds_toArray,List.set_cons_zero,List.set_cons_succ]
      refine OrdS.rest_take (i:=2) (v:=.slice (some ⟨bo,off,none⟩) n c) rfl (by kernel_rfl) (by kernel_rfl) (by kernel_rfl) (by kernel_rfl) (by kernel_rfl) (fun _ _ _ h=>h) (Or.inl ⟨by rfl,fun Wz hW=>by obtain ⟨a0,a1,a2,u0,u1,u2,u3,u4,u5,u6,u7,u8,u9,u10,u11,u12⟩:=hW;go_simp⟩) hHeld ?_
      simp only [Act.put,List.getElem_toArray,List.getElem_cons_succ,List.getElem_cons_zero,List.setIfInBounds_toArray,List.set_cons_zero,List.set_cons_succ]
      refine OrdS.rest_take (i:=3) (v:=.int .i64 j) rfl (by kernel_rfl) (by kernel_rfl) (by kernel_rfl) (by kernel_rfl) (by kernel_rfl) (fun _ _ _ h=>h) (Or.inl ⟨by rfl,fun Wz hW=>by obtain ⟨a0,a1,a2,u0,u1,u2,u3,u4,u5,u6,u7,u8,u9,u10,u11,u12⟩:=hW;go_simp⟩) hHeld ?_
      simp only [Act.put,List.getElem_toArray,List.getElem_cons_succ,List.getElem_cons_zero,List.setIfInBounds_toArray,List.set_cons_zero,List.set_cons_succ]
      refine OrdS.rest_take (i:=4) (v:=.pointer (some ⟨bo,oo,none⟩)) rfl (by kernel_rfl) (by kernel_rfl) (by kernel_rfl) (by kernel_rfl) (by kernel_rfl) (fun _ _ _ h=>h) (Or.inl ⟨by rfl,fun Wz hW=>by obtain ⟨a0,a1,a2,u0,u1,u2,u3,u4,u5,u6,u7,u8,u9,u10,u11,u12⟩:=hW;go_simp⟩) hHeld ?_
      simp only [Act.put,List.getElem_toArray,List.getElem_cons_succ,List.getElem_cons_zero,List.setIfInBounds_toArray,List.set_cons_zero,List.set_cons_succ]
      refine OrdS.rest_take (i:=5) (v:=.agg #[.int .i64 o.kd,.int .i64 o.x.k,.int .i64 o.x.p,.bool o.x.f,.int .i64 o.x.g,.slice o.x.A o.x.m o.x.c,.int .i64 o.x.a,.int .i64 o.x.h,.int .i64 o.x.d,.int .i64 o.x.t,.int .i64 o.nd,.int .i64 o.ev,.slice o.A o.n o.c]) rfl (by kernel_rfl) (by kernel_rfl) (by kernel_rfl) (by kernel_rfl) (by kernel_rfl) (fun _ _ _ h=>h) (Or.inl ⟨by rfl,fun Wz hW=>by obtain ⟨a0,a1,a2,u0,u1,u2,u3,u4,u5,u6,u7,u8,u9,u10,u11,u12⟩:=hW;go_simp⟩) hHeld ?_
      simp only [Act.put,List.getElem_toArray,List.getElem_cons_succ,List.getElem_cons_zero,List.setIfInBounds_toArray,List.set_cons_zero,List.set_cons_succ]
      refine OrdS.rest_ready (rs:=[6]) (by kernel_rfl) (by simp) ?_
      refine OrdS.Each.cons rfl (fun K hK=>?_) OrdS.Each.nil
      simp only [List.getElem_toArray,List.getElem_cons_succ,List.getElem_cons_zero]
      rw [if_pos (by rfl)]
      go_simp
      refine (cP.out _ Kwt0.out).mono ?_
      rintro e' w4 ⟨x',Q2,P2,X2,rfl,ST2,XX,SX⟩
      have ST2:=Lib.hid ST2
      have KW4:Hid (Keep w w4):=(CB.out _ _).kp ST2.out.o
      go_wp2_with fail
      refine hK.out _ _ (fun _=>HS.out w4 KW4.out ST2.out.o.2.1) ?_
      have hHeld:=HS.out w4 KW4.out ST2.out.o.2.1
      clear hK K
      try simp only [Act.put,List.getElem_toArray,List.getElem_cons_succ,List.getElem_cons_zero,List.setIfInBounds_toArray,List.set_cons_zero,List.set_cons_succ]
      refine OrdS.rest_take (i:=7) (v:=.tuple #[.agg #[.int .i64 x'.d,.slice x'.A x'.n x'.c,.slice x'.B x'.m x'.e],.bool true]) rfl (by kernel_rfl) (by kernel_rfl) (by kernel_rfl) (by kernel_rfl) (by kernel_rfl) (fun _ _ _ h=>h) (Or.inl ⟨by rfl,fun Wz hW=>by obtain ⟨a0,a1,a2,u0,u1,u2,u3,u4,u5,u6,u7,u8,u9,u10,u11,u12⟩:=hW;go_simp⟩) hHeld ?_
      simp only [Act.put,List.getElem_toArray,List.getElem_cons_succ,List.getElem_cons_zero,List.setIfInBounds_toArray,List.set_cons_zero,List.set_cons_succ]
      refine OrdS.rest_takeP (i:=8) (v:=.agg #[.int .i64 x'.d,.slice x'.A x'.n x'.c,.slice x'.B x'.m x'.e]) rfl (by kernel_rfl) (by kernel_rfl) (by kernel_rfl) (by kernel_rfl) (fun _ _ _ h=>h) (Or.inl ⟨by rfl,fun Wz _=>by go_simp⟩) ?_
      simp only [Act.put,List.getElem_toArray,List.getElem_cons_succ,List.getElem_cons_zero,List.setIfInBounds_toArray,List.set_cons_zero,List.set_cons_succ]
      refine OrdS.rest_takeP (i:=9) (v:=.bool true) rfl (by kernel_rfl) (by kernel_rfl) (by kernel_rfl) (by kernel_rfl) (fun _ _ _ h=>h) (Or.inl ⟨by rfl,fun Wz _=>by go_simp⟩) ?_
      simp only [Act.put,List.getElem_toArray,List.getElem_cons_succ,List.getElem_cons_zero,List.setIfInBounds_toArray,List.set_cons_zero,List.set_cons_succ]
      refine OrdS.rest_ready (rs:=[10]) (by kernel_rfl) (by simp) ?_
      refine OrdS.Each.cons rfl (fun K hK=>?_) OrdS.Each.nil
      simp only [List.getElem_toArray,List.getElem_cons_succ,List.getElem_cons_zero]
      rw [if_pos (by rfl)]
      obtain ⟨t0,t1,t2,tf⟩:=rc_cells ST2.out.o.2.1
      go_simp
      refine hK.out _ _ (fun e=>absurd (by simp) e) ?_
      clear hK K
      refine OrdS.rest_done (by kernel_rfl) ?_ _
      clear hHeld HELD Kwt0 hwt0 tf t0 t1 t2
      obtain ⟨w5,hw5⟩:∃ w5,w5 = put3 w4 b x':=⟨_,rfl⟩
      have ST5:=Lib.hid (bx_store C ST2.out hw5)
      have hw5e:=hw5
      unfold put3 at hw5e
      go_wp2_with fail
      try rw [← hw5e]
      clear hw5e
      have LE5:Hid (x'.n≤j + 1∧x'.m≤j + 1):=by
        have:=post_len ST.out ST2.out
        have:=LE.out
        exact ⟨by omega,by omega⟩
      replace hw5:=Lib.hid hw5
      have KW5:Hid (Keep w w5):=(CB.out _ _).kp ST5.out.o
      go_roundg (n - (j + 1))
      case measure=>omega
      case rel=>exact ⟨j + 1,x',_,_,Q2,P2,_,hlt,rfl,by go_num,ST5.out,LE5.out⟩
    · obtain rfl:j = n:=by omega
      have U:=ST.out.un
      have lM:M.length≤60:=by rw [ST.out.lenM];have:=LE.out;omega
      have lL:L.length≤60:=by rw [ST.out.lenL];have:=LE.out;omega
      have ok:=C.ok U
      have KU:Hid (Keep w wr):=C.kp U
      clear LE
      by_cases hin:nd ∈ nk M
      · have cFr:=Lib.hid (free_in C U nd hnd (by omega) (by omega) (by omega) hin)
        replace U:=Lib.hid U
        replace ok:=Lib.hid ok
        replace hid:=Lib.hid hid
        replace hnd:=Lib.hid hnd
        replace hin:=Lib.hid hin
        go_wp2_with fail
        refine cFr.out.mono ?_
        rintro e' w4 ⟨gf,of,cf,rfl,RF,hg1,hg2,k4⟩
        have U4:=Lib.hid (C.more U.out k4 (Z:=fun i=>i = gf) (fun i hi=>by rw [hi];exact ⟨hg1,hg2⟩))
        replace RF:=Lib.hid RF
        replace k4:=Lib.hid k4
        replace hg1:=Lib.hid hg1
        replace hg2:=Lib.hid hg2
        clear cFr
        by_cases h0:plC M L 2 id nd 1 = 0
        · have Fd:=Lib.hid (freed ok.out h0)
          have cB:=Lib.hid (bind_ok C U4.out hg.out id nd hid.out hnd.out (by omega) (by omega) h0)
          replace h0:=Lib.hid h0
          unfold PodV.val at cB
          go_wp2_with fail
          refine cB.out.mono ?_
          rintro e' w5 ⟨r,rfl,U5,S5⟩
          have RF5:Hid (Rd w5 (some ⟨gf,of,none⟩) 2 (fun j=>(nget M nd).C j - usedL L nd j)):=rd_sameB RF.out (S5 gf (Or.inr rfl))
          replace U5:=Lib.hid U5
          replace S5:=Lib.hid S5
          clear cB
          obtain ⟨b13,hb13⟩:∃ b13,b13 = w5.heap.size:=⟨_,rfl⟩
          obtain ⟨w6,hw6⟩:∃ w6,w6 = w5.alloc (.cells #[.int .i64 r.k,.int .i64 r.p,.bool r.f,.int .i64 r.g,.slice r.A r.m r.c,.int .i64 r.a,.int .i64 r.h,.int .i64 r.d,.int .i64 r.t] 35):=⟨_,rfl⟩
          have Kw6:Hid (Keep w5 w6):=by rw [hw6];exact Keep.one _ _
          have Bb13:Hid (w6.heap[b13]? = some (.cells #[.int .i64 r.k,.int .i64 r.p,.bool r.f,.int .i64 r.g,.slice r.A r.m r.c,.int .i64 r.a,.int .i64 r.h,.int .i64 r.d,.int .i64 r.t] 35 (0,0))):=by rw [hw6,hb13];exact heap_alloc_new _ _
          have U6:=Lib.hid (C.keep U5.out Kw6.out)
          have RF6:Hid (Rd w6 (some ⟨gf,of,none⟩) 2 (fun j=>(nget M nd).C j - usedL L nd j)):=RF5.out.keep Kw6.out
          cases evi with
          | true =>
            have cC:=Lib.hid (chg_ok C U6.out hg.out id 4 5 hid.out (by unfold I64;omega) (by unfold I64;omega) (by omega) (by simp only [plL_len];omega) Fd.out.e4)
            rw [Fd.out.t4] at cC
            unfold PodV.val at cC
            go_wp2_with fail
            rw [← hw6]
            try rw [← hb13]
            replace hw6:=Lib.hid hw6
            replace hb13:=Lib.hid hb13
            refine cC.out.mono ?_
            rintro e' w7 ⟨r7,rfl,rt,U7,S7⟩
            have RF7:Hid (Rd w7 (some ⟨gf,of,none⟩) 2 (fun j=>(nget M nd).C j - usedL L nd j)):=rd_sameB RF6.out (S7 gf (Or.inr rfl))
            replace U7:=Lib.hid U7
            replace S7:=Lib.hid S7
            clear cC
            obtain ⟨rk,rp,rf,rg,rA,rm,rc,rZ,ra,rh,rd,rtt⟩:=r7
            simp only at rt
            subst rt
            obtain ⟨b15,hb15⟩:∃ b15,b15 = w7.heap.size:=⟨_,rfl⟩
            obtain ⟨w8,hw8⟩:∃ w8,w8 = w7.alloc (.cells #[.int .i64 rk,.int .i64 rp,.bool rf,.int .i64 rg,.slice rA rm rc,.int .i64 ra,.int .i64 rh,.int .i64 rd,.int .i64 5] 35):=⟨_,rfl⟩
            have Kw8:Hid (Keep w7 w8):=by rw [hw8];exact Keep.one _ _
            have Bb15:Hid (w8.heap[b15]? = some (.cells #[.int .i64 rk,.int .i64 rp,.bool rf,.int .i64 rg,.slice rA rm rc,.int .i64 ra,.int .i64 rh,.int .i64 rd,.int .i64 5] 35 (0,0))):=by rw [hw8,hb15];exact heap_alloc_new _ _
            have U8:=Lib.hid (C.keep U7.out Kw8.out)
            have RF8:Hid (Rd w8 (some ⟨gf,of,none⟩) 2 (fun j=>(nget M nd).C j - usedL L nd j)):=RF7.out.keep Kw8.out
            have cD:=Lib.hid (chg_ok C U8.out hg.out id 5 0 hid.out (by unfold I64;omega) (by unfold I64;omega) (by omega) (by simp only [cgL_len,plL_len];omega) Fd.out.f5)
            unfold PodV.val at cD
            go_wp2_with fail
            rw [← hw8]
            try rw [← hb15]
            replace hw8:=Lib.hid hw8
            replace hb15:=Lib.hid hb15
            refine cD.out.mono ?_
            rintro e' w9 ⟨r9,rfl,rt9,U9,S9⟩
            clear rt9
            have RF9:Hid (Rd w9 (some ⟨gf,of,none⟩) 2 (fun j=>(nget M nd).C j - usedL L nd j)):=rd_sameB RF8.out (S9 gf (Or.inr rfl))
            replace U9:=Lib.hid U9
            replace S9:=Lib.hid S9
            clear cD
            obtain ⟨b17,hb17⟩:∃ b17,b17 = w9.heap.size:=⟨_,rfl⟩
            obtain ⟨w10,hw10⟩:∃ w10,w10 = w9.alloc (.cells #[.int .i64 r9.k,.int .i64 r9.p,.bool r9.f,.int .i64 r9.g,.slice r9.A r9.m r9.c,.int .i64 r9.a,.int .i64 r9.h,.int .i64 r9.d,.int .i64 r9.t] 35):=⟨_,rfl⟩
            have Kw10:Hid (Keep w9 w10):=by rw [hw10];exact Keep.one _ _
            have Bb17:Hid (w10.heap[b17]? = some (.cells #[.int .i64 r9.k,.int .i64 r9.p,.bool r9.f,.int .i64 r9.g,.slice r9.A r9.m r9.c,.int .i64 r9.a,.int .i64 r9.h,.int .i64 r9.d,.int .i64 r9.t] 35 (0,0))):=by rw [hw10,hb17];exact heap_alloc_new _ _
            have U10:=Lib.hid (C.keep U9.out Kw10.out)
            have RF10:Hid (Rd w10 (some ⟨gf,of,none⟩) 2 (fun j=>(nget M nd).C j - usedL L nd j)):=RF9.out.keep Kw10.out
            have cE:=Lib.hid (chg_no C U10.out hg.out id 5 0 hid.out (by unfold I64;omega) (by unfold I64;omega) (by omega) (by simp only [cgL_len,plL_len];omega) Fd.out.f8)
            unfold PodV.val at cE
            go_wp2_with fail
            rw [← hw10]
            try rw [← hb17]
            replace hw10:=Lib.hid hw10
            replace hb17:=Lib.hid hb17
            refine cE.out.mono ?_
            rintro e' w20 ⟨r20,rfl,U20,S20⟩
            have RF20:Hid (Rd w20 (some ⟨gf,of,none⟩) 2 (fun j=>(nget M nd).C j - usedL L nd j)):=rd_sameB RF10.out (S20 gf (Or.inr rfl))
            replace U20:=Lib.hid U20
            replace S20:=Lib.hid S20
            clear cE
            obtain ⟨b19,hb19⟩:∃ b19,b19 = w20.heap.size:=⟨_,rfl⟩
            obtain ⟨w21,hw21⟩:∃ w21,w21 = w20.alloc (.cells #[.int .i64 r20.k,.int .i64 r20.p,.bool r20.f,.int .i64 r20.g,.slice r20.A r20.m r20.c,.int .i64 r20.a,.int .i64 r20.h,.int .i64 r20.d,.int .i64 r20.t] 35):=⟨_,rfl⟩
            have Kw21:Hid (Keep w20 w21):=by rw [hw21];exact Keep.one _ _
            have Bb19:Hid (w21.heap[b19]? = some (.cells #[.int .i64 r20.k,.int .i64 r20.p,.bool r20.f,.int .i64 r20.g,.slice r20.A r20.m r20.c,.int .i64 r20.a,.int .i64 r20.h,.int .i64 r20.d,.int .i64 r20.t] 35 (0,0))):=by rw [hw21,hb19];exact heap_alloc_new _ _
            have U21:=Lib.hid (C.keep U20.out Kw21.out)
            have RF21:Hid (Rd w21 (some ⟨gf,of,none⟩) 2 (fun j=>(nget M nd).C j - usedL L nd j)):=RF20.out.keep Kw21.out
            have t8:Hid (Calls Tryz.prog 24 #[flt 8 0,.int .i64 8,.int .i64 0] w21 fun e w'=>e = .returned (.bool true)∧Keep w21 w'):=told_yes 8 0 w21 (hg.out.keep (C.kp U21.out))
            go_wp2_with fail
            rw [← hw21]
            try rw [← hb19]
            replace hw21:=Lib.hid hw21
            replace hb19:=Lib.hid hb19
            refine t8.out.mono ?_
            rintro e' w22 ⟨rfl,k22⟩
            have U22:=Lib.hid (C.keep U21.out k22)
            have RF22:Hid (Rd w22 (some ⟨gf,of,none⟩) 2 (fun j=>(nget M nd).C j - usedL L nd j)):=RF21.out.keep k22
            replace k22:=Lib.hid k22
            clear t8
            have cF2:=Lib.hid (free_in C U22.out nd hnd.out (by omega) (by simp only [cgL_len,plL_len];omega) (by omega) hin.out)
            go_wp2_with fail
            refine cF2.out.mono ?_
            rintro e' w23 ⟨g2,o2,c2,rfl,R2,_,_,k23⟩
            have U23:=Lib.hid (C.keep U22.out k23)
            have cSm:=Lib.hid (same_rows (c:=c2) (d:=cf) R2 (RF22.out.keep k23) (fun j hj=>by rw [Fd.out.uf]))
            replace k23:=Lib.hid k23
            replace R2:=Lib.hid R2
            clear cF2
            go_wp2_with fail
            refine cSm.out.mono ?_
            rintro e' w24 ⟨rfl,k24⟩
            go_wp2
            go_ret
            exact ⟨rfl,(C.kp U23.out).trans k24⟩
          | false =>
            have cD:=Lib.hid (chg_ok C U6.out hg.out id 5 0 hid.out (by unfold I64;omega) (by unfold I64;omega) (by omega) (by simp only [plL_len];omega) Fd.out.e5)
            unfold PodV.val at cD
            go_wp2_with fail
            rw [← hw6]
            try rw [← hb13]
            replace hw6:=Lib.hid hw6
            replace hb13:=Lib.hid hb13
            refine cD.out.mono ?_
            rintro e' w9 ⟨r9,rfl,rt9,U9,S9⟩
            clear rt9
            have RF9:Hid (Rd w9 (some ⟨gf,of,none⟩) 2 (fun j=>(nget M nd).C j - usedL L nd j)):=rd_sameB RF6.out (S9 gf (Or.inr rfl))
            replace U9:=Lib.hid U9
            replace S9:=Lib.hid S9
            clear cD
            obtain ⟨b17,hb17⟩:∃ b17,b17 = w9.heap.size:=⟨_,rfl⟩
            obtain ⟨w10,hw10⟩:∃ w10,w10 = w9.alloc (.cells #[.int .i64 r9.k,.int .i64 r9.p,.bool r9.f,.int .i64 r9.g,.slice r9.A r9.m r9.c,.int .i64 r9.a,.int .i64 r9.h,.int .i64 r9.d,.int .i64 r9.t] 35):=⟨_,rfl⟩
            have Kw10:Hid (Keep w9 w10):=by rw [hw10];exact Keep.one _ _
            have Bb17:Hid (w10.heap[b17]? = some (.cells #[.int .i64 r9.k,.int .i64 r9.p,.bool r9.f,.int .i64 r9.g,.slice r9.A r9.m r9.c,.int .i64 r9.a,.int .i64 r9.h,.int .i64 r9.d,.int .i64 r9.t] 35 (0,0))):=by rw [hw10,hb17];exact heap_alloc_new _ _
            have U10:=Lib.hid (C.keep U9.out Kw10.out)
            have RF10:Hid (Rd w10 (some ⟨gf,of,none⟩) 2 (fun j=>(nget M nd).C j - usedL L nd j)):=RF9.out.keep Kw10.out
            have cE:=Lib.hid (chg_no C U10.out hg.out id 5 0 hid.out (by unfold I64;omega) (by unfold I64;omega) (by omega) (by simp only [cgL_len,plL_len];omega) Fd.out.e8)
            unfold PodV.val at cE
            go_wp2_with fail
            rw [← hw10]
            try rw [← hb17]
            replace hw10:=Lib.hid hw10
            replace hb17:=Lib.hid hb17
            refine cE.out.mono ?_
            rintro e' w20 ⟨r20,rfl,U20,S20⟩
            have RF20:Hid (Rd w20 (some ⟨gf,of,none⟩) 2 (fun j=>(nget M nd).C j - usedL L nd j)):=rd_sameB RF10.out (S20 gf (Or.inr rfl))
            replace U20:=Lib.hid U20
            replace S20:=Lib.hid S20
            clear cE
            obtain ⟨b19,hb19⟩:∃ b19,b19 = w20.heap.size:=⟨_,rfl⟩
            obtain ⟨w21,hw21⟩:∃ w21,w21 = w20.alloc (.cells #[.int .i64 r20.k,.int .i64 r20.p,.bool r20.f,.int .i64 r20.g,.slice r20.A r20.m r20.c,.int .i64 r20.a,.int .i64 r20.h,.int .i64 r20.d,.int .i64 r20.t] 35):=⟨_,rfl⟩
            have Kw21:Hid (Keep w20 w21):=by rw [hw21];exact Keep.one _ _
            have Bb19:Hid (w21.heap[b19]? = some (.cells #[.int .i64 r20.k,.int .i64 r20.p,.bool r20.f,.int .i64 r20.g,.slice r20.A r20.m r20.c,.int .i64 r20.a,.int .i64 r20.h,.int .i64 r20.d,.int .i64 r20.t] 35 (0,0))):=by rw [hw21,hb19];exact heap_alloc_new _ _
            have U21:=Lib.hid (C.keep U20.out Kw21.out)
            have RF21:Hid (Rd w21 (some ⟨gf,of,none⟩) 2 (fun j=>(nget M nd).C j - usedL L nd j)):=RF20.out.keep Kw21.out
            have t8:Hid (Calls Tryz.prog 24 #[flt 8 0,.int .i64 8,.int .i64 0] w21 fun e w'=>e = .returned (.bool true)∧Keep w21 w'):=told_yes 8 0 w21 (hg.out.keep (C.kp U21.out))
            go_wp2_with fail
            rw [← hw21]
            try rw [← hb19]
            replace hw21:=Lib.hid hw21
            replace hb19:=Lib.hid hb19
            refine t8.out.mono ?_
            rintro e' w22 ⟨rfl,k22⟩
            have U22:=Lib.hid (C.keep U21.out k22)
            have RF22:Hid (Rd w22 (some ⟨gf,of,none⟩) 2 (fun j=>(nget M nd).C j - usedL L nd j)):=RF21.out.keep k22
            replace k22:=Lib.hid k22
            clear t8
            have cF2:=Lib.hid (free_in C U22.out nd hnd.out (by omega) (by simp only [cgL_len,plL_len];omega) (by omega) hin.out)
            go_wp2_with fail
            refine cF2.out.mono ?_
            rintro e' w23 ⟨g2,o2,c2,rfl,R2,_,_,k23⟩
            have U23:=Lib.hid (C.keep U22.out k23)
            have cSm:=Lib.hid (same_rows (c:=c2) (d:=cf) R2 (RF22.out.keep k23) (fun j hj=>by rw [Fd.out.ue]))
            replace k23:=Lib.hid k23
            replace R2:=Lib.hid R2
            clear cF2
            go_wp2_with fail
            refine cSm.out.mono ?_
            rintro e' w24 ⟨rfl,k24⟩
            go_wp2
            go_ret
            exact ⟨rfl,(C.kp U23.out).trans k24⟩
        · have cB:=Lib.hid (bind_no C U4.out hg.out id nd hid.out hnd.out (by omega) (by omega) h0)
          replace h0:=Lib.hid h0
          unfold PodV.val at cB
          go_wp2_with fail
          refine cB.out.mono ?_
          rintro e' w5 ⟨r,ec,ei,rfl,U5,S5⟩
          have RF5:Hid (Rd w5 (some ⟨gf,of,none⟩) 2 (fun j=>(nget M nd).C j - usedL L nd j)):=rd_sameB RF.out (S5 gf (Or.inr rfl))
          replace U5:=Lib.hid U5
          replace S5:=Lib.hid S5
          clear cB
          obtain ⟨b13,hb13⟩:∃ b13,b13 = w5.heap.size:=⟨_,rfl⟩
          obtain ⟨w6,hw6⟩:∃ w6,w6 = w5.alloc (.cells #[.int .i64 r.k,.int .i64 r.p,.bool r.f,.int .i64 r.g,.slice r.A r.m r.c,.int .i64 r.a,.int .i64 r.h,.int .i64 r.d,.int .i64 r.t] 35):=⟨_,rfl⟩
          have Kw6:Hid (Keep w5 w6):=by rw [hw6];exact Keep.one _ _
          have Bb13:Hid (w6.heap[b13]? = some (.cells #[.int .i64 r.k,.int .i64 r.p,.bool r.f,.int .i64 r.g,.slice r.A r.m r.c,.int .i64 r.a,.int .i64 r.h,.int .i64 r.d,.int .i64 r.t] 35 (0,0))):=by rw [hw6,hb13];exact heap_alloc_new _ _
          have U7:=Lib.hid (C.keep U5.out Kw6.out)
          have cF2:=Lib.hid (free_in C U7.out nd hnd.out (by omega) (by omega) (by omega) hin.out)
          go_wp2_with fail
          rw [← hw6]
          try rw [← hb13]
          replace hw6:=Lib.hid hw6
          replace hb13:=Lib.hid hb13
          refine cF2.out.mono ?_
          rintro e' w8 ⟨g2,o2,c2,rfl,R2,_,_,k8⟩
          have U8:=Lib.hid (C.keep U7.out k8)
          have cSm:=Lib.hid (same_rows (c:=c2) (d:=cf) R2 (RF5.out.keep (Kw6.out.trans k8)) (fun _ _=>rfl))
          replace R2:=Lib.hid R2
          replace k8:=Lib.hid k8
          clear cF2
          go_wp2_with fail
          refine cSm.out.mono ?_
          rintro e' w9 ⟨rfl,k9⟩
          go_wp2
          go_ret
          exact ⟨rfl,(C.kp U8.out).trans k9⟩
      · have h0:plC M L 2 id nd 1≠0:=fun h=>hin (plC_zero h).2.1
        have cFr:=Lib.hid (free_out C U nd hnd (by omega) (by omega) hin)
        replace U:=Lib.hid U
        replace ok:=Lib.hid ok
        replace hid:=Lib.hid hid
        replace hnd:=Lib.hid hnd
        replace hin:=Lib.hid hin
        go_wp2_with fail
        refine cFr.out.mono ?_
        rintro e' w4 ⟨FA,cf,rfl,k4⟩
        have U4:=Lib.hid (C.keep U.out k4)
        replace k4:=Lib.hid k4
        clear cFr
        have cB:=Lib.hid (bind_no C U4.out hg.out id nd hid.out hnd.out (by omega) (by omega) h0)
        replace h0:=Lib.hid h0
        unfold PodV.val at cB
        go_wp2_with fail
        refine cB.out.mono ?_
        rintro e' w5 ⟨r,ec,ei,rfl,U5,S5⟩
        replace U5:=Lib.hid U5
        replace S5:=Lib.hid S5
        clear cB
        obtain ⟨b13,hb13⟩:∃ b13,b13 = w5.heap.size:=⟨_,rfl⟩
        obtain ⟨w6,hw6⟩:∃ w6,w6 = w5.alloc (.cells #[.int .i64 r.k,.int .i64 r.p,.bool r.f,.int .i64 r.g,.slice r.A r.m r.c,.int .i64 r.a,.int .i64 r.h,.int .i64 r.d,.int .i64 r.t] 35):=⟨_,rfl⟩
        have Kw6:Hid (Keep w5 w6):=by rw [hw6];exact Keep.one _ _
        have Bb13:Hid (w6.heap[b13]? = some (.cells #[.int .i64 r.k,.int .i64 r.p,.bool r.f,.int .i64 r.g,.slice r.A r.m r.c,.int .i64 r.a,.int .i64 r.h,.int .i64 r.d,.int .i64 r.t] 35 (0,0))):=by rw [hw6,hb13];exact heap_alloc_new _ _
        have U7:=Lib.hid (C.keep U5.out Kw6.out)
        have cF2:=Lib.hid (free_out C U7.out nd hnd.out (by omega) (by omega) hin.out)
        go_wp2_with fail
        rw [← hw6]
        try rw [← hb13]
        replace hw6:=Lib.hid hw6
        replace hb13:=Lib.hid hb13
        refine cF2.out.mono ?_
        rintro e' w8 ⟨A2,c2,rfl,k8⟩
        have U8:=Lib.hid (C.keep U7.out k8)
        have cSm:=Lib.hid (same_rows (w:=w8) (c:=c2) (d:=cf) (Rd.nil w8 A2 fun _=>0) (Rd.nil w8 FA fun _=>0) (fun _ _=>rfl))
        replace k8:=Lib.hid k8
        clear cF2
        go_wp2_with fail
        refine cSm.out.mono ?_
        rintro e' w9 ⟨rfl,k9⟩
        go_wp2
        go_ret
        exact ⟨rfl,(C.kp U8.out).trans k9⟩
end Go.Proofs.YtnclkefddkgojaaGreatDoor.T14

