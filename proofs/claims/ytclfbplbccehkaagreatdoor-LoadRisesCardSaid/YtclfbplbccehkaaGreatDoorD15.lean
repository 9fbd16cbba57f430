/-
  The reference's Fits of layer 16. Conditions: at most 100 pods, whose requests are of the dimension and in the limits; the dimension is at most 64.
  The reference's Sub of vectors. Conditions: at most 1048576 elements.
-/
import Derived.Test.YtclfbplbccehkaaGreatDoorD14
import Derived.Test.YtclfbplbccehkaaGreatDoorD13
namespace Go.Proofs.YtclfbplbccehkaaGreatDoor.T16
open Go.RowKit Go.Sort Go.Lib V12 T13 T14 T15
def loadZ (O:Int→Bool) (p:PodV) (nd:Int) (L:List PodV) (j:Nat):Int:=usedL (outL O L) nd j + sumL (seesL p nd L) j
def fitsR (O:Int→Bool) (p:PodV) (nd:Int) (N:List C14.NdC) (L:List PodV) (d:Nat):Bool:=decide (nd ∈ C14.keys N∧¬ 0≤wrongOf p.m p.Z d∧∀ k,k < d→loadZ O p nd L k + p.Z k≤(C14.getL N nd).C k)
set_option maxRecDepth 100000 in
set_option maxHeartbeats 4000000 in
theorem r16fits_fn (x:RcV) (d:Nat) (hd:x.d = d) (hd64:d≤64) (p:PodV) (nd:Int) (WA:Option Addr) (wn wc:Nat) (WZ:Nat→Int) (O:Int→Bool) (hO:∀ k,O k = true ↔ ∃ j,j < wn∧WZ j = k) (Q:Nat→C14.NdC) (P:Nat→PodV) (w:World) (hN:C14.RdC w x.A x.n Q) (hQ:∀ i,i < x.n→(Q i).n = d) (hR:RdPods w x.B x.m P) (hm:x.m≤100) (hp:∀ j,j < x.m→(P j).m = d∧∀ k,k < d→Amt ((P j).Z k)) (hW:Rd w WA wn WZ) (hP:PodIs w p) :
    Calls Tryz.prog 15 #[x.val,p.val,.int .i64 nd,.slice WA wn wc] w fun e' w'=>e' = .returned (.bool (fitsR O p nd (C14.lst Q x.n) (T13.lst P x.m) d))∧Keep w w':=by
  have mixed:Tryz.prog.follows .mixedOrders = true:=by kernel_rfl
  obtain ⟨xd,A,n,c,B,m,e⟩:=x
  simp only at hd hN hQ hR hm hp ⊢
  obtain ⟨rs,hrs⟩:∃ b,b = fitsR O p nd (C14.lst Q n) (T13.lst P m) d:=⟨_,rfl⟩
  rw [← hrs]
  have hrs2:=hrs
  unfold fitsR at hrs2
  replace hrs:=Lib.hid hrs
  have s0:(w.alloc (.cells (RcV.arr ⟨xd,A,n,c,B,m,e⟩) 31)).heap.size = w.heap.size + 1:=World.size_alloc _ _
  obtain ⟨W0,hW0⟩:∃ W0,W0 = (w.alloc (.cells (RcV.arr ⟨xd,A,n,c,B,m,e⟩) 31)).alloc (.cells (podB p) 26):=⟨_,rfl⟩
  have K0:Hid (Keep w W0):=by rw [hW0];exact (Keep.one _ _).alloc _
  have B3:Hid (W0.heap[w.heap.size]? = some (.cells (RcV.arr ⟨xd,A,n,c,B,m,e⟩) 31 (0,0))):=by rw [hW0];exact (Keep.one _ _).block (heap_alloc_new _ _)
  have B4:Hid (W0.heap[w.heap.size + 1]? = some (.cells (podB p) 26 (0,0))):=by rw [hW0,← s0];exact heap_alloc_new _ _
  obtain ⟨b3,hb3⟩:∃ b,b = w.heap.size:=⟨_,rfl⟩
  obtain ⟨b4,hb4⟩:∃ b,b = w.heap.size + 1:=⟨_,rfl⟩
  rw [← hb3] at B3
  rw [← hb4] at B4
  have cF:Hid (Calls Tryz.prog 16 #[RcV.val ⟨xd,A,n,c,B,m,e⟩,.int .i64 nd] W0 fun e' w'=>e' = .returned (.int .i64 (C14.findN Q nd n))∧w' = W0.alloc (.cells (RcV.arr ⟨xd,A,n,c,B,m,e⟩) 31)):=rfindN_fn ⟨xd,A,n,c,B,m,e⟩ Q nd W0 (hN.row.keep K0.out)
  have CO:Hid (∀ Wz,Keep W0 Wz→Calls Tryz.prog 13 #[RcV.val ⟨xd,A,n,c,B,m,e⟩,p.val,.int .i64 nd,.slice WA wn wc] Wz fun e' w'=>∃ G c',e' = .returned (.slice G d c')∧Rd w' G d (if C14.findN Q nd n < 0 then fun _=>0 else fun j=>loadZ O p nd (T13.lst P m) j)∧Keep Wz w'):=fun Wz kk=>r16of_fn ⟨xd,A,n,c,B,m,e⟩ d hd hd64 p nd WA wn wc WZ O hO Q P Wz (hN.row.keep (K0.out.trans kk)) (hR.keep (K0.out.trans kk)) hm hp (hW.keep (K0.out.trans kk))
  have RP:=Lib.hid hP.rd
  have am:∀ L:List PodV,(∀ y ∈ L,y ∈ T13.lst P m)→∀ k,k < d→∀ y ∈ L,Amt (y.Z k):=fun L hL k hk y hy=>by
    obtain ⟨i,hi,e1⟩:=lst_mem.1 (hL y hy)
    rw [← e1]
    exact (hp i hi).2 k hk
  have LB:Hid (∀ k,k < d→0≤loadZ O p nd (T13.lst P m) k∧loadZ O p nd (T13.lst P m) k≤219902325555200):=fun k hk=>by
    have h1:=am (outL O (T13.lst P m)) (fun y hy=>(List.mem_filter.1 hy).1) k hk
    have h2:=usedL_hi (id:=nd) h1
    have h4:=usedL_lo (id:=nd) h1
    have h3:(outL O (T13.lst P m)).length≤m:=Nat.le_trans (List.length_filter_le _ _) (by rw [lst_len];exact Nat.le_refl _)
    have h5:=sumL_bd (L:=seesL p nd (T13.lst P m)) (j:=k) (n:=m) (Nat.le_trans (List.length_filter_le _ _) (by rw [lst_len];exact Nat.le_refl _)) hm (am (seesL p nd (T13.lst P m)) (fun y hy=>(List.mem_filter.1 hy).1) k hk)
    unfold loadZ
    omega
  clear am
  have hm1:max (d:Int) 0 = d:=by omega
  replace hR:=Lib.hid hR
  replace hp:=Lib.hid hp
  replace hO:=Lib.hid hO
  replace hW:=Lib.hid hW
  replace hP:=Lib.hid hP
  replace s0:=Lib.hid s0
  rcases C14.find_cases Q nd n with ⟨f1,f2⟩ | ⟨i,hi,f1,_,f2,f3⟩
  · have er:rs = false:=by rw [hrs2];exact decide_eq_false fun h=>f2 h.1
    subst er
    rw [f1] at cF
    replace f2:=Lib.hid f2
    replace hN:=Lib.hid hN
    replace hQ:=Lib.hid hQ
    replace hd:=Lib.hid hd
    replace hrs2:=Lib.hid hrs2
    unfold RcV.val PodV.val at *
    unfold RcV.arr podB at hW0
    simp only at hW0 cF
    go_enter Tryz.func15,Tryz.ntmps15
    go_wp2_with fail
    rw [← hW0,← hb4,← hb3]
    replace hW0:=Lib.hid hW0
    replace hb3:=Lib.hid hb3
    replace hb4:=Lib.hid hb4
    refine cF.out.mono ?_
    rintro e' w4 ⟨rfl,hw4⟩
    have K4:Hid (Keep W0 w4):=by rw [hw4];exact Keep.one _ _
    replace hw4:=Lib.hid hw4
    have KW4:Hid (Keep w w4):=K0.out.trans K4.out
    have B3w:Hid (w4.heap[b3]? = some (.cells (RcV.arr ⟨xd,A,n,c,B,m,e⟩) 31 (0,0))):=Keep.block K4.out B3.out
    have B4w:Hid (w4.heap[b4]? = some (.cells (podB p) 26 (0,0))):=Keep.block K4.out B4.out
    obtain ⟨c0,c1,c2,_⟩:=rc_cells B3w.out
    simp only at c0 c1 c2
    have p4:=(blk9 B4w.out).e4
    go_wp2
    go_ret
    exact ⟨rfl,KW4.out⟩
  · subst hd
    rw [f1] at cF CO
    rw [f3] at hrs2
    have hneg:decide ((i:Int) < 0) = false:=decide_eq_false (by omega)
    have CO2:Hid (∀ Wz,Keep W0 Wz→Calls Tryz.prog 13 #[RcV.val ⟨d,A,n,c,B,m,e⟩,p.val,.int .i64 nd,.slice WA wn wc] Wz fun e' w'=>∃ G c',e' = .returned (.slice G d c')∧Rd w' G d (loadZ O p nd (T13.lst P m))∧Keep Wz w'):=fun Wz kk=>by
      have:=CO.out Wz kk
      rw [if_neg (by omega)] at this
      exact this
    clear CO
    obtain ⟨wv,hwv⟩:∃ v,v = wrongOf p.m p.Z d:=⟨_,rfl⟩
    rw [← hwv] at hrs2
    have cW:Hid (∀ Wz,Keep w Wz→Calls Tryz.prog 20 #[.slice p.A p.m p.c,.int .i64 d] Wz fun e' w'=>e' = .returned (.int .i64 wv)∧w' = Wz):=fun Wz kk=>by rw [hwv];exact rwrong_any p.A p.m p.c p.Z d Wz (RP.out.keep kk)
    by_cases hw:0≤wv
    · have er:rs = false:=by rw [hrs2];exact decide_eq_false fun h=>h.2.1 hw
      subst er
      have hwb:decide (0≤wv) = true:=decide_eq_true hw
      replace hw:=Lib.hid hw
      replace hwv:=Lib.hid hwv
      replace f1:=Lib.hid f1
      replace f2:=Lib.hid f2
      replace f3:=Lib.hid f3
      replace hN:=Lib.hid hN
      replace hQ:=Lib.hid hQ
      replace hrs2:=Lib.hid hrs2
      unfold RcV.val PodV.val at *
      unfold RcV.arr podB at hW0
      simp only at hW0 cF
      go_enter Tryz.func15,Tryz.ntmps15
      go_wp2_with fail
      rw [← hW0,← hb4,← hb3]
      replace hW0:=Lib.hid hW0
      replace hb3:=Lib.hid hb3
      replace hb4:=Lib.hid hb4
      refine cF.out.mono ?_
      rintro e' w4 ⟨rfl,hw4⟩
      have K4:Hid (Keep W0 w4):=by rw [hw4];exact Keep.one _ _
      replace hw4:=Lib.hid hw4
      have KW4:Hid (Keep w w4):=K0.out.trans K4.out
      have B3w:Hid (w4.heap[b3]? = some (.cells (RcV.arr ⟨d,A,n,c,B,m,e⟩) 31 (0,0))):=Keep.block K4.out B3.out
      have B4w:Hid (w4.heap[b4]? = some (.cells (podB p) 26 (0,0))):=Keep.block K4.out B4.out
      obtain ⟨c0,c1,c2,_⟩:=rc_cells B3w.out
      simp only at c0 c1 c2
      have p4:=(blk9 B4w.out).e4
      go_wp2_with fail
      try simp only [hm1]
      refine (cW.out _ KW4.out).mono ?_
      rintro e' w5 ⟨rfl,rfl⟩
      go_wp2
      go_ret
      exact ⟨rfl,KW4.out⟩
    · have hnw:¬ 0≤wrongOf p.m p.Z (d:Int):=by rw [← hwv];exact hw
      obtain ⟨hpm0,hpz⟩:=wrong_no hnw
      have hpm:Hid (p.m = d):=hpm0
      have hwb:decide (0≤wv) = false:=decide_eq_false hw
      have er:rs = fitsB d (fun k=>loadZ O p nd (T13.lst P m) k + p.Z k) d (Q i).C:=by
        rw [hrs2]
        unfold fitsB
        rw [decide_eq_decide]
        exact ⟨fun h=>⟨rfl,h.2.2⟩,fun h=>⟨f2,hw,h.2⟩⟩
      have SUM:Hid (∀ k,k < d→-9223372036854775808≤loadZ O p nd (T13.lst P m) k + p.Z k∧loadZ O p nd (T13.lst P m) k + p.Z k≤9223372036854775807):=fun k hk=>by
        have h1:=LB.out k hk
        have h2:0≤p.Z k∧p.Z k≤1099511627776:=hpz k (by omega)
        omega
      rw [hpm0] at RP
      obtain ⟨gn,of2,hAA,cn⟩:=hN.row.adr (by omega)
      subst hAA
      have q2:=C14.atN gn of2 n c i hi
      have n1:=Lib.hid (cn i hi).e1
      have nr:=Lib.hid (hN.rd i hi)
      rw [hQ i hi] at n1 nr
      obtain ⟨nA,hnA⟩:∃ nA,nA = (Q i).A:=⟨_,rfl⟩
      obtain ⟨nc,hnc⟩:∃ nc,nc = (Q i).c:=⟨_,rfl⟩
      obtain ⟨nC,hnC⟩:∃ nC,nC = (Q i).C:=⟨_,rfl⟩
      rw [← hnA,← hnc] at n1
      rw [← hnA,← hnC] at nr
      rw [← hnC] at er
      have cFit:Hid (∀ W' G' c',Rd W' G' d (fun k=>loadZ O p nd (T13.lst P m) k + p.Z k)→Keep w W'→Calls Tryz.prog 21 #[.slice G' d c',.slice nA d nc] W' fun e' w'=>e' = .returned (.bool rs)∧Keep w w'):=fun W' G' c' hu kk=>(rfits_any G' nA d d c' nc _ nC W' hu (nr.out.keep kk)).mono fun _ _ ⟨he,k3⟩=>⟨by rw [er];exact he,kk.trans k3.keep⟩
      clear cn
      replace hw:=Lib.hid hw
      replace hwv:=Lib.hid hwv
      replace f1:=Lib.hid f1
      replace f2:=Lib.hid f2
      replace f3:=Lib.hid f3
      replace hN:=Lib.hid hN
      replace hQ:=Lib.hid hQ
      replace hrs2:=Lib.hid hrs2
      replace hpz:=Lib.hid hpz
      replace hpm0:=Lib.hid hpm0
      replace er:=Lib.hid er
      replace hnA:=Lib.hid hnA
      replace hnc:=Lib.hid hnc
      replace hnC:=Lib.hid hnC
      unfold RcV.val PodV.val at *
      unfold RcV.arr podB at hW0
      simp only at hW0 cF
      go_enter Tryz.func15,Tryz.ntmps15
      go_wp2_with fail
      rw [← hW0,← hb4,← hb3]
      replace hW0:=Lib.hid hW0
      replace hb3:=Lib.hid hb3
      replace hb4:=Lib.hid hb4
      refine cF.out.mono ?_
      rintro e' w4 ⟨rfl,hw4⟩
      have K4:Hid (Keep W0 w4):=by rw [hw4];exact Keep.one _ _
      replace hw4:=Lib.hid hw4
      have KW4:Hid (Keep w w4):=K0.out.trans K4.out
      have B3w:Hid (w4.heap[b3]? = some (.cells (RcV.arr ⟨d,some ⟨gn,of2,none⟩,n,c,B,m,e⟩) 31 (0,0))):=Keep.block K4.out B3.out
      have B4w:Hid (w4.heap[b4]? = some (.cells (podB p) 26 (0,0))):=Keep.block K4.out B4.out
      obtain ⟨c0,c1,c2,_⟩:=rc_cells B3w.out
      simp only at c0 c1 c2
      have p4:=(blk9 B4w.out).e4
      have CO:Hid (∀ Wz,Keep w4 Wz→Calls Tryz.prog 13 #[.agg #[.int .i64 d,.slice (some ⟨gn,of2,none⟩) n c,.slice B m e],.agg #[.int .i64 p.k,.int .i64 p.p,.bool p.f,.int .i64 p.g,.slice p.A p.m p.c,.int .i64 p.a,.int .i64 p.h,.int .i64 p.d,.int .i64 p.t],.int .i64 nd,.slice WA wn wc] Wz fun e' w'=>∃ G c',e' = .returned (.slice G d c')∧Rd w' G d (loadZ O p nd (T13.lst P m))∧Keep Wz w'):=fun Wz kk=>CO2.out Wz (K4.out.trans kk)
      go_wp2_with fail
      try simp only [hm1]
      refine (cW.out _ KW4.out).mono ?_
      rintro e' w5 ⟨rfl,h5⟩
      rw [h5]
      clear h5 c0 c1 c2 p4
      go_upto_region 4 with fail
      have HELD:∀ Wz,Keep w4 Wz→(Wz.cell? ⟨b3,0,none⟩ = some (.int .i64 d)∧Wz.cell? ⟨b3,1,none⟩ = some (.slice (some ⟨gn,of2,none⟩) n c)∧Wz.cell? ⟨b3,2,none⟩ = some (.slice B m e)∧Wz.cell? ⟨b4,0,none⟩ = some (.int .i64 p.k)∧Wz.cell? ⟨b4,1,none⟩ = some (.int .i64 p.p)∧Wz.cell? ⟨b4,2,none⟩ = some (.bool p.f)∧Wz.cell? ⟨b4,3,none⟩ = some (.int .i64 p.g)∧Wz.cell? ⟨b4,4,none⟩ = some (.slice p.A p.m p.c)∧Wz.cell? ⟨b4,5,none⟩ = some (.int .i64 p.a)∧Wz.cell? ⟨b4,6,none⟩ = some (.int .i64 p.h)∧Wz.cell? ⟨b4,7,none⟩ = some (.int .i64 p.d)∧Wz.cell? ⟨b4,8,none⟩ = some (.int .i64 p.t)):=fun Wz KK=>⟨(rc_cells (Keep.block KK B3w.out)).1,(rc_cells (Keep.block KK B3w.out)).2.1,(rc_cells (Keep.block KK B3w.out)).2.2.1,(blk9 (Keep.block KK B4w.out)).e0,(blk9 (Keep.block KK B4w.out)).e1,(blk9 (Keep.block KK B4w.out)).e2,(blk9 (Keep.block KK B4w.out)).e3,(blk9 (Keep.block KK B4w.out)).e4,(blk9 (Keep.block KK B4w.out)).e5,(blk9 (Keep.block KK B4w.out)).e6,(blk9 (Keep.block KK B4w.out)).e7,(blk9 (Keep.block KK B4w.out)).e8⟩
      refine OrdS.rest_start (fun w'=>w'.cell? ⟨b3,0,none⟩ = some (.int .i64 d)∧w'.cell? ⟨b3,1,none⟩ = some (.slice (some ⟨gn,of2,none⟩) n c)∧w'.cell? ⟨b3,2,none⟩ = some (.slice B m e)∧w'.cell? ⟨b4,0,none⟩ = some (.int .i64 p.k)∧w'.cell? ⟨b4,1,none⟩ = some (.int .i64 p.p)∧w'.cell? ⟨b4,2,none⟩ = some (.bool p.f)∧w'.cell? ⟨b4,3,none⟩ = some (.int .i64 p.g)∧w'.cell? ⟨b4,4,none⟩ = some (.slice p.A p.m p.c)∧w'.cell? ⟨b4,5,none⟩ = some (.int .i64 p.a)∧w'.cell? ⟨b4,6,none⟩ = some (.int .i64 p.h)∧w'.cell? ⟨b4,7,none⟩ = some (.int .i64 p.d)∧w'.cell? ⟨b4,8,none⟩ = some (.int .i64 p.t)) [] (by kernel_rfl) ?_ (fun hHeld=>?_)
      · exact HELD _ (Keep.refl w4).drew
      obtain ⟨wt0,hwt0⟩:∃ W,W = w4.drew:=⟨_,rfl⟩
      have Kwt0:Hid (Keep w4 wt0):=by rw [hwt0];exact (Keep.refl _).drew
      rw [← hwt0] at hHeld ⊢
      replace hwt0:=Lib.hid hwt0
      refine OrdS.tk (i:=0) (v:=.agg #[.int .i64 d,.slice (some ⟨gn,of2,none⟩) n c,.slice B m e]) rfl (by kernel_rfl) (fun _ _ _ h=>h) (by rfl) (fun Wz hW=>by obtain ⟨u0,u1,u2,u3,u4,u5,u6,u7,u8,u9,u10,u11⟩:=hW;go_simp) hHeld ?_
      simp only [Act.put,List.getElem_toArray,List.getElem_cons_zero,List.setIfInBounds_toArray,List.set_cons_zero,List.set_cons_succ]
      refine OrdS.tk (i:=1) (v:=.agg #[.int .i64 p.k,.int .i64 p.p,.bool p.f,.int .i64 p.g,.slice p.A p.m p.c,.int .i64 p.a,.int .i64 p.h,.int .i64 p.d,.int .i64 p.t]) rfl (by kernel_rfl) (fun _ _ _ h=>h) (by rfl) (fun Wz hW=>by obtain ⟨u0,u1,u2,u3,u4,u5,u6,u7,u8,u9,u10,u11⟩:=hW;go_simp) hHeld ?_
      simp only [Act.put,List.getElem_toArray,List.getElem_cons_succ,List.getElem_cons_zero,List.setIfInBounds_toArray,List.set_cons_zero,List.set_cons_succ]
      refine OrdS.tk (i:=2) (v:=.int .i64 nd) rfl (by kernel_rfl) (fun _ _ _ h=>h) (by rfl) (fun Wz hW=>by obtain ⟨u0,u1,u2,u3,u4,u5,u6,u7,u8,u9,u10,u11⟩:=hW;go_simp) hHeld ?_
      simp only [Act.put,List.getElem_toArray,List.getElem_cons_succ,List.getElem_cons_zero,List.setIfInBounds_toArray,List.set_cons_zero,List.set_cons_succ]
      refine OrdS.tk (i:=3) (v:=.slice WA wn wc) rfl (by kernel_rfl) (fun _ _ _ h=>h) (by rfl) (fun Wz hW=>by obtain ⟨u0,u1,u2,u3,u4,u5,u6,u7,u8,u9,u10,u11⟩:=hW;go_simp) hHeld ?_
      simp only [Act.put,List.getElem_toArray,List.getElem_cons_succ,List.getElem_cons_zero,List.setIfInBounds_toArray,List.set_cons_zero,List.set_cons_succ]
      refine OrdS.tk (i:=5) (v:=.pointer (some ⟨b4,4,none⟩)) rfl (by kernel_rfl) (fun _ _ _ h=>h) (by rfl) (fun Wz hW=>by obtain ⟨u0,u1,u2,u3,u4,u5,u6,u7,u8,u9,u10,u11⟩:=hW;go_simp) hHeld ?_
      simp only [Act.put,List.getElem_toArray,List.getElem_cons_succ,List.getElem_cons_zero,List.setIfInBounds_toArray,List.set_cons_zero,List.set_cons_succ]
      refine OrdS.tk (i:=6) (v:=.slice p.A p.m p.c) rfl (by kernel_rfl) (fun _ _ _ h=>h) (by rfl) (fun Wz hW=>by obtain ⟨u0,u1,u2,u3,u4,u5,u6,u7,u8,u9,u10,u11⟩:=hW;go_simp) hHeld ?_
      simp only [Act.put,List.getElem_toArray,List.getElem_cons_succ,List.getElem_cons_zero,List.setIfInBounds_toArray,List.set_cons_zero,List.set_cons_succ]
      refine OrdS.rest_ready (rs:=[4]) (by kernel_rfl) (by simp) ?_
      refine OrdS.Each.cons rfl (fun K hK=>?_) OrdS.Each.nil
      simp only [List.getElem_toArray,List.getElem_cons_succ,List.getElem_cons_zero]
      rw [if_pos (by rfl)]
      go_simp
      refine (CO.out _ Kwt0.out).mono ?_
      rintro e' w6 ⟨G1,c1,rfl,r6,k6⟩
      have K6:Hid (Keep w4 w6):=Kwt0.out.trans k6
      replace k6:=Lib.hid k6
      replace r6:=Lib.hid r6
      go_wp2_with fail
      refine hK.out _ _ (fun _=>HELD _ K6.out) ?_
      have hHeld:=HELD _ K6.out
      clear hK K
      try simp only [Act.put,List.getElem_toArray,List.getElem_cons_succ,List.getElem_cons_zero,List.setIfInBounds_toArray,List.set_cons_zero,List.set_cons_succ]
      refine OrdS.rest_ready (rs:=[7]) (by kernel_rfl) (by simp) ?_
      refine OrdS.Each.cons rfl (fun K hK=>?_) OrdS.Each.nil
      simp only [List.getElem_toArray,List.getElem_cons_succ,List.getElem_cons_zero]
      rw [if_pos (by rfl)]
      go_simp
      rw [hpm.out]
      obtain ⟨wa,hwa⟩:∃ W,W = w6.alloc (.cells #[.slice G1 d c1,.slice p.A d p.c] 24):=⟨_,rfl⟩
      have Ja:Hid (Keep w6 wa):=by rw [hwa];exact Keep.one _ _
      have Ka:Hid (Keep w4 wa):=K6.out.trans Ja.out
      have Ca:Hid (wa.heap[w6.heap.size]? = some (.cells #[.slice G1 d c1,.slice p.A d p.c] 24 (0,0))):=by rw [hwa];exact heap_alloc_new _ _
      rw [← hwa]
      replace hwa:=Lib.hid hwa
      refine hK.out _ _ (fun _=>HELD _ Ka.out) ?_
      have hHeld:=HELD _ Ka.out
      clear hK K
      try simp only [Act.put,List.getElem_toArray,List.getElem_cons_succ,List.getElem_cons_zero,List.setIfInBounds_toArray,List.set_cons_zero,List.set_cons_succ]
      refine OrdS.rest_ready (rs:=[8]) (by kernel_rfl) (by simp) ?_
      refine OrdS.Each.cons rfl (fun K hK=>?_) OrdS.Each.nil
      simp only [List.getElem_toArray,List.getElem_cons_succ,List.getElem_cons_zero]
      rw [if_pos (by rfl)]
      go_simp
      refine (radd2_fn wa w6.heap.size d c1 p.c _ _ _ _ Ca.out (r6.out.keep Ja.out) (RP.out.keep (KW4.out.trans Ka.out)) (by omega) SUM.out).mono ?_
      rintro e' w8 ⟨G,c8,rfl,r8,k8⟩
      have K8:Hid (Keep w4 w8):=Ka.out.trans k8
      have K8w:Hid (Keep w w8):=KW4.out.trans K8.out
      replace k8:=Lib.hid k8
      replace r8:=Lib.hid r8
      go_wp2_with fail
      refine hK.out _ _ (fun _=>HELD _ K8.out) ?_
      have hHeld:=HELD _ K8.out
      clear hK K
      try simp only [Act.put,List.getElem_toArray,List.getElem_cons_succ,List.getElem_cons_zero,List.setIfInBounds_toArray,List.set_cons_zero,List.set_cons_succ]
      refine OrdS.tk (i:=9) (v:=.tuple #[.slice G d c8,.bool true]) rfl (by kernel_rfl) (fun _ _ _ h=>h) (by rfl) (fun Wz hW=>by obtain ⟨u0,u1,u2,u3,u4,u5,u6,u7,u8,u9,u10,u11⟩:=hW;go_simp) hHeld ?_
      simp only [Act.put,List.getElem_toArray,List.getElem_cons_succ,List.getElem_cons_zero,List.setIfInBounds_toArray,List.set_cons_zero,List.set_cons_succ]
      refine OrdS.tk (i:=10) (v:=.slice G d c8) rfl (by kernel_rfl) (fun _ _ _ h=>h) (by rfl) (fun Wz hW=>by obtain ⟨u0,u1,u2,u3,u4,u5,u6,u7,u8,u9,u10,u11⟩:=hW;go_simp) hHeld ?_
      simp only [Act.put,List.getElem_toArray,List.getElem_cons_succ,List.getElem_cons_zero,List.setIfInBounds_toArray,List.set_cons_zero,List.set_cons_succ]
      refine OrdS.tk (i:=11) (v:=.bool true) rfl (by kernel_rfl) (fun _ _ _ h=>h) (by rfl) (fun Wz hW=>by obtain ⟨u0,u1,u2,u3,u4,u5,u6,u7,u8,u9,u10,u11⟩:=hW;go_simp) hHeld ?_
      simp only [Act.put,List.getElem_toArray,List.getElem_cons_succ,List.getElem_cons_zero,List.setIfInBounds_toArray,List.set_cons_zero,List.set_cons_succ]
      refine OrdS.tk (i:=12) (v:=.slice G d c8) rfl (by kernel_rfl) (fun _ _ _ h=>h) (by rfl) (fun Wz hW=>by obtain ⟨u0,u1,u2,u3,u4,u5,u6,u7,u8,u9,u10,u11⟩:=hW;go_simp) hHeld ?_
      simp only [Act.put,List.getElem_toArray,List.getElem_cons_succ,List.getElem_cons_zero,List.setIfInBounds_toArray,List.set_cons_zero,List.set_cons_succ]
      refine OrdS.tk (i:=13) (v:=.bool true) rfl (by kernel_rfl) (fun _ _ _ h=>h) (by rfl) (fun Wz hW=>by obtain ⟨u0,u1,u2,u3,u4,u5,u6,u7,u8,u9,u10,u11⟩:=hW;go_simp) hHeld ?_
      simp only [Act.put,List.getElem_toArray,List.getElem_cons_succ,List.getElem_cons_zero,List.setIfInBounds_toArray,List.set_cons_zero,List.set_cons_succ]
      refine OrdS.rest_done (by kernel_rfl) ?_ _
      obtain ⟨c0,c1,c2,_⟩:=rc_cells (Keep.block K8.out B3w.out)
      simp only at c0 c1 c2
      have n2:=K8w.out.cell n1.out
      clear hHeld HELD
      go_wp2_with fail
      refine (cFit.out _ _ _ r8.out K8w.out).mono ?_
      rintro e' w9 ⟨rfl,k9⟩
      replace k9:=Lib.hid k9
      go_wp2
      go_ret
      exact ⟨rfl,k9.out⟩
end Go.Proofs.YtclfbplbccehkaaGreatDoor.T16

namespace Go.Proofs.YtclfbplbccehkaaGreatDoor.R14
open Go.RowKit V12
def RSubPost (n:Nat) (Z:Nat→Int) (m:Nat) (Y:Nat→Int) (w:World) (e:Ending) (w':World):Prop :=
  Below w.heap.size w w' ∧
    ((SubOk n Z m Y∧∃ A cap,e = .returned (.tuple #[.slice A n cap,.bool true])∧Rd w' A n (fun k=>Z k - Y k)) ∨
      (¬ SubOk n Z m Y∧e = .returned (.tuple #[.slice none 0 0,.bool false])))
set_option maxHeartbeats 1000000 in
theorem rsub_ne (A B:Option Addr) (n m c d:Nat) (Z Y:Nat→Int) (w:World) (h:n≠m) :
    Calls Tryz.prog 19 #[.slice A n c,.slice B m d] w (RSubPost n Z m Y w):=by
  have hb:((n:Int) != (m:Int)) = true:=by simp;omega
  replace h:Hid (n≠m):=h
  go_enter Tryz.func19,Tryz.ntmps19
  go_wp2
  go_ret2
  exact ⟨Below.refl _ _,Or.inr ⟨fun k=>h.out k.1,rfl⟩⟩
theorem keep_four {a b c d e:World} (h1:Keep a b) (h2:Keep b c) (h3:Keep c d) (h4:Keep d e):Keep a e:=h1.trans (h2.trans (h3.trans h4))
theorem keep_ofDrew {w w':World} (h:Keep w.drew w'):Keep w w':=((Keep.refl w).drew).trans h
theorem minus_k (a b:Int) (w:World) (h1:-1152921504606846976≤hi a) (h2:hi a≤1152921504606846976) (h3:-1152921504606846976≤hi b) (h4:hi b≤1152921504606846976) :
    Calls Tryz.prog 45 #[.agg #[.int .i64 (hi a),.int .i64 (lo a)],.agg #[.int .i64 (hi b),.int .i64 (lo b)]] w fun e w'=>e = .returned (.agg #[.int .i64 (hi (a - b)),.int .i64 (lo (a - b))])∧Keep w w':=minus_fn a b w h1 h2 h3 h4
set_option maxRecDepth 100000 in
set_option maxHeartbeats 4000000 in
theorem rsub_eq (A B:Option Addr) (n c d:Nat) (Z Y:Nat→Int) (w:World) (hA:Rd w A n Z) (hB:Rd w B n Y) (hn:n≤1048576) :
    Calls Tryz.prog 19 #[.slice A n c,.slice B n d] w (RSubPost n Z n Y w):=by
  obtain ⟨i0,hi0,hz0,hz1,hz2⟩:=info_parts Tryz.infoR14
  go_enter Tryz.func19,Tryz.ntmps19
  go_wp2
  go_loopg [6,7] n (fun g ov i wr=>∃ k:Nat,k≤n∧g = n - k∧i = .int .i64 k∧Below w.heap.size w wr∧wr.ownsRow w.heap.size 2 1 ov k (rowL k fun j=>Z j - Y j)∧Aside (∀ j,j < k→subOk (Z j) (Y j) = true))
  case atStart=>exact ⟨0,Nat.zero_le _,rfl,rfl,Below.refl _ _,World.ownsRow_nil _ _ _ _,fun _ h=>absurd h (Nat.not_lt_zero _)⟩
  case round =>
    obtain ⟨k,hk,rfl,rfl,hBk,hown,hin⟩:=hrel
    by_cases hlt:k < n
    · obtain ⟨b,off,rfl,ca⟩:=(hA.below hBk).adr (by omega)
      obtain ⟨b',off',rfl,cb⟩:=(hB.below hBk).adr (by omega)
      have g0:=ca k hlt
      have g1:=cb k hlt
      have r0:=hA.range k hlt
      have r1:=hB.range k hlt
      obtain ⟨p1,p2⟩:=hi_i64 r0
      obtain ⟨p3,p4⟩:=hi_i64 r1
      replace r0:Hid (-9223372036854775808≤Z k∧Z k≤9223372036854775807):=r0
      replace r1:Hid (-9223372036854775808≤Y k∧Y k≤9223372036854775807):=r1
      clear ca cb hA hB
      by_cases hr:-9223372036854775808≤Z k - Y k∧Z k - Y k≤9223372036854775807
      · replace hr:Hid (-9223372036854775808≤Z k - Y k∧Z k - Y k≤9223372036854775807):=hr
        go_wp2_with fail
        go_region_held3 (fun w'=>w'.cell? ⟨b,off + k,none⟩ = some (.int .i64 (Z k))∧w'.cell? ⟨b',off' + k,none⟩ = some (.int .i64 (Y k)))
          (first | go_keep | (go_split_ands;exact ⟨keep_cell (by assumption) (by assumption),keep_cell (by assumption) (by assumption)⟩))
          (first
            | (go_at_call 46;refine (of_k _ _).mono ?_;rintro e w1 ⟨rfl,hb1⟩)
            | (go_at_call 45;refine (minus_k _ _ _ (by omega) (by omega) (by omega) (by omega)).mono ?_;rintro e w1 ⟨rfl,hb1⟩)
            | (go_at_call 44;refine (value_yk _ _ hr.out).mono ?_;rintro e w1 ⟨rfl,hb1⟩))
        have hkp:Keep wr w1:=keep_ofDrew (keep_four (by assumption) (by assumption) (by assumption) (by assumption))
        have hsz:=hBk.size
        have hB1:Below w.heap.size w w1:=below_keep hBk hsz hkp
        have hsz1:=hB1.size
        by_cases hs:0≤Z k - Y k
        · have hown1:=own_keep hown hkp
          clear hown
          go_wp2_with (at_builtin;refine wpList_append_own _ rfl _ _ 24 rfl w.heap.size 2 i0 (.int .i64 0) 1 8 Tryz.underlying24 hi0 hz0 hz1 hz2 rfl (by decide) _ _ _ rfl (hown1.alloc _) ⟨w1.heap.size,0,none⟩ 1 1 [.int .i64 (Z k - Y k)] rfl rfl (cell_one_new _ _ _) (ints_oneCell .i64 [Z k - Y k]) (by unfold maxLen;omega) (by omega) (by simp;omega) ?_;intro v' w2 hown2 hgrow hnil)
          have hB2:Below w.heap.size w w2:=(hB1.alloc hsz1 _).grown hgrow (by simp;omega) (fun q hq=>(hown1.lt q hq).1)
          rw [rowL_succ k fun j=>Z j - Y j] at hown2
          go_roundg (n - (k + 1))
          case measure=>omega
          case rel=>exact ⟨k + 1,hlt,rfl,by go_num,hB2,hown2,fun j hj=>by
            rcases Nat.lt_succ_iff_lt_or_eq.1 hj with h | rfl
            · exact hin.out j h
            · exact decide_eq_true ⟨by omega,hr.out.2⟩⟩
        · go_wp2
          go_ret2
          exact ⟨hB1,Or.inr ⟨(fun h=>by have:=(subOk_range (h.2 k hlt)).1;omega),rfl⟩⟩
      · replace hr:Hid (¬ (-9223372036854775808≤Z k - Y k∧Z k - Y k≤9223372036854775807)):=hr
        go_wp2_with fail
        go_region_held3 (fun w'=>w'.cell? ⟨b,off + k,none⟩ = some (.int .i64 (Z k))∧w'.cell? ⟨b',off' + k,none⟩ = some (.int .i64 (Y k)))
          (first | go_keep | (go_split_ands;exact ⟨keep_cell (by assumption) (by assumption),keep_cell (by assumption) (by assumption)⟩))
          (first
            | (go_at_call 46;refine (of_k _ _).mono ?_;rintro e w1 ⟨rfl,hb1⟩)
            | (go_at_call 45;refine (minus_k _ _ _ (by omega) (by omega) (by omega) (by omega)).mono ?_;rintro e w1 ⟨rfl,hb1⟩)
            | (go_at_call 44;refine (value_nk _ _ hr.out).mono ?_;rintro e w1 ⟨rfl,hb1⟩))
        have hkp:Keep wr w1:=keep_ofDrew (keep_four (by assumption) (by assumption) (by assumption) (by assumption))
        have hB1:Below w.heap.size w w1:=below_keep hBk hBk.size hkp
        go_wp2
        go_ret2
        exact ⟨hB1,Or.inr ⟨(fun h=>by have:=subOk_range (h.2 k hlt);have:=hr.out;omega),rfl⟩⟩
    · obtain rfl:k = n:=by omega
      obtain ⟨A',cap',rfl,hrd⟩:=rd_ofOwn hown (by omega) (fun j hj=>by have:=subOk_range (hin.out j hj);omega)
      go_wp2
      go_ret2
      exact ⟨hBk,Or.inl ⟨⟨rfl,hin.out⟩,_,_,rfl,hrd⟩⟩
theorem rsub_any (A B:Option Addr) (n m c d:Nat) (Z Y:Nat→Int) (w:World) (hA:Rd w A n Z) (hB:Rd w B m Y) (hn:n≤1048576) :
    Calls Tryz.prog 19 #[.slice A n c,.slice B m d] w (RSubPost n Z m Y w):=by
  by_cases h:n = m
  · subst h;exact rsub_eq A B n c d Z Y w hA hB hn
  · exact rsub_ne A B n m c d Z Y w h
end Go.Proofs.YtclfbplbccehkaaGreatDoor.R14

