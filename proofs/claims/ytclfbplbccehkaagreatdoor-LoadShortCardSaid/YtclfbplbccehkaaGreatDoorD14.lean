/-
  The reference's Of of layer 16. Conditions: at most 100 pods, whose requests are of the dimension and in the limits; the dimension is at most 64.
-/
import Derived.Test.YtclfbplbccehkaaGreatDoorD11
import Derived.Test.YtclfbplbccehkaaGreatDoorD13
namespace Go.Proofs.YtclfbplbccehkaaGreatDoor.T16
open Go.RowKit Go.Sort Go.Lib V12 T13 T14 T15
def outL (O:Int→Bool) (L:List PodV):List PodV:=L.filter fun y=>!O y.k
theorem tri2 {w:World} {k:Nat} {a b c u:Value} {T:TypeId} (h:w.heap[k]? = some (.cells #[a,b,c] T (0,0))):(w.setCell ⟨k,2,none⟩ u).heap[k]? = some (.cells #[a,b,u] T (0,0)):=by
  rw [heap_setCell_same w k 2 _ _ u h]
  rfl
set_option maxRecDepth 100000 in
set_option maxHeartbeats 2000000 in
theorem r16of_fn (x:RcV) (d:Nat) (hd:x.d = d) (hd64:d≤64) (p:PodV) (nd:Int) (WA:Option Addr) (wn wc:Nat) (WZ:Nat→Int) (O:Int→Bool) (hO:∀ k,O k = true ↔ ∃ j,j < wn∧WZ j = k) (Q:Nat→C14.NdC) (P:Nat→PodV) (w:World) (hN:C14.RdN w x.A x.n Q) (hR:RdPods w x.B x.m P) (hm:x.m≤100) (hp:∀ j,j < x.m→(P j).m = d∧∀ k,k < d→Amt ((P j).Z k)) (hW:Rd w WA wn WZ) :
    Calls Tryz.prog 13 #[x.val,p.val,.int .i64 nd,.slice WA wn wc] w fun e w'=>∃ G c',e = .returned (.slice G d c')∧Rd w' G d (if C14.findN Q nd x.n < 0 then fun _=>0 else fun j=>usedL (outL O (T13.lst P x.m)) nd j + sumL (seesL p nd (T13.lst P x.m)) j)∧Keep w w':=by
  have mixed:Tryz.prog.follows .mixedOrders = true:=by kernel_rfl
  obtain ⟨xd,A,n,c,B,m,e⟩:=x
  simp only at hd hN hR hm hp ⊢
  obtain ⟨ZR,hZR⟩:∃ ZR:Nat→Int,ZR = if C14.findN Q nd n < 0 then fun _=>0 else fun j=>usedL (outL O (T13.lst P m)) nd j + sumL (seesL p nd (T13.lst P m)) j:=⟨_,rfl⟩
  rw [← hZR]
  replace hZR:=Lib.hid hZR
  have s0:((w.alloc (.cells (RcV.arr ⟨xd,A,n,c,B,m,e⟩) 31)).alloc (.cells (podB p) 26)).heap.size = w.heap.size + 1 + 1:=by rw [World.size_alloc,World.size_alloc]
  obtain ⟨W1,hW1⟩:∃ W1,W1 = (((w.alloc (.cells (RcV.arr ⟨xd,A,n,c,B,m,e⟩) 31)).alloc (.cells (podB p) 26)).alloc (.cells (RcV.arr ⟨xd,A,n,c,none,0,0⟩) 31)):=⟨_,rfl⟩
  have K1:Hid (Keep w W1):=by rw [hW1];exact ((Keep.one _ _).alloc _).alloc _
  have B3:Hid (W1.heap[w.heap.size]? = some (.cells (RcV.arr ⟨xd,A,n,c,B,m,e⟩) 31 (0,0))):=by rw [hW1];exact ((Keep.one _ _).alloc _).block (heap_alloc_new _ _)
  have B4:Hid (W1.heap[w.heap.size + 1]? = some (.cells (podB p) 26 (0,0))):=by
    rw [hW1]
    have h1:=heap_alloc_new (w.alloc (.cells (RcV.arr ⟨xd,A,n,c,B,m,e⟩) 31)) (.cells (podB p) 26)
    rw [World.size_alloc] at h1
    exact (Keep.one _ _).block h1
  have B9:Hid (W1.heap[w.heap.size + 1 + 1]? = some (.cells (RcV.arr ⟨xd,A,n,c,none,0,0⟩) 31 (0,0))):=by
    rw [hW1,← s0]
    exact heap_alloc_new _ _
  obtain ⟨b3,hb3⟩:∃ b,b = w.heap.size:=⟨_,rfl⟩
  obtain ⟨b4,hb4⟩:∃ b,b = w.heap.size + 1:=⟨_,rfl⟩
  obtain ⟨b9,hb9⟩:∃ b,b = w.heap.size + 1 + 1:=⟨_,rfl⟩
  obtain ⟨base,hbase⟩:∃ b,b = b9 + 1:=⟨_,rfl⟩
  have BS:Hid (base = b9 + 1∧w.heap.size≤base):=⟨hbase,by omega⟩
  have NE:Hid (b3≠b9∧b4≠b9∧b3 < base∧b4 < base∧b9 < base):=⟨by omega,by omega,by omega,by omega,by omega⟩
  have GE:Hid (w.heap.size≤b9):=by show _≤_;omega
  rw [← hb3] at B3
  rw [← hb4] at B4
  rw [← hb9] at B9
  replace hR:=Lib.hid hR
  replace hN:=Lib.hid hN
  replace hp:=Lib.hid hp
  replace hO:=Lib.hid hO
  replace hW:=Lib.hid hW
  replace s0:=Lib.hid s0
  replace hd:=Lib.hid hd
  replace hbase:=Lib.hid hbase
  unfold RcV.arr podB at hW1
  unfold RcV.val PodV.val
  simp only at hW1
  go_enter Tryz.func13,Tryz.ntmps13
  go_wp2_with fail
  rw [← hW1,← hb9,← hb4,← hb3]
  replace hW1:=Lib.hid hW1
  replace hb3:=Lib.hid hb3
  replace hb4:=Lib.hid hb4
  replace hb9:=Lib.hid hb9
  go_loopg [10] m (fun gx s10 wr=>∃ (j k:Nat) (D:Option Addr) (dd:Nat) (M:List PodV),j≤m∧gx = m - j∧s10 = .int .i64 j∧k≤j∧Hid (Keep w wr)∧Hid (wr.heap[b3]? = some (.cells (RcV.arr ⟨xd,A,n,c,B,m,e⟩) 31 (0,0)))∧Hid (wr.heap[b4]? = some (.cells (podB p) 26 (0,0)))∧Hid (wr.heap[b9]? = some (.cells (RcV.arr ⟨xd,A,n,c,D,k,dd⟩) 31 (0,0)))∧Hid (wr.ownsRow base 26 9 (.slice D k dd) k (M.flatMap PodV.cells))∧Hid (M = outL O (T13.lst P j))∧Hid (M.length = k))
  case atStart=>exact ⟨0,0,none,0,[],Nat.zero_le _,rfl,rfl,Nat.le_refl _,K1,B3,B4,B9,World.ownsRow_nil _ _ _ _,rfl,rfl⟩
  case round =>
    obtain ⟨j,k,D,dd,M,hj,rfl,rfl,hkj,KR,B3r,B4r,B9r,RW,LT,LN⟩:=hrel
    obtain ⟨c0,c1,c2,_⟩:=rc_cells B3r.out
    simp only at c0 c1 c2
    by_cases hlt:j < m
    · have R2:=hR.out.keep KR.out
      obtain ⟨g,off,hA,ca⟩:=R2.adr (by omega)
      subst hA
      have q1:=pods_at g off m e j hlt
      have Y0:=(hR.out.adr (by omega))
      have Y:=ca j hlt
      have Yw:Hid (Cel9 w g (off + j * 9) (P j)):=by
        obtain ⟨g2,off2,e2,ca2⟩:=Y0
        have e3:=Option.some.inj e2
        simp only [Addr.mk.injEq,and_true] at e3
        show Cel9 _ _ _ _
        rw [e3.1,e3.2]
        exact ca2 j hlt
      clear ca Y0 R2
      have hs:outL O (T13.lst P (j + 1)) = outL O (T13.lst P j) ++ if (!O (P j).k) = true then [P j] else []:=by
        unfold outL
        rw [lst_succ,List.filter_append,List.filter_cons,List.filter_nil]
      obtain ⟨y,hy⟩:∃ y,y = P j:=⟨_,rfl⟩
      obtain ⟨oo,hoo⟩:∃ oo,oo = off + j * 9:=⟨_,rfl⟩
      rw [← hy] at Y hs Yw
      rw [← hoo] at Y q1 Yw
      replace hy:=Lib.hid hy
      replace hoo:=Lib.hid hoo
      have y0:=Y.e0
      clear Y
      obtain ⟨ob,hob⟩:∃ b,b = O y.k:=⟨_,rfl⟩
      rw [← hob] at hs
      replace hs:=Lib.hid hs
      have cH:Hid (∀ Wz,Keep w Wz→Calls Tryz.prog 36 #[.slice WA wn wc,.int .i64 y.k] Wz fun e' w'=>e' = .returned (.bool ob)∧Keep Wz w'):=fun Wz kk=>r16has_fn WA wn wc WZ y.k Wz (hW.out.keep kk) ob (by rw [hob];exact hO.out _)
      replace hob:=Lib.hid hob
      go_wp2_with fail
      refine (cH.out _ KR.out).mono ?_
      rintro e' w4 ⟨rfl,k4⟩
      have K4:Hid (Keep wr w4):=k4
      replace k4:=Lib.hid k4
      have KW4:Hid (Keep w w4):=KR.out.trans K4.out
      have B3w:Hid (w4.heap[b3]? = some (.cells (RcV.arr ⟨xd,A,n,c,some ⟨g,off,none⟩,m,e⟩) 31 (0,0))):=Keep.block K4.out B3r.out
      have B4w:Hid (w4.heap[b4]? = some (.cells (podB p) 26 (0,0))):=Keep.block K4.out B4r.out
      have B9w:Hid (w4.heap[b9]? = some (.cells (RcV.arr ⟨xd,A,n,c,D,k,dd⟩) 31 (0,0))):=Keep.block K4.out B9r.out
      clear c0 c1 c2 y0
      cases ob with
      | false =>
        have hs2:=hs.out
        rw [if_pos (show (!false) = true from rfl)] at hs2
        have L2:Hid (M ++ [y] = outL O (T13.lst P (j + 1))):=by show _ = _;rw [hs2,LT.out]
        have LN2:Hid ((M ++ [y]).length = k + 1):=by show _ = _;rw [List.length_append,LN.out];rfl
        have FM:Hid ((M ++ [y]).flatMap PodV.cells = M.flatMap PodV.cells ++ y.cells):=by show _ = _;rw [List.flatMap_append,List.flatMap_singleton]
        clear hs2
        have HELDG:∀ Wz:World,Wz.heap[b3]? = some (.cells (RcV.arr ⟨xd,A,n,c,some ⟨g,off,none⟩,m,e⟩) 31 (0,0))→Wz.heap[b9]? = some (.cells (RcV.arr ⟨xd,A,n,c,D,k,dd⟩) 31 (0,0))→Keep w Wz→(Wz.cell? ⟨b3,0,none⟩ = some (.int .i64 xd)∧Wz.cell? ⟨b3,1,none⟩ = some (.slice A n c)∧Wz.cell? ⟨b3,2,none⟩ = some (.slice (some ⟨g,off,none⟩) m e)∧Wz.cell? ⟨b9,0,none⟩ = some (.int .i64 xd)∧Wz.cell? ⟨b9,1,none⟩ = some (.slice A n c)∧Wz.cell? ⟨b9,2,none⟩ = some (.slice D k dd)∧Wz.cell? ⟨g,oo,none⟩ = some (.int .i64 y.k)∧Wz.cell? ⟨g,oo + 1,none⟩ = some (.int .i64 y.p)∧Wz.cell? ⟨g,oo + 2,none⟩ = some (.bool y.f)∧Wz.cell? ⟨g,oo + 3,none⟩ = some (.int .i64 y.g)∧Wz.cell? ⟨g,oo + 4,none⟩ = some (.slice y.A y.m y.c)∧Wz.cell? ⟨g,oo + 5,none⟩ = some (.int .i64 y.a)∧Wz.cell? ⟨g,oo + 6,none⟩ = some (.int .i64 y.h)∧Wz.cell? ⟨g,oo + 7,none⟩ = some (.int .i64 y.d)∧Wz.cell? ⟨g,oo + 8,none⟩ = some (.int .i64 y.t)):=fun Wz h3 h9 kk=>⟨(rc_cells h3).1,(rc_cells h3).2.1,(rc_cells h3).2.2.1,(rc_cells h9).1,(rc_cells h9).2.1,(rc_cells h9).2.2.1,(Yw.out.keep kk).e0,(Yw.out.keep kk).e1,(Yw.out.keep kk).e2,(Yw.out.keep kk).e3,(Yw.out.keep kk).e4,(Yw.out.keep kk).e5,(Yw.out.keep kk).e6,(Yw.out.keep kk).e7,(Yw.out.keep kk).e8⟩
        go_upto_region 7 with fail
        have HELD:∀ Wz,Keep w4 Wz→(Wz.cell? ⟨b3,0,none⟩ = some (.int .i64 xd)∧Wz.cell? ⟨b3,1,none⟩ = some (.slice A n c)∧Wz.cell? ⟨b3,2,none⟩ = some (.slice (some ⟨g,off,none⟩) m e)∧Wz.cell? ⟨b9,0,none⟩ = some (.int .i64 xd)∧Wz.cell? ⟨b9,1,none⟩ = some (.slice A n c)∧Wz.cell? ⟨b9,2,none⟩ = some (.slice D k dd)∧Wz.cell? ⟨g,oo,none⟩ = some (.int .i64 y.k)∧Wz.cell? ⟨g,oo + 1,none⟩ = some (.int .i64 y.p)∧Wz.cell? ⟨g,oo + 2,none⟩ = some (.bool y.f)∧Wz.cell? ⟨g,oo + 3,none⟩ = some (.int .i64 y.g)∧Wz.cell? ⟨g,oo + 4,none⟩ = some (.slice y.A y.m y.c)∧Wz.cell? ⟨g,oo + 5,none⟩ = some (.int .i64 y.a)∧Wz.cell? ⟨g,oo + 6,none⟩ = some (.int .i64 y.h)∧Wz.cell? ⟨g,oo + 7,none⟩ = some (.int .i64 y.d)∧Wz.cell? ⟨g,oo + 8,none⟩ = some (.int .i64 y.t)):=fun Wz KK=>HELDG Wz (Keep.block KK B3w.out) (Keep.block KK B9w.out) (KW4.out.trans KK)
        refine OrdS.rest_start (fun w'=>w'.cell? ⟨b3,0,none⟩ = some (.int .i64 xd)∧w'.cell? ⟨b3,1,none⟩ = some (.slice A n c)∧w'.cell? ⟨b3,2,none⟩ = some (.slice (some ⟨g,off,none⟩) m e)∧w'.cell? ⟨b9,0,none⟩ = some (.int .i64 xd)∧w'.cell? ⟨b9,1,none⟩ = some (.slice A n c)∧w'.cell? ⟨b9,2,none⟩ = some (.slice D k dd)∧w'.cell? ⟨g,oo,none⟩ = some (.int .i64 y.k)∧w'.cell? ⟨g,oo + 1,none⟩ = some (.int .i64 y.p)∧w'.cell? ⟨g,oo + 2,none⟩ = some (.bool y.f)∧w'.cell? ⟨g,oo + 3,none⟩ = some (.int .i64 y.g)∧w'.cell? ⟨g,oo + 4,none⟩ = some (.slice y.A y.m y.c)∧w'.cell? ⟨g,oo + 5,none⟩ = some (.int .i64 y.a)∧w'.cell? ⟨g,oo + 6,none⟩ = some (.int .i64 y.h)∧w'.cell? ⟨g,oo + 7,none⟩ = some (.int .i64 y.d)∧w'.cell? ⟨g,oo + 8,none⟩ = some (.int .i64 y.t)) [10] (by kernel_rfl) ?_ (fun hHeld=>?_)
        · exact HELD _ (Keep.refl w4).drew
        obtain ⟨wt0,hwt0⟩:∃ W,W = w4.drew:=⟨_,rfl⟩
        have Kwt0:Hid (Keep w4 wt0):=by rw [hwt0];exact (Keep.refl _).drew
        rw [← hwt0] at hHeld ⊢
        replace hwt0:=Lib.hid hwt0
        refine OrdS.tk (i:=0) (v:=.pointer (some ⟨b9,2,none⟩)) rfl (by kernel_rfl) (fun _ _ _ h=>h) (by rfl) (fun Wz hW=>by obtain ⟨u0,u1,u2,u3,u4,u5,u6,u7,u8,u9,u10,u11,u12,u13,u14⟩:=hW;go_simp) hHeld ?_
        simp only [Act.put,List.getElem_toArray,List.getElem_cons_zero,List.setIfInBounds_toArray,List.set_cons_zero,List.set_cons_succ]
        refine OrdS.tk (i:=1) (v:=.slice D k dd) rfl (by kernel_rfl) (fun _ _ _ h=>h) (by rfl) (fun Wz hW=>by obtain ⟨u0,u1,u2,u3,u4,u5,u6,u7,u8,u9,u10,u11,u12,u13,u14⟩:=hW;go_simp) hHeld ?_
        simp only [Act.put,List.getElem_toArray,List.getElem_cons_succ,List.getElem_cons_zero,List.setIfInBounds_toArray,List.set_cons_zero,List.set_cons_succ]
        refine OrdS.tk (i:=2) (v:=.pointer (some ⟨b3,2,none⟩)) rfl (by kernel_rfl) (fun _ _ _ h=>h) (by rfl) (fun Wz hW=>by obtain ⟨u0,u1,u2,u3,u4,u5,u6,u7,u8,u9,u10,u11,u12,u13,u14⟩:=hW;go_simp) hHeld ?_
        simp only [Act.put,List.getElem_toArray,List.getElem_cons_succ,List.getElem_cons_zero,List.setIfInBounds_toArray,List.set_cons_zero,List.set_cons_succ]
        refine OrdS.tk (i:=3) (v:=.slice (some ⟨g,off,none⟩) m e) rfl (by kernel_rfl) (fun _ _ _ h=>h) (by rfl) (fun Wz hW=>by obtain ⟨u0,u1,u2,u3,u4,u5,u6,u7,u8,u9,u10,u11,u12,u13,u14⟩:=hW;go_simp) hHeld ?_
        simp only [Act.put,List.getElem_toArray,List.getElem_cons_succ,List.getElem_cons_zero,List.setIfInBounds_toArray,List.set_cons_zero,List.set_cons_succ]
        refine OrdS.tk (i:=4) (v:=.int .i64 j) rfl (by kernel_rfl) (fun _ _ _ h=>h) (by rfl) (fun Wz hW=>by obtain ⟨u0,u1,u2,u3,u4,u5,u6,u7,u8,u9,u10,u11,u12,u13,u14⟩:=hW;go_simp) hHeld ?_
        simp only [Act.put,List.getElem_toArray,List.getElem_cons_succ,List.getElem_cons_zero,List.setIfInBounds_toArray,List.set_cons_zero,List.set_cons_succ]
        refine OrdS.tk (i:=5) (v:=.pointer (some ⟨g,oo,none⟩)) rfl (by kernel_rfl) (fun _ _ _ h=>h) (by rfl) (fun Wz hW=>by obtain ⟨u0,u1,u2,u3,u4,u5,u6,u7,u8,u9,u10,u11,u12,u13,u14⟩:=hW;go_simp) hHeld ?_
        simp only [Act.put,List.getElem_toArray,List.getElem_cons_succ,List.getElem_cons_zero,List.setIfInBounds_toArray,List.set_cons_zero,List.set_cons_succ]
        refine OrdS.tk (i:=6) (v:=.agg #[.int .i64 y.k,.int .i64 y.p,.bool y.f,.int .i64 y.g,.slice y.A y.m y.c,.int .i64 y.a,.int .i64 y.h,.int .i64 y.d,.int .i64 y.t]) rfl (by kernel_rfl) (fun _ _ _ h=>h) (by rfl) (fun Wz hW=>by obtain ⟨u0,u1,u2,u3,u4,u5,u6,u7,u8,u9,u10,u11,u12,u13,u14⟩:=hW;go_simp) hHeld ?_
        simp only [Act.put,List.getElem_toArray,List.getElem_cons_succ,List.getElem_cons_zero,List.setIfInBounds_toArray,List.set_cons_zero,List.set_cons_succ]
        refine OrdS.rest_ready (rs:=[7]) (by kernel_rfl) (by simp) ?_
        refine OrdS.Each.cons rfl (fun K hK=>?_) OrdS.Each.nil
        simp only [List.getElem_toArray,List.getElem_cons_succ,List.getElem_cons_zero]
        rw [if_pos (by rfl)]
        go_simp
        obtain ⟨wt1,hwt1⟩:∃ W,W = wt0.alloc (.cells #[.int .i64 y.k,.int .i64 y.p,.bool y.f,.int .i64 y.g,.slice y.A y.m y.c,.int .i64 y.a,.int .i64 y.h,.int .i64 y.d,.int .i64 y.t] 26):=⟨_,rfl⟩
        have Jwt1:Hid (Keep wt0 wt1):=by rw [hwt1];exact Keep.one _ _
        have Kwt1:Hid (Keep w4 wt1):=Kwt0.out.trans Jwt1.out
        have C1:Hid (wt1.heap[wt0.heap.size]? = some (.cells (podB y) 26 (0,0))):=by rw [hwt1];exact heap_alloc_new _ _
        rw [← hwt1]
        replace hwt1:=Lib.hid hwt1
        refine hK.out _ _ (fun _=>HELD _ Kwt1.out) ?_
        have hHeld:=HELD _ Kwt1.out
        clear hK K
        try simp only [Act.put,List.getElem_toArray,List.getElem_cons_succ,List.getElem_cons_zero,List.setIfInBounds_toArray,List.set_cons_zero,List.set_cons_succ]
        refine OrdS.rest_ready (rs:=[8]) (by kernel_rfl) (by simp) ?_
        refine OrdS.Each.cons rfl (fun K hK=>?_) OrdS.Each.nil
        simp only [List.getElem_toArray,List.getElem_cons_succ,List.getElem_cons_zero]
        rw [if_pos (by rfl)]
        have RW4:=Lib.hid (own_keep RW.out (K4.out.trans Kwt1.out))
        unfold podB at C1
        refine wp_ownP (.tmp 32) (.tmp 38) rfl base (.slice D k dd) k (M.flatMap PodV.cells) (by simp [Act.eval]) RW4.out (.slice (some ⟨wt0.heap.size,0,none⟩) 1 1) 1 y.cells (by simp [Act.eval]) (src_one C1.out) (cells_one _) (by omega) (by have h1:=BS.out.1;have h4:=lt_of_block (Keep.block Kwt1.out B9w.out);omega) (k + 1) rfl ?_
        intro v3 w6 hr3 hg3
        have KW6:Hid (Keep w w6):=keep_grown (KW4.out.trans Kwt1.out) hg3 (fun q hq=>Nat.le_trans BS.out.2 (RW4.out.lt q hq).1)
        have OT:Hid (∀ b,b < base→b < wt1.heap.size→w6.heap[b]? = wt1.heap[b]?):=fun b h1 h2=>hg3.block b h2 (fun e2=>absurd (RW4.out.lt b e2.symm).1 (by omega))
        have B36:Hid (w6.heap[b3]? = some (.cells (RcV.arr ⟨xd,A,n,c,some ⟨g,off,none⟩,m,e⟩) 31 (0,0))):=(OT.out b3 NE.out.2.2.1 (lt_of_block (Keep.block Kwt1.out B3w.out))).trans (Keep.block Kwt1.out B3w.out)
        have B46:Hid (w6.heap[b4]? = some (.cells (podB p) 26 (0,0))):=(OT.out b4 NE.out.2.2.2.1 (lt_of_block (Keep.block Kwt1.out B4w.out))).trans (Keep.block Kwt1.out B4w.out)
        have B96:Hid (w6.heap[b9]? = some (.cells (RcV.arr ⟨xd,A,n,c,D,k,dd⟩) 31 (0,0))):=(OT.out b9 NE.out.2.2.2.2 (lt_of_block (Keep.block Kwt1.out B9w.out))).trans (Keep.block Kwt1.out B9w.out)
        obtain ⟨D4,d4,hD4,_⟩:=own_form hr3
        subst hD4
        rw [← FM.out] at hr3
        replace hr3:=Lib.hid hr3
        replace hg3:=Lib.hid hg3
        have H6:=HELDG w6 B36.out B96.out KW6.out
        refine hK.out _ _ (fun _=>H6) ?_
        clear hHeld
        have hHeld:=H6
        clear hK K H6
        try simp only [Act.put,List.setIfInBounds_toArray,List.set_cons_zero,List.set_cons_succ]
        refine OrdS.tk (i:=9) (v:=.pointer (some ⟨b9,2,none⟩)) rfl (by kernel_rfl) (fun _ _ _ h=>h) (by rfl) (fun Wz hW=>by obtain ⟨u0,u1,u2,u3,u4,u5,u6,u7,u8,u9,u10,u11,u12,u13,u14⟩:=hW;go_simp) hHeld ?_
        simp only [Act.put,List.getElem_toArray,List.getElem_cons_succ,List.getElem_cons_zero,List.setIfInBounds_toArray,List.set_cons_zero,List.set_cons_succ]
        refine OrdS.rest_ready (rs:=[10]) (by kernel_rfl) (by simp) ?_
        refine OrdS.Each.cons rfl (fun K hK=>?_) OrdS.Each.nil
        simp only [List.getElem_toArray,List.getElem_cons_succ,List.getElem_cons_zero]
        rw [if_pos (by rfl)]
        have z9:=(rc_cells B96.out).2.2.1
        have zf:=(rc_cells B96.out).2.2.2
        simp only at z9
        go_simp
        refine hK.out _ _ (fun e=>absurd (by simp) e) ?_
        clear hK K
        refine OrdS.rest_done (by kernel_rfl) ?_ _
        have KF:Hid (Keep w (w6.setCell ⟨b9,2,none⟩ (.slice D4 (k + 1) d4))):=KW6.out.set (by show w.heap.size≤b9;exact GE.out) _
        have B3F:Hid ((w6.setCell ⟨b9,2,none⟩ (.slice D4 (k + 1) d4)).heap[b3]? = some (.cells (RcV.arr ⟨xd,A,n,c,some ⟨g,off,none⟩,m,e⟩) 31 (0,0))):=(Below.heap_setCell _ _ _ _ (by show b3≠b9;exact NE.out.1)).trans B36.out
        have B4F:Hid ((w6.setCell ⟨b9,2,none⟩ (.slice D4 (k + 1) d4)).heap[b4]? = some (.cells (podB p) 26 (0,0))):=(Below.heap_setCell _ _ _ _ (by show b4≠b9;exact NE.out.2.1)).trans B46.out
        have B9F:Hid ((w6.setCell ⟨b9,2,none⟩ (.slice D4 (k + 1) d4)).heap[b9]? = some (.cells (RcV.arr ⟨xd,A,n,c,D4,k + 1,d4⟩) 31 (0,0))):=tri2 B96.out
        have RF:Hid ((w6.setCell ⟨b9,2,none⟩ (.slice D4 (k + 1) d4)).ownsRow base 26 9 (.slice D4 (k + 1) d4) (k + 1) ((M ++ [y]).flatMap PodV.cells)):=own_blocks1 hr3.out fun q hq=>Below.heap_setCell _ _ _ _ (by show q≠b9;have h1:=(hr3.out.lt q hq).1;have h2:=NE.out.2.2.2.2;omega)
        clear hHeld HELD HELDG z9 zf
        go_wp2
        go_roundg (m - (j + 1))
        case measure=>omega
        case rel=>exact ⟨j + 1,k + 1,D4,d4,M ++ [y],hlt,rfl,by go_num,by omega,KF,B3F,B4F,B9F,RF,L2,LN2⟩
      | true =>
        have hs2:=hs.out
        rw [if_neg (show ¬ (!true) = true by decide),List.append_nil] at hs2
        have L2:Hid (M = outL O (T13.lst P (j + 1))):=by show _ = _;rw [hs2,LT.out]
        have RW4:=Lib.hid (own_keep RW.out K4.out)
        clear hs2
        go_wp2
        go_roundg (m - (j + 1))
        case measure=>omega
        case rel=>exact ⟨j + 1,k,D,dd,M,hlt,rfl,by go_num,by omega,KW4,B3w,B4w,B9w,RW4,L2,LN⟩
    · obtain rfl:j = m:=by omega
      have ln:=LN.out
      have mem:∀ t,t < M.length→PodIs wr (row M t)∧(row M t).m = d∧∀ k,k < d→Amt ((row M t).Z k):=fun t ht=>by
        have hm:=row_mem ht
        unfold outL at LT
        rw [LT.out,List.mem_filter] at hm
        obtain ⟨i,hi,e1⟩:=lst_mem.1 hm.1
        rw [LT.out,← e1]
        exact ⟨(hR.out.is i hi).keep KR.out,hp.out i hi⟩
      have fin:Hid (RdPods wr D k (row M)):=by
        have h2:=RW.out
        rw [← podCs_row,ln] at h2
        exact own_rd h2 (by omega) fun t ht=>(mem t (by omega)).1
      have MP:Hid (∀ t,t < k→(row M t).m = d∧∀ k,k < d→Amt ((row M t).Z k)):=fun t ht=>(mem t (by omega)).2
      have LM:Hid (T13.lst (row M) k = outL O (T13.lst P j)):=by show _ = _;rw [← ln,lst_row,LT.out]
      clear mem
      have cF:Hid (Calls Tryz.prog 16 #[RcV.val ⟨xd,A,n,c,B,j,e⟩,.int .i64 nd] wr fun e' w'=>e' = .returned (.int .i64 (C14.findN Q nd n))∧w' = wr.alloc (.cells (RcV.arr ⟨xd,A,n,c,B,j,e⟩) 31)):=rfindN_fn ⟨xd,A,n,c,B,j,e⟩ Q nd wr (hN.out.keep KR.out)
      unfold RcV.val at cF
      simp only at cF
      go_wp2_with fail
      refine cF.out.mono ?_
      rintro e' w4 ⟨rfl,hw4⟩
      have K4:Hid (Keep wr w4):=by rw [hw4];exact Keep.one _ _
      replace hw4:=Lib.hid hw4
      have KW4:Hid (Keep w w4):=KR.out.trans K4.out
      have B3w:Hid (w4.heap[b3]? = some (.cells (RcV.arr ⟨xd,A,n,c,B,j,e⟩) 31 (0,0))):=Keep.block K4.out B3r.out
      have B4w:Hid (w4.heap[b4]? = some (.cells (podB p) 26 (0,0))):=Keep.block K4.out B4r.out
      have B9w:Hid (w4.heap[b9]? = some (.cells (RcV.arr ⟨xd,A,n,c,D,k,dd⟩) 31 (0,0))):=Keep.block K4.out B9r.out
      clear c0 c1 c2 cF
      obtain ⟨r,hr⟩:∃ r,r = C14.findN Q nd n:=⟨_,rfl⟩
      have hZ2:=hZR.out
      rw [← hr] at hZ2
      rw [← hr]
      replace hr:=Lib.hid hr
      by_cases hneg:r < 0
      · obtain ⟨e0,e1,e2,_⟩:=rc_cells B3w.out
        simp only at e0 e1 e2
        have hdd:=hd.out
        subst hdd
        have hmk:=run_make_row' (P:=Tryz.prog) 24 2 (.int .i64 0) 8 Tryz.underlying24 Tryz.infoU14 rfl .i64 .i64 d (by omega) (by omega)
        have hm1:max (d:Int) 0 = d:=by omega
        have hb1:decide (0≤(d:Int)) = true:=decide_eq_true (by omega)
        have hb2:decide ((d:Int) < 0) = false:=decide_eq_false (by omega)
        have R1:Hid (Rd (w4.alloc (.cells (madeCells #[.int .i64 0] d) 2)) (some ⟨w4.heap.size,0,none⟩) d (fun _=>0)):=IntRow.rd (World.rowIs_made w4 (.int .i64 0) d 2) (by omega) (fun _ _=>⟨by omega,by omega⟩)
        have KZ:Hid (Keep w (w4.alloc (.cells (madeCells #[.int .i64 0] d) 2))):=KW4.out.alloc _
        go_wp2
        try simp only [hm1]
        go_ret
        exact ⟨_,_,rfl,by rw [hZ2,if_pos hneg];exact R1.out,KZ.out⟩
      · have CUS:Hid (∀ Wz,Keep w4 Wz→Calls Tryz.prog 37 #[.agg #[.int .i64 xd,.slice A n c,.slice D k dd],.int .i64 nd] Wz fun e' w'=>∃ g,e' = .returned (.slice (some ⟨g,0,none⟩) d d)∧Wz.heap.size≤g∧IntRow w' g d (usedL (outL O (T13.lst P j)) nd)∧Keep Wz w'):=fun Wz kk=>by
          rw [← LM.out]
          exact rused_fn ⟨xd,A,n,c,D,k,dd⟩ d hd.out hd64 (row M) nd Wz (fin.out.keep (K4.out.trans kk)) (Nat.le_trans hkj hm) MP.out
        have CSM:Hid (∀ Wz,Keep w4 Wz→Calls Tryz.prog 38 #[.agg #[.int .i64 xd,.slice A n c,.slice B j e],.agg #[.int .i64 p.k,.int .i64 p.p,.bool p.f,.int .i64 p.g,.slice p.A p.m p.c,.int .i64 p.a,.int .i64 p.h,.int .i64 p.d,.int .i64 p.t],.int .i64 nd] Wz fun e' w'=>∃ g,e' = .returned (.slice (some ⟨g,0,none⟩) d d)∧Wz.heap.size≤g∧IntRow w' g d (sumL (seesL p nd (T13.lst P j)))∧Keep Wz w'):=fun Wz kk=>r15sum_fn ⟨xd,A,n,c,B,j,e⟩ d hd.out hd64 p nd P Wz (hR.out.keep (KW4.out.trans kk)) hm hp.out
        have am:∀ L:List PodV,(∀ y ∈ L,y ∈ T13.lst P j)→∀ k,k < d→∀ y ∈ L,Amt (y.Z k):=fun L hL k hk y hy=>by
          obtain ⟨i,hi,e1⟩:=lst_mem.1 (hL y hy)
          rw [← e1]
          exact (hp.out i hi).2 k hk
        have ub:∀ k,k < d→0≤usedL (outL O (T13.lst P j)) nd k∧usedL (outL O (T13.lst P j)) nd k≤109951162777600:=fun k hk=>by
          have h1:=am (outL O (T13.lst P j)) (fun y hy=>(List.mem_filter.1 hy).1) k hk
          refine ⟨usedL_lo h1,?_⟩
          have h2:=usedL_hi (id:=nd) h1
          have h3:(outL O (T13.lst P j)).length≤j:=Nat.le_trans (List.length_filter_le _ _) (by rw [lst_len];exact Nat.le_refl _)
          omega
        have sb:∀ k,k < d→0≤sumL (seesL p nd (T13.lst P j)) k∧sumL (seesL p nd (T13.lst P j)) k≤109951162777600:=fun k hk=>sumL_bd (n:=j) (Nat.le_trans (List.length_filter_le _ _) (by rw [lst_len];exact Nat.le_refl _)) hm (am _ (fun y hy=>(List.mem_filter.1 hy).1) k hk)
        have UB:Hid (∀ k,k < d→-9223372036854775808≤usedL (outL O (T13.lst P j)) nd k∧usedL (outL O (T13.lst P j)) nd k≤9223372036854775807):=fun k hk=>by have:=ub k hk;omega
        have SB:Hid (∀ k,k < d→-9223372036854775808≤sumL (seesL p nd (T13.lst P j)) k∧sumL (seesL p nd (T13.lst P j)) k≤9223372036854775807):=fun k hk=>by have:=sb k hk;omega
        have SUM:Hid (∀ k,k < d→-9223372036854775808≤usedL (outL O (T13.lst P j)) nd k + sumL (seesL p nd (T13.lst P j)) k∧usedL (outL O (T13.lst P j)) nd k + sumL (seesL p nd (T13.lst P j)) k≤9223372036854775807):=fun k hk=>by have h1:=ub k hk;have h2:=sb k hk;omega
        clear am ub sb
        rw [if_neg hneg] at hZ2
        replace hZ2:=Lib.hid hZ2
        go_upto_region 10 with fail
        have HELD:∀ Wz,Keep w4 Wz→(Wz.cell? ⟨b3,0,none⟩ = some (.int .i64 xd)∧Wz.cell? ⟨b3,1,none⟩ = some (.slice A n c)∧Wz.cell? ⟨b3,2,none⟩ = some (.slice B j e)∧Wz.cell? ⟨b9,0,none⟩ = some (.int .i64 xd)∧Wz.cell? ⟨b9,1,none⟩ = some (.slice A n c)∧Wz.cell? ⟨b9,2,none⟩ = some (.slice D k dd)∧Wz.cell? ⟨b4,0,none⟩ = some (.int .i64 p.k)∧Wz.cell? ⟨b4,1,none⟩ = some (.int .i64 p.p)∧Wz.cell? ⟨b4,2,none⟩ = some (.bool p.f)∧Wz.cell? ⟨b4,3,none⟩ = some (.int .i64 p.g)∧Wz.cell? ⟨b4,4,none⟩ = some (.slice p.A p.m p.c)∧Wz.cell? ⟨b4,5,none⟩ = some (.int .i64 p.a)∧Wz.cell? ⟨b4,6,none⟩ = some (.int .i64 p.h)∧Wz.cell? ⟨b4,7,none⟩ = some (.int .i64 p.d)∧Wz.cell? ⟨b4,8,none⟩ = some (.int .i64 p.t)):=fun Wz KK=>⟨(rc_cells (Keep.block KK B3w.out)).1,(rc_cells (Keep.block KK B3w.out)).2.1,(rc_cells (Keep.block KK B3w.out)).2.2.1,(rc_cells (Keep.block KK B9w.out)).1,(rc_cells (Keep.block KK B9w.out)).2.1,(rc_cells (Keep.block KK B9w.out)).2.2.1,(blk9 (Keep.block KK B4w.out)).e0,(blk9 (Keep.block KK B4w.out)).e1,(blk9 (Keep.block KK B4w.out)).e2,(blk9 (Keep.block KK B4w.out)).e3,(blk9 (Keep.block KK B4w.out)).e4,(blk9 (Keep.block KK B4w.out)).e5,(blk9 (Keep.block KK B4w.out)).e6,(blk9 (Keep.block KK B4w.out)).e7,(blk9 (Keep.block KK B4w.out)).e8⟩
        refine OrdS.rest_start (fun w'=>w'.cell? ⟨b3,0,none⟩ = some (.int .i64 xd)∧w'.cell? ⟨b3,1,none⟩ = some (.slice A n c)∧w'.cell? ⟨b3,2,none⟩ = some (.slice B j e)∧w'.cell? ⟨b9,0,none⟩ = some (.int .i64 xd)∧w'.cell? ⟨b9,1,none⟩ = some (.slice A n c)∧w'.cell? ⟨b9,2,none⟩ = some (.slice D k dd)∧w'.cell? ⟨b4,0,none⟩ = some (.int .i64 p.k)∧w'.cell? ⟨b4,1,none⟩ = some (.int .i64 p.p)∧w'.cell? ⟨b4,2,none⟩ = some (.bool p.f)∧w'.cell? ⟨b4,3,none⟩ = some (.int .i64 p.g)∧w'.cell? ⟨b4,4,none⟩ = some (.slice p.A p.m p.c)∧w'.cell? ⟨b4,5,none⟩ = some (.int .i64 p.a)∧w'.cell? ⟨b4,6,none⟩ = some (.int .i64 p.h)∧w'.cell? ⟨b4,7,none⟩ = some (.int .i64 p.d)∧w'.cell? ⟨b4,8,none⟩ = some (.int .i64 p.t)) [] (by kernel_rfl) ?_ (fun hHeld=>?_)
        · exact HELD _ (Keep.refl w4).drew
        obtain ⟨wt0,hwt0⟩:∃ W,W = w4.drew:=⟨_,rfl⟩
        have Kwt0:Hid (Keep w4 wt0):=by rw [hwt0];exact (Keep.refl _).drew
        rw [← hwt0] at hHeld ⊢
        replace hwt0:=Lib.hid hwt0
        refine OrdS.tk (i:=0) (v:=.agg #[.int .i64 xd,.slice A n c,.slice D k dd]) rfl (by kernel_rfl) (fun _ _ _ h=>h) (by rfl) (fun Wz hW=>by obtain ⟨u0,u1,u2,u3,u4,u5,u6,u7,u8,u9,u10,u11,u12,u13,u14⟩:=hW;go_simp) hHeld ?_
        simp only [Act.put,List.getElem_toArray,List.getElem_cons_zero,List.setIfInBounds_toArray,List.set_cons_zero,List.set_cons_succ]
        refine OrdS.tk (i:=1) (v:=.int .i64 nd) rfl (by kernel_rfl) (fun _ _ _ h=>h) (by rfl) (fun Wz hW=>by obtain ⟨u0,u1,u2,u3,u4,u5,u6,u7,u8,u9,u10,u11,u12,u13,u14⟩:=hW;go_simp) hHeld ?_
        simp only [Act.put,List.getElem_toArray,List.getElem_cons_succ,List.getElem_cons_zero,List.setIfInBounds_toArray,List.set_cons_zero,List.set_cons_succ]
        refine OrdS.tk (i:=3) (v:=.agg #[.int .i64 xd,.slice A n c,.slice B j e]) rfl (by kernel_rfl) (fun _ _ _ h=>h) (by rfl) (fun Wz hW=>by obtain ⟨u0,u1,u2,u3,u4,u5,u6,u7,u8,u9,u10,u11,u12,u13,u14⟩:=hW;go_simp) hHeld ?_
        simp only [Act.put,List.getElem_toArray,List.getElem_cons_succ,List.getElem_cons_zero,List.setIfInBounds_toArray,List.set_cons_zero,List.set_cons_succ]
        refine OrdS.tk (i:=4) (v:=.agg #[.int .i64 p.k,.int .i64 p.p,.bool p.f,.int .i64 p.g,.slice p.A p.m p.c,.int .i64 p.a,.int .i64 p.h,.int .i64 p.d,.int .i64 p.t]) rfl (by kernel_rfl) (fun _ _ _ h=>h) (by rfl) (fun Wz hW=>by obtain ⟨u0,u1,u2,u3,u4,u5,u6,u7,u8,u9,u10,u11,u12,u13,u14⟩:=hW;go_simp) hHeld ?_
        simp only [Act.put,List.getElem_toArray,List.getElem_cons_succ,List.getElem_cons_zero,List.setIfInBounds_toArray,List.set_cons_zero,List.set_cons_succ]
        refine OrdS.tk (i:=5) (v:=.int .i64 nd) rfl (by kernel_rfl) (fun _ _ _ h=>h) (by rfl) (fun Wz hW=>by obtain ⟨u0,u1,u2,u3,u4,u5,u6,u7,u8,u9,u10,u11,u12,u13,u14⟩:=hW;go_simp) hHeld ?_
        simp only [Act.put,List.getElem_toArray,List.getElem_cons_succ,List.getElem_cons_zero,List.setIfInBounds_toArray,List.set_cons_zero,List.set_cons_succ]
        refine OrdS.rest_ready (rs:=[2]) (by kernel_rfl) (by simp) ?_
        refine OrdS.Each.cons rfl (fun K hK=>?_) OrdS.Each.nil
        simp only [List.getElem_toArray,List.getElem_cons_succ,List.getElem_cons_zero]
        rw [if_pos (by rfl)]
        go_simp
        refine (CUS.out _ Kwt0.out).mono ?_
        rintro e' w5 ⟨gU,rfl,_,ir,k5⟩
        have UR0:=Lib.hid (ir.rd (by omega) UB.out)
        have K5:Hid (Keep w4 w5):=Kwt0.out.trans k5
        go_wp2_with fail
        refine hK.out _ _ (fun _=>HELD _ K5.out) ?_
        have hHeld:=HELD _ K5.out
        clear hK K
        try simp only [Act.put,List.getElem_toArray,List.getElem_cons_succ,List.getElem_cons_zero,List.setIfInBounds_toArray,List.set_cons_zero,List.set_cons_succ]
        refine OrdS.rest_ready (rs:=[6]) (by kernel_rfl) (by simp) ?_
        refine OrdS.Each.cons rfl (fun K hK=>?_) OrdS.Each.nil
        simp only [List.getElem_toArray,List.getElem_cons_succ,List.getElem_cons_zero]
        rw [if_pos (by rfl)]
        go_simp
        refine (CSM.out _ K5.out).mono ?_
        rintro e' w6 ⟨gS,rfl,_,is,k6⟩
        have SR:=Lib.hid (is.rd (by omega) SB.out)
        have K6:Hid (Keep w4 w6):=K5.out.trans k6
        have UR:=Lib.hid (UR0.out.keep k6)
        go_wp2_with fail
        refine hK.out _ _ (fun _=>HELD _ K6.out) ?_
        have hHeld:=HELD _ K6.out
        clear hK K
        try simp only [Act.put,List.getElem_toArray,List.getElem_cons_succ,List.getElem_cons_zero,List.setIfInBounds_toArray,List.set_cons_zero,List.set_cons_succ]
        refine OrdS.rest_ready (rs:=[7]) (by kernel_rfl) (by simp) ?_
        refine OrdS.Each.cons rfl (fun K hK=>?_) OrdS.Each.nil
        simp only [List.getElem_toArray,List.getElem_cons_succ,List.getElem_cons_zero]
        rw [if_pos (by rfl)]
        go_simp
        obtain ⟨wa,hwa⟩:∃ W,W = w6.alloc (.cells #[.slice (some ⟨gU,0,none⟩) d d,.slice (some ⟨gS,0,none⟩) d d] 24):=⟨_,rfl⟩
        have Ja:Hid (Keep w6 wa):=by rw [hwa];exact Keep.one _ _
        have Ka:Hid (Keep w4 wa):=K6.out.trans Ja.out
        have Ca:Hid (wa.heap[w6.heap.size]? = some (.cells #[.slice (some ⟨gU,0,none⟩) d d,.slice (some ⟨gS,0,none⟩) d d] 24 (0,0))):=by rw [hwa];exact heap_alloc_new _ _
        rw [← hwa]
        replace hwa:=Lib.hid hwa
        refine hK.out _ _ (fun _=>HELD _ Ka.out) ?_
        have hHeld:=HELD _ Ka.out
        clear hK K
        try simp only [Act.put,List.getElem_toArray,List.getElem_cons_succ,List.getElem_cons_zero,List.setIfInBounds_toArray,List.set_cons_zero,List.set_cons_succ]
        refine OrdS.rest_ready (rs:=[8]) (by kernel_rfl) (by simp) ?_
        refine OrdS.Each.cons rfl (fun K hK=>?_) OrdS.Each.nil
        simp only [List.getElem_toArray,List.getElem_cons_succ,List.getElem_cons_zero]
        rw [if_pos (by rfl)]
        go_simp
        refine (radd2_fn wa w6.heap.size d d d _ _ _ _ Ca.out (UR.out.keep Ja.out) (SR.out.keep Ja.out) (by omega) SUM.out).mono ?_
        rintro e' w8 ⟨G,c8,rfl,r8,k8⟩
        have K8:Hid (Keep w4 w8):=Ka.out.trans k8
        have K8w:Hid (Keep w w8):=KW4.out.trans K8.out
        replace k8:=Lib.hid k8
        replace r8:=Lib.hid r8
        go_wp2_with fail
        refine hK.out _ _ (fun _=>HELD _ K8.out) ?_
        have hHeld:=HELD _ K8.out
        clear hK K
        try simp only [Act.put,List.getElem_toArray,List.getElem_cons_succ,List.getElem_cons_zero,List.setIfInBounds_toArray,List.set_cons_zero,List.set_cons_succ]
        refine OrdS.tk (i:=9) (v:=.tuple #[.slice G d c8,.bool true]) rfl (by kernel_rfl) (fun _ _ _ h=>h) (by rfl) (fun Wz hW=>by obtain ⟨u0,u1,u2,u3,u4,u5,u6,u7,u8,u9,u10,u11,u12,u13,u14⟩:=hW;go_simp) hHeld ?_
        simp only [Act.put,List.getElem_toArray,List.getElem_cons_succ,List.getElem_cons_zero,List.setIfInBounds_toArray,List.set_cons_zero,List.set_cons_succ]
        refine OrdS.tk (i:=10) (v:=.slice G d c8) rfl (by kernel_rfl) (fun _ _ _ h=>h) (by rfl) (fun Wz hW=>by obtain ⟨u0,u1,u2,u3,u4,u5,u6,u7,u8,u9,u10,u11,u12,u13,u14⟩:=hW;go_simp) hHeld ?_
        simp only [Act.put,List.getElem_toArray,List.getElem_cons_succ,List.getElem_cons_zero,List.setIfInBounds_toArray,List.set_cons_zero,List.set_cons_succ]
        refine OrdS.tk (i:=11) (v:=.bool true) rfl (by kernel_rfl) (fun _ _ _ h=>h) (by rfl) (fun Wz hW=>by obtain ⟨u0,u1,u2,u3,u4,u5,u6,u7,u8,u9,u10,u11,u12,u13,u14⟩:=hW;go_simp) hHeld ?_
        simp only [Act.put,List.getElem_toArray,List.getElem_cons_succ,List.getElem_cons_zero,List.setIfInBounds_toArray,List.set_cons_zero,List.set_cons_succ]
        refine OrdS.tk (i:=12) (v:=.slice G d c8) rfl (by kernel_rfl) (fun _ _ _ h=>h) (by rfl) (fun Wz hW=>by obtain ⟨u0,u1,u2,u3,u4,u5,u6,u7,u8,u9,u10,u11,u12,u13,u14⟩:=hW;go_simp) hHeld ?_
        simp only [Act.put,List.getElem_toArray,List.getElem_cons_succ,List.getElem_cons_zero,List.setIfInBounds_toArray,List.set_cons_zero,List.set_cons_succ]
        refine OrdS.tk (i:=13) (v:=.bool true) rfl (by kernel_rfl) (fun _ _ _ h=>h) (by rfl) (fun Wz hW=>by obtain ⟨u0,u1,u2,u3,u4,u5,u6,u7,u8,u9,u10,u11,u12,u13,u14⟩:=hW;go_simp) hHeld ?_
        simp only [Act.put,List.getElem_toArray,List.getElem_cons_succ,List.getElem_cons_zero,List.setIfInBounds_toArray,List.set_cons_zero,List.set_cons_succ]
        refine OrdS.rest_done (by kernel_rfl) ?_ _
        clear hHeld
        go_wp2
        go_ret
        exact ⟨G,c8,rfl,by rw [hZ2.out];exact r8.out,K8w.out⟩
end Go.Proofs.YtclfbplbccehkaaGreatDoor.T16

