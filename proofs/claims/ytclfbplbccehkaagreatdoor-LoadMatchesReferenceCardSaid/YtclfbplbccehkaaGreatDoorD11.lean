/-
  The reference's Used: what the pods of a node hold. Conditions: at most 100 pods, whose requests are of the dimension and in the limits; the dimension is at most 64.
  The reference's Sum of layer 15. Conditions: at most 100 pods, whose requests are of the dimension and in the limits; the dimension is at most 64.
-/
import Derived.Test.YtclfbplbccehkaaGreatDoorD10
namespace Go.Proofs.YtclfbplbccehkaaGreatDoor.T14
open Go.RowKit Go.Sort Go.Lib V12 T13
theorem Tryz.infoU14:(Tryz.prog.info? 2).map (fun i=>(i.zero,i.size,i.bytes)) = some (some (.int .i64 0),1,8):=by kernel_rfl
def IntRow (w:World) (g d:Nat) (Z:Nat→Int):Prop:=w.rowIs g 2 d fun k=>.int .i64 (Z k)
theorem IntRow.rd {w:World} {g d:Nat} {Z:Nat→Int} (h:IntRow w g d Z) (hd:d≤9223372036854775807) (hz:∀ k,k < d→-9223372036854775808≤Z k∧Z k≤9223372036854775807):Rd w (some ⟨g,0,none⟩) d Z:=rd_ofRow h hd hz
theorem IntRow.set {w:World} {g d i:Nat} {Z:Nat→Int} (h:IntRow w g d Z) (u:Int):IntRow (w.setCell ⟨g,i,none⟩ (.int .i64 u)) g d (fun k=>if k = i then u else Z k):=by
  refine (World.rowIs.set h i _).congr fun k hk=>?_
  show (if k = i then Value.int .i64 u else .int .i64 (Z k)) = .int .i64 (if k = i then u else Z k)
  split <;> rfl
theorem usedL_snoc (P:Nat→PodV) (n:Nat) (id:Int) (j:Nat):usedL (lst P (n + 1)) id j = usedL (lst P n) id j + heldZ id j (P n):=by
  rw [lst_succ,usedL_append]
  show _ + (heldZ id j (P n) + 0) = _
  omega
theorem heldZ_not {id:Int} {j:Nat} {y:PodV} (h:¬ (y.d = id∧(y.h = 3∨y.h = 4))):heldZ id j y = 0:=by
  unfold heldZ holds
  rw [if_neg]
  simpa using h
theorem heldZ_yes {id:Int} {j:Nat} {y:PodV} (h:y.d = id∧(y.h = 3∨y.h = 4)):heldZ id j y = y.Z j:=by
  unfold heldZ holds
  rw [if_pos (decide_eq_true h)]
theorem at64 (g n cp j:Nat) (hj:j < n) (W:World):(Instr.indexAt 24 (.slice (some ⟨g,0,none⟩) n cp) (.int .i64 j)).run Tryz.prog W = .ok (.pointer (some ⟨g,j,none⟩)) W:=by
  go_simp
theorem at64o (g o n cp j:Nat) (hj:j < n) (W:World):(Instr.indexAt 24 (.slice (some ⟨g,o,none⟩) n cp) (.int .i64 j)).run Tryz.prog W = .ok (.pointer (some ⟨g,o + j,none⟩)) W:=by
  go_simp
set_option maxRecDepth 100000 in
set_option maxHeartbeats 8000000 in
theorem rused_fn (x:RcV) (d:Nat) (hd:x.d = d) (hd64:d≤64) (P:Nat→PodV) (id:Int) (w:World) (hR:RdPods w x.B x.m P) (hm:x.m≤100) (hp:∀ j,j < x.m→(P j).m = d∧∀ k,k < d→Amt ((P j).Z k)) :
    Calls Tryz.prog 37 #[x.val,.int .i64 id] w fun e w'=>∃ g,e = .returned (.slice (some ⟨g,0,none⟩) d d)∧w.heap.size≤g∧IntRow w' g d (usedL (lst P x.m) id)∧Keep w w':=by
  have mixed:Tryz.prog.follows .mixedOrders = true:=by kernel_rfl
  obtain ⟨xd,A,n,c,B,m,e⟩:=x
  simp only at hd hR hm hp ⊢
  subst hd
  have hmk:=run_make_row' (P:=Tryz.prog) 24 2 (.int .i64 0) 8 Tryz.underlying24 Tryz.infoU14 rfl .i64 .i64 d (by omega) (by omega)
  have R0:Hid (IntRow ((w.alloc (.cells #[.int .i64 d,.slice A n c,.slice B m e] 31)).alloc (.cells (madeCells #[.int .i64 0] d) 2)) (w.heap.size + 1) d (usedL (lst P 0) id)):=by
    have:=World.rowIs_made (w.alloc (.cells #[.int .i64 d,.slice A n c,.slice B m e] 31)) (.int .i64 0) d 2
    rw [World.size_alloc] at this
    exact this
  have X0:Hid (((w.alloc (.cells #[.int .i64 d,.slice A n c,.slice B m e] 31)).alloc (.cells (madeCells #[.int .i64 0] d) 2)).heap[w.heap.size]? = some (.cells (RcV.arr ⟨d,A,n,c,B,m,e⟩) 31 (0,0))):=(Keep.one _ _).block (heap_alloc_new _ _)
  have K0:Hid (Keep w ((w.alloc (.cells #[.int .i64 d,.slice A n c,.slice B m e] 31)).alloc (.cells (madeCells #[.int .i64 0] d) 2))):=(Keep.one _ _).alloc _
  have hm1:max (d:Int) 0 = d:=by omega
  have hb1:decide (0≤(d:Int)) = true:=decide_eq_true (by omega)
  have hb2:decide ((d:Int) < 0) = false:=decide_eq_false (by omega)
  have hm63:m≤9223372036854775807:=by omega
  replace hR:=Lib.hid hR
  replace hp:=Lib.hid hp
  unfold RcV.val
  go_enter Tryz.func37,Tryz.ntmps37
  go_wp2
  try simp only [hm1]
  go_loopg [6] m (fun gx s6 wr=>∃ j:Nat,j≤m∧gx = m - j∧s6 = .int .i64 j∧Hid (Keep w wr)∧Hid (wr.heap[w.heap.size]? = some (.cells (RcV.arr ⟨d,A,n,c,B,m,e⟩) 31 (0,0)))∧Hid (IntRow wr (w.heap.size + 1) d (usedL (lst P j) id)))
  case atStart=>exact ⟨0,Nat.zero_le _,rfl,rfl,K0,X0,R0⟩
  case round =>
    obtain ⟨j,hj,rfl,rfl,KR,BR,RR⟩:=hrel
    by_cases hlt:j < m
    · have hU:=hp.out j hlt
      obtain ⟨gp,off,hA,ca⟩:=(hR.out.keep KR.out).adr (by omega)
      subst hA
      have q1:=pods_at gp off m e j hlt
      have Y:=ca j hlt
      have yi:=hR.out.is j hlt
      clear ca
      obtain ⟨y,hy⟩:∃ y,y = P j:=⟨_,rfl⟩
      have us:Hid (∀ k,usedL (lst P (j + 1)) id k = usedL (lst P j) id k + heldZ id k y):=fun k=>by rw [hy];exact usedL_snoc P j id k
      rw [← hy] at Y hU yi
      obtain ⟨y0,y1,y2,y3,y4,y5,y6,y7,y8⟩:=Y
      rw [hU.1] at y4
      obtain ⟨c0,c1,c2,cf⟩:=rc_cells BR.out
      have sz:=KR.out.size
      have lb:w.heap.size + 1 < wr.heap.size:=RR.out.lt
      have KA:Hid (Keep w (wr.alloc (.cells #[.int .i64 y.k,.int .i64 y.p,.bool y.f,.int .i64 y.g,.slice y.A d y.c,.int .i64 y.a,.int .i64 y.h,.int .i64 y.d,.int .i64 y.t] 26))):=KR.out.alloc _
      have BA:Hid ((wr.alloc (.cells #[.int .i64 y.k,.int .i64 y.p,.bool y.f,.int .i64 y.g,.slice y.A d y.c,.int .i64 y.a,.int .i64 y.h,.int .i64 y.d,.int .i64 y.t] 26)).heap[w.heap.size]? = some (.cells (RcV.arr ⟨d,A,n,c,some ⟨gp,off,none⟩,m,e⟩) 31 (0,0))):=(Keep.one _ _).block BR.out
      have RA:Hid (IntRow (wr.alloc (.cells #[.int .i64 y.k,.int .i64 y.p,.bool y.f,.int .i64 y.g,.slice y.A d y.c,.int .i64 y.a,.int .i64 y.h,.int .i64 y.d,.int .i64 y.t] 26)) (w.heap.size + 1) d (usedL (lst P j) id)):=World.rowIs.alloc RR.out _
      have SA:Hid ((wr.alloc (.cells #[.int .i64 y.k,.int .i64 y.p,.bool y.f,.int .i64 y.g,.slice y.A d y.c,.int .i64 y.a,.int .i64 y.h,.int .i64 y.d,.int .i64 y.t] 26)).heap[wr.heap.size]? = some (.cells #[.int .i64 y.k,.int .i64 y.p,.bool y.f,.int .i64 y.g,.slice y.A d y.c,.int .i64 y.a,.int .i64 y.h,.int .i64 y.d,.int .i64 y.t] 26 (0,0))):=heap_alloc_new _ _
      have bd:Hid (∀ k,k < d→0≤usedL (lst P j) id k∧usedL (lst P j) id k≤109951162777600):=fun k hk=>by
        have hall:∀ z ∈ lst P j,Amt (z.Z k):=fun z hz=>by
          obtain ⟨i,hi,rfl⟩:=lst_mem.1 hz
          exact (hp.out i (by omega)).2 k hk
        refine ⟨usedL_lo hall,?_⟩
        have:=usedL_hi (id:=id) hall
        rw [lst_len] at this
        omega
      replace hy:=Lib.hid hy
      replace hU:=Lib.hid hU
      replace yi:=Lib.hid yi
      replace sz:=Lib.hid sz
      by_cases hh:y.d = id∧(y.h = 3∨y.h = 4)
      · have zs:Hid (∀ k,usedL (lst P (j + 1)) id k = usedL (lst P j) id k + y.Z k):=fun k=>by rw [us.out,heldZ_yes hh]
        have hc:y.d = id∧y.h = 3∨y.d = id∧y.h = 4:=by
          rcases hh with ⟨h1,h2 | h2⟩
          · exact Or.inl ⟨h1,h2⟩
          · exact Or.inr ⟨h1,h2⟩
        replace hh:=Lib.hid hh
        rcases hc with ⟨h1,h2⟩ | ⟨h1,h2⟩
        all_goals
          rw [h1] at y7 KA BA RA SA
          rw [h2] at y6 KA BA RA SA
          replace h1:=Lib.hid h1
          replace h2:=Lib.hid h2
          go_wp2
          obtain ⟨sp,hsp⟩:∃ sp,sp = wr.heap.size:=⟨_,rfl⟩
          rw [← hsp] at SA ⊢
          replace hsp:=Lib.hid hsp
          go_loopg [8] d (fun gx s8 wq=>∃ k:Nat,k≤d∧gx = d - k∧s8 = .int .i64 k∧Hid (Keep w wq)∧Hid (wq.heap[w.heap.size]? = some (.cells (RcV.arr ⟨d,A,n,c,some ⟨gp,off,none⟩,m,e⟩) 31 (0,0)))∧Hid (∃ a b',wq.heap[sp]? = some (.cells #[.int .i64 y.k,.int .i64 y.p,.bool y.f,.int .i64 y.g,.slice y.A d y.c,.int .i64 y.a,a,b',.int .i64 y.t] 26 (0,0)))∧Hid (IntRow wq (w.heap.size + 1) d (fun t=>if t < k then usedL (lst P (j + 1)) id t else usedL (lst P j) id t)))
          case atStart=>exact ⟨0,Nat.zero_le _,rfl,rfl,KA,BA,⟨_,_,SA.out⟩,RA.out.congr fun t _=>by simp⟩
          case round =>
            obtain ⟨k,hk,rfl,rfl,KQ,BQ,SQ,RQ⟩:=hrel
            by_cases hkd:k < d
            · obtain ⟨sa,sb,hs⟩:=SQ.out
              have s4:wr.cell? ⟨sp,4,none⟩ = some (.slice y.A d y.c):=by rw [cell_of_row wr _ _ _ _ _ hs];rfl
              have yq:=(yi.out.rd.keep KQ.out)
              obtain ⟨rb,ro,hA,cz⟩:=yq.adr (by rw [hU.out.1];omega)
              rw [hA] at s4
              have z0:=cz k (by rw [hU.out.1];exact hkd)
              clear cz yq
              have q2:=at64 (w.heap.size + 1) d d k hkd
              have q3:=at64o rb ro d y.c k hkd
              have r0:wr.cell? ⟨w.heap.size + 1,k,none⟩ = some (.int .i64 (usedL (lst P j) id k)):=by
                have:=World.rowIs.cell RQ.out hkd
                simp only [Nat.lt_irrefl,if_false] at this
                exact this
              have r1:=World.rowIs.frozen RQ.out k
              have bk:=bd.out k hkd
              have ak:=hU.out.2 k hkd
              unfold Amt at ak
              obtain ⟨uk,huk⟩:∃ uk,uk = usedL (lst P j) id k:=⟨_,rfl⟩
              obtain ⟨zk,hzk⟩:∃ zk,zk = y.Z k:=⟨_,rfl⟩
              rw [← huk] at r0 bk
              rw [← hzk] at z0 ak
              have e1:wrap64 (uk + zk) = uk + zk:=by unfold wrap64;omega
              have R2:Hid (IntRow (wr.setCell ⟨w.heap.size + 1,k,none⟩ (.int .i64 (uk + zk))) (w.heap.size + 1) d (fun t=>if t < k + 1 then usedL (lst P (j + 1)) id t else usedL (lst P j) id t)):=by
                refine (IntRow.set RQ.out (uk + zk)).congr fun t _=>?_
                show Value.int .i64 (if t = k then uk + zk else if t < k then usedL (lst P (j + 1)) id t else usedL (lst P j) id t) = Value.int .i64 (if t < k + 1 then usedL (lst P (j + 1)) id t else usedL (lst P j) id t)
                by_cases et:t = k
                · subst et
                  rw [if_pos rfl,if_pos (Nat.lt_succ_self _),zs.out,huk,hzk]
                · rw [if_neg et]
                  by_cases e2:t < k
                  · rw [if_pos e2,if_pos (by omega)]
                  · rw [if_neg e2,if_neg (by omega)]
              replace huk:=Lib.hid huk
              replace hzk:=Lib.hid hzk
              replace bk:=Lib.hid bk
              replace ak:=Lib.hid ak
              replace hs:=Lib.hid hs
              go_wp2_with fail
              go_region
              all_goals
                have B2:Hid ((wr.setCell ⟨w.heap.size + 1,k,none⟩ (.int .i64 (uk + zk))).heap[w.heap.size]? = some (.cells (RcV.arr ⟨d,A,n,c,some ⟨gp,off,none⟩,m,e⟩) 31 (0,0))):=(Below.heap_setCell _ _ _ _ (by show w.heap.size≠w.heap.size + 1;omega)).trans BQ.out
                have S2:Hid (∃ a b',(wr.setCell ⟨w.heap.size + 1,k,none⟩ (.int .i64 (uk + zk))).heap[sp]? = some (.cells #[.int .i64 y.k,.int .i64 y.p,.bool y.f,.int .i64 y.g,.slice y.A d y.c,.int .i64 y.a,a,b',.int .i64 y.t] 26 (0,0))):=⟨sa,sb,(Below.heap_setCell _ _ _ _ (by show sp≠w.heap.size + 1;exact fun e=>absurd (hsp.out.symm.trans e) (by omega))).trans hs.out⟩
                have K2:Hid (Keep w (wr.setCell ⟨w.heap.size + 1,k,none⟩ (.int .i64 (uk + zk)))):=KQ.out.set (by show w.heap.size≤w.heap.size + 1;omega) _
                clear s4 z0 q2 q3 r0 r1 e1
                go_wp2
                go_roundg (d - (k + 1))
                case measure=>omega
                case rel=>exact ⟨k + 1,hkd,rfl,by go_num,by first | exact K2.out | exact K2.out.drew | exact (KQ.out.drew).set (by show w.heap.size≤w.heap.size + 1;omega) _,B2.out,S2.out,R2.out⟩
            · obtain rfl:k = d:=by omega
              have R2:Hid (IntRow wr (w.heap.size + 1) k (usedL (lst P (j + 1)) id)):=RQ.out.congr fun t ht=>by simp only [ht,if_true]
              go_wp2
              go_roundg (m - (j + 1))
              case measure=>omega
              case rel=>exact ⟨j + 1,hlt,rfl,by go_num,KQ,BQ,R2⟩
      · have zs:Hid (∀ k,usedL (lst P (j + 1)) id k = usedL (lst P j) id k):=fun k=>by rw [us.out,heldZ_not hh];omega
        have R2:Hid (IntRow (wr.alloc (.cells #[.int .i64 y.k,.int .i64 y.p,.bool y.f,.int .i64 y.g,.slice y.A d y.c,.int .i64 y.a,.int .i64 y.h,.int .i64 y.d,.int .i64 y.t] 26)) (w.heap.size + 1) d (usedL (lst P (j + 1)) id)):=RA.out.congr fun t _=>by
          show Value.int .i64 (usedL (lst P j) id t) = Value.int .i64 (usedL (lst P (j + 1)) id t)
          rw [zs.out]
        by_cases h1:y.d = id
        · have h3:¬ y.h = 3:=fun h=>hh ⟨h1,Or.inl h⟩
          have h4:¬ y.h = 4:=fun h=>hh ⟨h1,Or.inr h⟩
          rw [h1] at y7 KA BA R2
          have hb3:(y.h != 3) = true:=by simpa using h3
          have hb4:(y.h != 4) = true:=by simpa using h4
          replace hh:=Lib.hid hh
          replace h1:=Lib.hid h1
          go_wp2
          go_roundg (m - (j + 1))
          case measure=>omega
          case rel=>exact ⟨j + 1,hlt,rfl,by go_num,KA,BA,R2⟩
        · replace hh:=Lib.hid hh
          have hb5:(y.d != id) = true:=by simpa using h1
          go_wp2
          go_roundg (m - (j + 1))
          case measure=>omega
          case rel=>exact ⟨j + 1,hlt,rfl,by go_num,KA,BA,R2⟩
    · obtain rfl:j = m:=by omega
      obtain ⟨c0,c1,c2,cf⟩:=rc_cells BR.out
      go_wp2
      go_ret
      exact ⟨_,rfl,Nat.le_succ _,RR.out,KR.out⟩
end Go.Proofs.YtclfbplbccehkaaGreatDoor.T14

namespace Go.Proofs.YtclfbplbccehkaaGreatDoor.T16
open Go.RowKit Go.Sort Go.Lib V12 T13 T14 T15
theorem row_mem {L:List PodV} {t:Nat} (ht:t < L.length):row L t ∈ L:=by
  unfold row
  rw [List.getD_eq_getElem?_getD,List.getElem?_eq_getElem ht]
  exact List.getElem_mem _
theorem sumL_snoc (P:Nat→PodV) (n j:Nat):sumL (T13.lst P (n + 1)) j = sumL (T13.lst P n) j + (P n).Z j:=by
  rw [lst_succ,sumL_append]
  show _ + ((P n).Z j + 0) = _
  omega
theorem sumL_bd {L:List PodV} {n j:Nat} (hl:L.length≤n) (hn:n≤100) (h:∀ y ∈ L,Amt (y.Z j)):0≤sumL L j∧sumL L j≤109951162777600:=by
  have:=sumL_lo h
  omega
set_option maxRecDepth 100000 in
set_option maxHeartbeats 8000000 in
theorem r15sum_fn (x:RcV) (d:Nat) (hd:x.d = d) (hd64:d≤64) (p:PodV) (nd:Int) (P:Nat→PodV) (w:World) (hR:RdPods w x.B x.m P) (hm:x.m≤100) (hp:∀ j,j < x.m→(P j).m = d∧∀ k,k < d→Amt ((P j).Z k)) :
    Calls Tryz.prog 38 #[x.val,p.val,.int .i64 nd] w fun e w'=>∃ g,e = .returned (.slice (some ⟨g,0,none⟩) d d)∧w.heap.size≤g∧IntRow w' g d (sumL (seesL p nd (T13.lst P x.m)))∧Keep w w':=by
  have mixed:Tryz.prog.follows .mixedOrders = true:=by kernel_rfl
  obtain ⟨xd,A,n,c,B,m,e⟩:=x
  simp only at hd hR hm hp ⊢
  subst hd
  have hmk:=run_make_row' (P:=Tryz.prog) 24 2 (.int .i64 0) 8 Tryz.underlying24 Tryz.infoU14 rfl .i64 .i64 d (by omega) (by omega)
  obtain ⟨L,hL⟩:∃ L,L = seesL p nd (T13.lst P m):=⟨_,rfl⟩
  rw [← hL]
  have hI:Hid (∀ t,t < L.length→PodIs w (row L t)∧(row L t).m = d∧∀ k,k < d→Amt ((row L t).Z k)):=fun t ht=>by
    have h1:=row_mem ht
    rw [hL] at h1
    obtain ⟨i,hi,e1⟩:=lst_mem.1 (List.mem_filter.1 h1).1
    rw [hL,← e1]
    exact ⟨hR.is i hi,(hp i hi).1,(hp i hi).2⟩
  have s0:((w.alloc (.cells (RcV.arr ⟨d,A,n,c,B,m,e⟩) 31)).alloc (.cells (podB p) 26)).heap.size = w.heap.size + 1 + 1:=by rw [World.size_alloc,World.size_alloc]
  obtain ⟨W1,hW1⟩:∃ W1,W1 = (((w.alloc (.cells (RcV.arr ⟨d,A,n,c,B,m,e⟩) 31)).alloc (.cells (podB p) 26)).alloc (.cells (madeCells #[.int .i64 0] d) 2)):=⟨_,rfl⟩
  have K1:Hid (Keep w W1):=by rw [hW1];exact ((Keep.one _ _).alloc _).alloc _
  have B3:Hid (W1.heap[w.heap.size]? = some (.cells (RcV.arr ⟨d,A,n,c,B,m,e⟩) 31 (0,0))):=by rw [hW1];exact ((Keep.one _ _).alloc _).block (heap_alloc_new _ _)
  have B4:Hid (W1.heap[w.heap.size + 1]? = some (.cells (podB p) 26 (0,0))):=by
    rw [hW1]
    have h1:=heap_alloc_new (w.alloc (.cells (RcV.arr ⟨d,A,n,c,B,m,e⟩) 31)) (.cells (podB p) 26)
    rw [World.size_alloc] at h1
    exact (Keep.one _ _).block h1
  obtain ⟨g,hg⟩:∃ g,g = w.heap.size + 1 + 1:=⟨_,rfl⟩
  have sz1:Hid (W1.heap.size = g + 1):=by show _ = _;rw [hW1,World.size_alloc,s0,hg]
  have R1:Hid (IntRow W1 g d (sumL [])):=by
    have:=World.rowIs_made ((w.alloc (.cells (RcV.arr ⟨d,A,n,c,B,m,e⟩) 31)).alloc (.cells (podB p) 26)) (.int .i64 0) d 2
    rw [s0,← hg,← hW1] at this
    exact this
  obtain ⟨b3,hb3⟩:∃ b,b = w.heap.size:=⟨_,rfl⟩
  obtain ⟨b4,hb4⟩:∃ b,b = w.heap.size + 1:=⟨_,rfl⟩
  rw [← hb3] at B3
  rw [← hb4] at B4
  have bg:Hid (b3 < g∧b4 < g∧w.heap.size≤g):=⟨Nat.lt_of_le_of_lt (Nat.le_of_eq hb3) (by rw [hg];exact Nat.lt_succ_of_lt (Nat.lt_succ_self _)),by rw [hg,hb4];exact Nat.lt_succ_self _,by rw [hg];exact Nat.le_succ_of_le (Nat.le_succ _)⟩
  have cP:Hid (Calls Tryz.prog 70 #[RcV.val ⟨d,A,n,c,B,m,e⟩,p.val,.int .i64 nd] W1 (PodsP W1 m L)):=by
    rw [hL]
    exact r15pods_fn ⟨d,A,n,c,B,m,e⟩ p nd P W1 (hR.keep K1.out) (Nat.le_trans hm (by decide))
  have hm1:max (d:Int) 0 = d:=by omega
  have hb1:decide (0≤(d:Int)) = true:=decide_eq_true (by omega)
  have hb2:decide ((d:Int) < 0) = false:=decide_eq_false (by omega)
  replace hR:=Lib.hid hR
  replace hp:=Lib.hid hp
  replace hL:=Lib.hid hL
  obtain ⟨c0,c1,c2,_⟩:=rc_cells B3.out
  have P4:=blk9 B4.out
  have p0:=P4.e0;have p1:=P4.e1;have p2:=P4.e2;have p3:=P4.e3;have p4:=P4.e4;have p5:=P4.e5;have p6:=P4.e6;have p7:=P4.e7;have p8:=P4.e8
  clear P4
  unfold RcV.arr podB at hW1
  unfold RcV.val PodV.val at cP ⊢
  simp only at hW1 c0 c1 c2 cP ⊢
  go_enter Tryz.func38,Tryz.ntmps38
  go_wp2_with fail
  try simp only [hm1]
  rw [← hW1,← hg,← hb4,← hb3]
  replace hW1:=Lib.hid hW1
  refine cP.out.mono ?_
  rintro e' w3 ⟨D,d',rfl,KP,RD,hl,FR⟩
  have K3:Hid (Keep w w3):=K1.out.trans KP
  have R3:Hid (IntRow w3 g d (sumL (T13.lst (row L) 0))):=by
    obtain ⟨cs,h1,h2,h3⟩:=R1.out
    exact ⟨cs,(Keep.block KP h1),h2,h3⟩
  have G1:Hid (∀ gD o,D = some ⟨gD,o,none⟩→g < gD):=fun gD o h=>by
    have h1:=FR gD o h
    have h2:=sz1.out
    omega
  have G3:Hid (g < w3.heap.size):=R3.out.lt
  have hl63:L.length≤9223372036854775807:=by omega
  clear c0 c1 c2 p0 p1 p2 p3 p4 p5 p6 p7 p8 FR cP
  replace KP:=Lib.hid KP
  replace RD:=Lib.hid RD
  replace hg:=Lib.hid hg
  replace hb3:=Lib.hid hb3
  replace hb4:=Lib.hid hb4
  go_wp2
  go_loopg [9] L.length (fun gx s9 wr=>∃ j:Nat,j≤L.length∧gx = L.length - j∧s9 = .int .i64 j∧Hid (Keep w wr)∧Hid (∀ k,k < w3.heap.size→k≠g→wr.heap[k]? = w3.heap[k]?)∧Hid (IntRow wr g d (sumL (T13.lst (row L) j))))
  case atStart=>exact ⟨0,Nat.zero_le _,rfl,rfl,K3,fun _ _ _=>rfl,R3⟩
  case round =>
    obtain ⟨j,hj,rfl,rfl,KR,SR,RR⟩:=hrel
    by_cases hlt:j < L.length
    · obtain ⟨gp,off,hA,ca⟩:=RD.out.adr (by omega)
      subst hA
      have q1:=pods_at gp off L.length d' j hlt
      have Y4:=Lib.hid (ca j hlt).e4
      clear ca
      have hne:=Lib.hid (G1.out gp off rfl)
      obtain ⟨y,hy⟩:∃ y,y = row L j:=⟨_,rfl⟩
      have yi:=hI.out j hlt
      have us:Hid (∀ k,sumL (T13.lst (row L) (j + 1)) k = sumL (T13.lst (row L) j) k + y.Z k):=fun k=>by rw [hy];exact sumL_snoc (row L) j k
      have bd:Hid (∀ k,k < d→0≤sumL (T13.lst (row L) j) k∧sumL (T13.lst (row L) j) k≤109951162777600):=fun k hk=>by
        refine sumL_bd (n:=m) (by rw [lst_len];omega) hm fun z hz=>?_
        obtain ⟨i,hi,rfl⟩:=lst_mem.1 hz
        exact (hI.out i (by omega)).2.2 k hk
      obtain ⟨oo,hoo⟩:∃ oo,oo = off + j * 9:=⟨_,rfl⟩
      rw [← hy] at Y4 yi
      rw [← hoo] at Y4 q1
      rw [yi.2.1] at Y4
      replace hy:=Lib.hid hy
      replace yi:=Lib.hid yi
      replace hoo:=Lib.hid hoo
      go_wp2
      go_loopg [10] d (fun gx s10 wq=>∃ k:Nat,k≤d∧gx = d - k∧s10 = .int .i64 k∧Hid (Keep w wq)∧Hid (∀ k,k < w3.heap.size→k≠g→wq.heap[k]? = w3.heap[k]?)∧Hid (IntRow wq g d (fun t=>if t < k then sumL (T13.lst (row L) (j + 1)) t else sumL (T13.lst (row L) j) t)))
      case atStart=>exact ⟨0,Nat.zero_le _,rfl,rfl,KR,SR,RR.out.congr fun t _=>by simp⟩
      case round =>
        obtain ⟨k,hk,rfl,rfl,KQ,SQ,RQ⟩:=hrel
        by_cases hkd:k < d
        · have y4:=(World.cell?_of_block (a:=⟨gp,oo + 4,none⟩) (SQ.out gp (World.block_lt_of_cell? _ _ Y4.out) (fun e=>absurd hne.out (by omega)))).trans Y4.out
          have yq:=(yi.out.1.rd.keep KQ.out)
          obtain ⟨rb,ro,hA,cz⟩:=yq.adr (by rw [yi.out.2.1];omega)
          rw [hA] at y4
          have z0:=cz k (by rw [yi.out.2.1];exact hkd)
          clear cz yq
          have q2:=at64 g d d k hkd
          have q3:=at64o rb ro d y.c k hkd
          have r0:wr.cell? ⟨g,k,none⟩ = some (.int .i64 (sumL (T13.lst (row L) j) k)):=by
            have:=World.rowIs.cell RQ.out hkd
            simp only [Nat.lt_irrefl,if_false] at this
            exact this
          have r1:=World.rowIs.frozen RQ.out k
          have bk:=bd.out k hkd
          have ak:=yi.out.2.2 k hkd
          unfold Amt at ak
          obtain ⟨uk,huk⟩:∃ uk,uk = sumL (T13.lst (row L) j) k:=⟨_,rfl⟩
          obtain ⟨zk,hzk⟩:∃ zk,zk = y.Z k:=⟨_,rfl⟩
          rw [← huk] at r0 bk
          rw [← hzk] at z0 ak
          have e1:wrap64 (uk + zk) = uk + zk:=by unfold wrap64;omega
          have R2:Hid (IntRow (wr.setCell ⟨g,k,none⟩ (.int .i64 (uk + zk))) g d (fun t=>if t < k + 1 then sumL (T13.lst (row L) (j + 1)) t else sumL (T13.lst (row L) j) t)):=by
            refine (IntRow.set RQ.out (uk + zk)).congr fun t _=>?_
            show Value.int .i64 (if t = k then uk + zk else if t < k then sumL (T13.lst (row L) (j + 1)) t else sumL (T13.lst (row L) j) t) = Value.int .i64 (if t < k + 1 then sumL (T13.lst (row L) (j + 1)) t else sumL (T13.lst (row L) j) t)
            by_cases et:t = k
            · subst et
              rw [if_pos rfl,if_pos (Nat.lt_succ_self _),us.out,huk,hzk]
            · rw [if_neg et]
              by_cases e2:t < k
              · rw [if_pos e2,if_pos (by omega)]
              · rw [if_neg e2,if_neg (by omega)]
          replace huk:=Lib.hid huk
          replace hzk:=Lib.hid hzk
          replace bk:=Lib.hid bk
          replace ak:=Lib.hid ak
          go_wp2_with fail
          go_region
          all_goals
            have S2:Hid (∀ t,t < w3.heap.size→t≠g→(wr.setCell ⟨g,k,none⟩ (.int .i64 (uk + zk))).heap[t]? = w3.heap[t]?):=fun t h1 h2=>(Below.heap_setCell _ _ _ _ (by show t≠g;exact h2)).trans (SQ.out t h1 h2)
            have K2:Hid (Keep w (wr.setCell ⟨g,k,none⟩ (.int .i64 (uk + zk)))):=KQ.out.set (by show w.heap.size≤g;exact bg.out.2.2) _
            clear y4 z0 q2 q3 r0 r1 e1
            go_wp2
            go_roundg (d - (k + 1))
            case measure=>omega
            case rel=>exact ⟨k + 1,hkd,rfl,by go_num,by first | exact K2.out | exact K2.out.drew | exact (KQ.out.drew).set (by show w.heap.size≤g;exact bg.out.2.2) _,S2.out,R2.out⟩
        · obtain rfl:k = d:=by omega
          have R2:Hid (IntRow wr g k (sumL (T13.lst (row L) (j + 1)))):=RQ.out.congr fun t ht=>by simp only [ht,if_true]
          go_wp2
          go_roundg (L.length - (j + 1))
          case measure=>omega
          case rel=>exact ⟨j + 1,hlt,rfl,by go_num,KQ,SQ,R2⟩
    · obtain rfl:j = L.length:=by omega
      have LL:T13.lst (row L) L.length = L:=by
        apply List.ext_getElem
        · rw [lst_len]
        · intro i h1 h2
          simp only [T13.lst,List.getElem_map,List.getElem_range]
          unfold row
          rw [List.getD_eq_getElem?_getD,List.getElem?_eq_getElem h2]
          rfl
      have RF:Hid (IntRow wr g d (sumL L)):=by
        have:=RR.out
        rw [LL] at this
        exact this
      clear LL
      go_wp2
      go_ret
      exact ⟨g,rfl,bg.out.2.2,RF.out,KR.out⟩
end Go.Proofs.YtclfbplbccehkaaGreatDoor.T16

