/-
  What the law LoadShort wants beside the contracts. No condition, no walk.
  The law of P16.3, P16.4: what is left and what is short are differences; a pod fits exactly if it is short of nothing. Condition: errors.errorType holds its own.
-/
import Derived.Test.YtclfbplbccehkaaGreatDoorD22
import Derived.Test.YtclfbplbccehkaaGreatDoorD13
import Derived.Test.YtclfbplbccehkaaGreatDoorD15
namespace Go.Proofs.YtclfbplbccehkaaGreatDoor.T16
open Go.RowKit Go.Sort Go.Lib V12 T13 T14 T15
section
variable {CS:PredC} {w w1:World} {d q:Nat} {M:List NV} {L:List PodV} {X:Nat→Prop} {x:RcV} {Q:Nat→C14.NdC} {P:Nat→PodV}
theorem find_st (C:Con CS) (h:St CS w d q M L X w1 x Q P) (nd:Int):Calls Tryz.prog 16 #[x.val,.int .i64 nd] w1 fun e w'=>e = .returned (.int .i64 (C14.findN Q nd x.n))∧Keep w1 w':=by
  refine (rfindN_fn x Q nd w1 (h.rdc C).row).mono ?_
  rintro e w' ⟨h1,h2⟩
  exact ⟨h1,by rw [h2];exact Keep.one _ _⟩
theorem loadL_bd (ok:Ok d M L) (hl:L.length≤100) (O:Int→Bool) (p:PodV) (nd:Int) {j:Nat} (hj:j < d):0≤loadZ O p nd L j∧loadZ O p nd L j≤219902325555200:=by
  have h0:=ok.amtL hj
  have h1:=usedL_hi (L:=outL O L) (id:=nd) (j:=j) fun y hy=>h0 y (List.mem_filter.1 hy).1
  have h4:=usedL_lo (L:=outL O L) (id:=nd) (j:=j) fun y hy=>h0 y (List.mem_filter.1 hy).1
  have h3:(outL O L).length≤L.length:=List.length_filter_le _ _
  have h5:=sumL_lo (L:=seesL p nd L) (j:=j) fun y hy=>h0 y (List.mem_filter.1 hy).1
  have h6:(seesL p nd L).length≤L.length:=List.length_filter_le _ _
  unfold loadZ
  omega
def lnN (b:Bool) (d:Nat):Nat:=if b = true then d else 0
theorem sub_sho (ok:Ok d M L) (hl:L.length≤100) {p:PodV} {nd:Int} (hk:nd ∈ nk M) (h64:d≤64) {A B:Option Addr} {c e:Nat} (hA:Rd w1 A d (nget M nd).C) (hB:Rd w1 B d (ofZ no p nd M L)) :
    Calls Tryz.prog 19 #[.slice A d c,.slice B d e] w1 fun e w'=>∃ vA vc,e = .returned (.tuple #[.slice vA (lnN (leftB p nd M L d) d) vc,.bool (leftB p nd M L d)])∧Rd w' vA (lnN (leftB p nd M L d) d) (fun k=>(nget M nd).C k - loadZ no p nd L k)∧Keep w1 w':=by
  have eo:∀ k,ofZ no p nd M L k = loadZ no p nd L k:=fun k=>by unfold ofZ;rw [if_pos hk]
  have rg:∀ k,k < d→(0≤loadZ no p nd L k∧loadZ no p nd L k≤219902325555200)∧Amt ((nget M nd).C k):=fun k hk2=>⟨loadL_bd ok hl no p nd hk2,ok.cap _ (getM hk).1 k hk2⟩
  have iff1:SubOk d (nget M nd).C d (ofZ no p nd M L) ↔ leftB p nd M L d = true:=by
    unfold leftB
    rw [decide_eq_true_iff]
    constructor
    · rintro ⟨_,h⟩
      refine ⟨hk,fun k hk2=>?_⟩
      have:=subOk_range (h k hk2)
      rw [eo] at this
      exact this.1
    · rintro ⟨_,h⟩
      refine ⟨rfl,fun k hk2=>?_⟩
      obtain ⟨a1,a2⟩:=rg k hk2
      unfold Amt at a2
      have:=h k hk2
      unfold subOk
      rw [eo]
      exact decide_eq_true (by omega)
  refine (R14.rsub_any A B d d c e _ _ w1 hA hB (by omega)).mono ?_
  rintro e w' ⟨k,⟨hok,A2,cap,he,hr⟩ | ⟨hno,he⟩⟩
  · rw [iff1.1 hok]
    refine ⟨A2,cap,he,⟨hr.small,fun k hk2=>?_,fun hn=>?_⟩,k⟩
    · have:=hr.range k hk2
      simp only [eo] at this
      exact this
    · obtain ⟨b,o,e2,hc⟩:=hr.adr hn
      refine ⟨b,o,e2,fun j hj=>?_⟩
      have:=hc j hj
      simp only [eo] at this
      exact this
  · have hb:leftB p nd M L d = false:=by
      cases e2:leftB p nd M L d with
      | false=>rfl
      | true=>exact absurd (iff1.2 e2) hno
    rw [hb]
    exact ⟨none,0,he,⟨show (0:Nat)≤_ from Nat.zero_le _,fun _ h=>absurd h (Nat.not_lt_zero _),fun h=>absurd h (Nat.lt_irrefl _)⟩,k⟩
theorem left_sho (F:ConL CS) (p:PodV) (nd:Int) (h:CS w d q M L X w1) (hg:ErrT w1) (hp:PodIs w1 p) (hn:I64 nd) (hd:d≤64) (hm:M.length≤100) (hl:L.length≤100):Calls Tryz.prog 17 #[.pointer (some ⟨q,0,none⟩),p.val,.int .i64 nd] w1 fun e w'=>∃ vA vc,e = .returned (.tuple #[.slice vA (lnN (leftB p nd M L d) d) vc,.bool (leftB p nd M L d)])∧Rd w' vA (lnN (leftB p nd M L d) d) (fun k=>(nget M nd).C k - loadZ no p nd L k)∧Keep w1 w':=by
  refine (F.left p nd h hg hp hn hd hm hl).mono ?_
  rintro e w' ⟨v,n,he,h1,h2,⟨vA,vc,rfl,hr⟩,k⟩
  have hn:n = lnN (leftB p nd M L d) d:=by
    unfold lnN
    cases e2:leftB p nd M L d with
    | true=>rw [h1 e2];rfl
    | false=>rw [h2 e2];rfl
  rw [← hn]
  exact ⟨vA,vc,he,hr,k⟩
theorem short_sho (F:ConL CS) (p:PodV) (nd:Int) (h:CS w d q M L X w1) (hg:ErrT w1) (hp:PodIs w1 p) (hn:I64 nd) (hd:d≤64) (hpm:p.m≤1000) (hm:M.length≤100) (hl:L.length≤100):Calls Tryz.prog 18 #[.pointer (some ⟨q,0,none⟩),p.val,.int .i64 nd] w1 fun e w'=>∃ vA vc,e = .returned (.slice vA (lnN (shortB p nd M d) d) vc)∧Rd w' vA (lnN (shortB p nd M d) d) (shortZ p nd M L)∧Keep w1 w':=by
  refine (F.short p nd h hg hp hn hd hpm hm hl).mono ?_
  rintro e w' ⟨v,n,he,h1,h2,⟨vA,vc,rfl,hr⟩,k⟩
  have hn:n = lnN (shortB p nd M d) d:=by
    unfold lnN
    cases e2:shortB p nd M d with
    | true=>rw [h1 e2];rfl
    | false=>rw [h2 e2];rfl
  rw [← hn]
  exact ⟨vA,vc,he,hr,k⟩
theorem fits_sho {p:PodV} {nd:Int} (hk:nd ∈ nk M) (hw:¬ 0≤wrongOf p.m p.Z (2:Nat)):fitsM no p nd M L 2 = decide (shortZ p nd M L 0 = 0∧shortZ p nd M L 1 = 0):=by
  unfold fitsM
  rw [decide_eq_decide]
  unfold shortZ
  constructor
  · rintro ⟨_,_,h⟩
    have h0:=h 0 (by omega)
    have h1:=h 1 (by omega)
    omega
  · rintro ⟨h0,h1⟩
    refine ⟨hk,hw,fun k hk2=>?_⟩
    obtain rfl | rfl:k = 0∨k = 1:=by omega
    · omega
    · omega
end
end Go.Proofs.YtclfbplbccehkaaGreatDoor.T16

namespace Go.Proofs.YtclfbplbccehkaaGreatDoor.T16
open Go.RowKit Go.Sort Go.Lib V12 T13 T14 T15
set_option maxRecDepth 100000 in
set_option maxHeartbeats 16000000 in
theorem sho_walk {CS:PredC} (C:Con CS) (N:NewXOk CS) (F:ConL CS) (HA:AwOk) (A:Option Addr) (n c:Nat) (Pn:Nat→C14.NdC) (B:Option Addr) (m e:Nat) (Pp:Nat→PlV) (p:PodV) (nd:Int) (w:World) (hN:C14.RdC w A n Pn) (hP:RdPl w B m Pp) (hpx:PodIs w p) (hg:ErrT w) (hnd:I64 nd):Calls Tryz.prog 4 #[.slice A n c,.slice B m e,p.val,.int .i64 nd] w fun e w'=>e = .returned (.bool true)∧Keep w w':=by
  have mixed:Tryz.prog.follows .mixedOrders = true:=by kernel_rfl
  obtain ⟨W0,hW0⟩:∃ W0,W0 = w.alloc (.cells (podB p) 26):=⟨_,rfl⟩
  have K0:Hid (Keep w W0):=by rw [hW0];exact Keep.one _ _
  have BP:Hid (W0.heap[w.heap.size]? = some (.cells (podB p) 26 (0,0))):=by rw [hW0];exact heap_alloc_new _ _
  obtain ⟨bp,hbp⟩:∃ b,b = w.heap.size:=⟨_,rfl⟩
  rw [← hbp] at BP
  have hg0:Hid (ErrT W0):=hg.keep K0.out
  have cB:=Lib.hid (build_fn C N A n c Pn B m e Pp W0 (hN.keep K0.out) (hP.keep K0.out) hg0.out)
  have aw:Hid (∀ W2,Keep W0 W2→Calls Tryz.prog 9 #[] W2 fun e w'=>e = .returned (.bool true)∧Keep W2 w'):=fun W2 k=>HA W2 (hg0.out.keep k)
  have px0:=hpx.keep K0.out
  replace hN:=Lib.hid hN
  replace hP:=Lib.hid hP
  replace hg:=Lib.hid hg
  replace hpx:=Lib.hid hpx
  replace px0:=Lib.hid px0
  unfold podB at hW0
  unfold PodV.val
  go_enter Tryz.func4,Tryz.ntmps4
  go_wp2_with fail
  rw [← hW0,← hbp]
  replace hW0:=Lib.hid hW0
  replace hbp:=Lib.hid hbp
  refine cB.out.mono ?_
  rintro e' w1 ⟨k1,⟨x,rfl⟩ | ⟨q,M,L,X,x,Q,P,rfl,ST,hM,hL⟩⟩
  · obtain ⟨W1,hW1⟩:∃ W1,W1 = w1.alloc (.cells x.arr 31):=⟨_,rfl⟩
    have K1:Hid (Keep W0 W1):=by rw [hW1];exact k1.alloc _
    replace k1:=Lib.hid k1
    have a1:=Lib.hid (aw.out W1 K1.out)
    unfold RcV.arr at hW1
    unfold RcV.val
    go_wp2_with fail
    rw [← hW1]
    replace hW1:=Lib.hid hW1
    refine a1.out.mono ?_
    rintro e' w2 ⟨rfl,k2⟩
    have K2:Hid (Keep W0 w2):=K1.out.trans k2
    replace k2:=Lib.hid k2
    clear a1
    have a2:=Lib.hid (aw.out w2 K2.out)
    go_wp2_with fail
    refine a2.out.mono ?_
    rintro e' w3 ⟨rfl,k3⟩
    replace k3:=Lib.hid k3
    go_wp2
    go_ret
    exact ⟨rfl,K0.out.trans (K2.out.trans k3.out)⟩
  · obtain ⟨W1,hW1⟩:∃ W1,W1 = w1.alloc (.cells x.arr 31):=⟨_,rfl⟩
    have K1:Hid (Keep W0 W1):=by rw [hW1];exact k1.alloc _
    replace k1:=Lib.hid k1
    replace ST:=Lib.hid (ST.keep C (show Keep w1 W1 by rw [hW1];exact Keep.one _ _))
    replace hM:=Lib.hid hM
    replace hL:=Lib.hid hL
    have BX:Hid (W1.heap[w1.heap.size]? = some (.cells x.arr 31 (0,0))):=by rw [hW1];exact heap_alloc_new _ _
    have a1:=Lib.hid (aw.out W1 K1.out)
    unfold RcV.arr at hW1
    unfold RcV.val
    go_wp2_with fail
    rw [← hW1]
    try replace hW1:=Lib.hid hW1
    refine a1.out.mono ?_
    rintro e' w2 ⟨rfl,k2⟩
    have K2:Hid (Keep W0 w2):=K1.out.trans k2
    replace ST:=Lib.hid (ST.out.keep C k2)
    replace BX:Hid (w2.heap[w1.heap.size]? = some (.cells x.arr 31 (0,0))):=Keep.block k2 BX.out
    replace k2:=Lib.hid k2
    obtain ⟨bx,hbx⟩:∃ b,b = w1.heap.size:=⟨_,rfl⟩
    rw [← hbx] at BX ⊢
    replace hbx:=Lib.hid hbx
    clear a1
    have X0:=blk9 (Keep.block K2.out BP.out)
    have x0:=X0.e0;have x1:=X0.e1;have x2:=X0.e2;have x3:=X0.e3;have x4:=X0.e4;have x5:=X0.e5;have x6:=X0.e6;have x7:=X0.e7;have x8:=X0.e8
    clear X0
    obtain ⟨W3,hW3⟩:∃ W3,W3 = w2.alloc (.cells (podB p) 26):=⟨_,rfl⟩
    have B3:Hid (W3.heap[w2.heap.size]? = some (.cells (podB p) 26 (0,0))):=by rw [hW3];exact heap_alloc_new _ _
    have k23:Hid (Keep w2 W3):=by rw [hW3];exact Keep.one _ _
    have K3:Hid (Keep W0 W3):=K2.out.trans k23.out
    replace ST:=Lib.hid (ST.out.keep C k23.out)
    replace BX:Hid (W3.heap[bx]? = some (.cells x.arr 31 (0,0))):=Keep.block k23.out BX.out
    obtain ⟨fb,hfb⟩:=fewx_or p
    have cF:=Lib.hid (rfew_fn (some ⟨w2.heap.size,0,none⟩) 1 1 (fun _=>p) W3 (rd_single B3.out (px0.out.keep K3.out)) fb hfb)
    unfold podB at hW3
    replace hfb:=Lib.hid hfb
    go_wp2_with fail
    rw [← hW3]
    replace hW3:=Lib.hid hW3
    refine cF.out.mono ?_
    rintro e' w4 ⟨rfl,rfl⟩
    clear x0 x1 x2 x3 x4 x5 x6 x7 x8 cF
    cases fb with
    | false =>
      have a2:=Lib.hid (aw.out W3 K3.out)
      go_wp2_with fail
      refine a2.out.mono ?_
      rintro e' w5 ⟨rfl,k5⟩
      replace k5:=Lib.hid k5
      go_wp2
      go_ret
      exact ⟨rfl,K0.out.trans (K3.out.trans k5.out)⟩
    | true =>
      have fx:=Lib.hid (hfb.out.1 rfl)
      have hb:-1073741824≤p.p∧p.p≤1073741824∧p.m≤20:=fx.out.2 0 (by omega)
      have l100:Hid (L.length≤100):=Nat.le_trans hL.out (by omega)
      have m100:Hid (M.length≤100):=Nat.le_trans hM.out (by omega)
      have pm:Hid (p.m≤1000):=Nat.le_trans hb.2.2 (by omega)
      replace hb:=Lib.hid hb
      replace hnd:=Lib.hid hnd
      obtain ⟨fi,hfi⟩:∃ z,z = C14.findN Q nd x.n:=⟨_,rfl⟩
      have cFd:=Lib.hid (find_st C ST.out nd)
      rw [← hfi] at cFd
      obtain ⟨lb,hlb⟩:∃ b,b = leftB p nd M L 2:=⟨_,rfl⟩
      obtain ⟨sb,hsb⟩:∃ b,b = shortB p nd M 2:=⟨_,rfl⟩
      have cL:Hid (∀ Wz,Keep W3 Wz→Calls Tryz.prog 17 #[.pointer (some ⟨q,0,none⟩),p.val,.int .i64 nd] Wz fun e w'=>∃ vA vc,e = .returned (.tuple #[.slice vA (lnN lb 2) vc,.bool lb])∧Rd w' vA (lnN lb 2) (fun k=>(nget M nd).C k - loadZ no p nd L k)∧Keep Wz w'):=fun Wz kk=>by
        rw [hlb]
        exact left_sho F p nd (C.keep ST.out.o kk) (hg0.out.keep (K3.out.trans kk)) (px0.out.keep (K3.out.trans kk)) hnd.out (by omega) m100.out l100.out
      have cS:Hid (∀ Wz,Keep W3 Wz→Calls Tryz.prog 18 #[.pointer (some ⟨q,0,none⟩),p.val,.int .i64 nd] Wz fun e w'=>∃ vA vc,e = .returned (.slice vA (lnN sb 2) vc)∧Rd w' vA (lnN sb 2) (shortZ p nd M L)∧Keep Wz w'):=fun Wz kk=>by
        rw [hsb]
        exact short_sho F p nd (C.keep ST.out.o kk) (hg0.out.keep (K3.out.trans kk)) (px0.out.keep (K3.out.trans kk)) hnd.out (by omega) pm.out m100.out l100.out
      unfold PodV.val at cL cS
      unfold RcV.val at cFd
      obtain ⟨d0,d1,d2,_⟩:=rc_cells BX.out
      replace hlb:=Lib.hid hlb
      replace hsb:=Lib.hid hsb
      replace hfi:=Lib.hid hfi
      go_wp2_with fail
      clear d0 d1 d2
      refine cFd.out.mono ?_
      rintro e' w4 ⟨rfl,k4⟩
      have K4:Hid (Keep W3 w4):=k4
      replace k4:=Lib.hid k4
      clear cFd
      have X0:=blk9 (Keep.block (K3.out.trans K4.out) BP.out)
      have p0:=X0.e0;have p1:=X0.e1;have p2:=X0.e2;have p3:=X0.e3;have p4:=X0.e4;have p5:=X0.e5;have p6:=X0.e6;have p7:=X0.e7;have p8:=X0.e8
      clear X0
      have cc:=Lib.hid (cL.out w4 K4.out)
      go_wp2_with fail
      clear p0 p1 p2 p3 p4 p5 p6 p7 p8
      refine cc.out.mono ?_
      rintro e' w5 ⟨lA,lc,rfl,rl5,k5⟩
      have K5:Hid (Keep W3 w5):=K4.out.trans k5
      replace k5:=Lib.hid k5
      replace rl5:=Lib.hid rl5
      clear cc cL
      have X0:=blk9 (Keep.block (K3.out.trans K5.out) BP.out)
      have p0:=X0.e0;have p1:=X0.e1;have p2:=X0.e2;have p3:=X0.e3;have p4:=X0.e4;have p5:=X0.e5;have p6:=X0.e6;have p7:=X0.e7;have p8:=X0.e8
      clear X0
      have cc:=Lib.hid (cS.out w5 K5.out)
      go_wp2_with fail
      clear p0 p1 p2 p3 p4 p5 p6 p7 p8
      refine cc.out.mono ?_
      rintro e' w6 ⟨sA,sc,rfl,rs6,k6⟩
      have K6:Hid (Keep W3 w6):=K5.out.trans k6
      have rl6:=Lib.hid (rl5.out.keep k6)
      replace k6:=Lib.hid k6
      replace rs6:=Lib.hid rs6
      clear cc cS rl5
      by_cases hk:nd ∈ nk M
      · obtain ⟨i,hi,f1,f2⟩:=node_at ST.out.em (C.ok ST.out.o).srt hk
        obtain rfl:fi = (i:Int):=hfi.out.trans f1
        have hneg:decide ((i:Int) < 0) = false:=decide_eq_false (by omega)
        obtain ⟨gn,off,hA,cn⟩:=(ST.out.rdc C).row.adr (by omega)
        have q2:=C14.atN gn off x.n x.c i hi
        have n1:=Lib.hid (cn i hi).e1
        have nr:=Lib.hid ((ST.out.rdc C).rd i hi)
        rw [ST.out.dn i hi] at n1 nr
        obtain ⟨nA,hnA⟩:∃ nA,nA = (Q i).A:=⟨_,rfl⟩
        obtain ⟨nc,hnc⟩:∃ nc,nc = (Q i).c:=⟨_,rfl⟩
        have eC:(Q i).C = (nget M nd).C:=by rw [f2];rfl
        rw [← hnA,← hnc] at n1
        rw [← hnA,eC] at nr
        obtain ⟨oo,hoo⟩:∃ oo,oo = off + i * 2:=⟨_,rfl⟩
        rw [← hoo] at q2 n1
        have cR:Hid (∀ Wz,Keep W3 Wz→Calls Tryz.prog 13 #[x.val,p.val,.int .i64 nd,.slice none 0 0] Wz fun e w'=>∃ v,e = .returned v∧Row w' v 2 (ofZ no p nd M L)∧Keep Wz w'):=fun Wz kk=>rof_st C (ST.out.keep C kk) (by omega) l100.out p nd none 0 0 no (SetOf.nil _ _)
        have cB:Hid (∀ Wz B cB,Keep W3 Wz→Rd Wz B 2 (ofZ no p nd M L)→Calls Tryz.prog 19 #[.slice nA 2 nc,.slice B 2 cB] Wz fun e w'=>∃ vA vc,e = .returned (.tuple #[.slice vA (lnN lb 2) vc,.bool lb])∧Rd w' vA (lnN lb 2) (fun k=>(nget M nd).C k - loadZ no p nd L k)∧Keep Wz w'):=fun Wz B cB kk hB=>by
          rw [hlb.out]
          exact sub_sho (C.ok ST.out.o) l100.out hk (by omega) (nr.out.keep kk) hB
        unfold PodV.val RcV.val at cR
        obtain ⟨nA0,hnA0⟩:∃ nA0,nA0 = x.A:=⟨_,rfl⟩
        have DX:Hid (∀ Wz,Keep W3 Wz→Wz.cell? ⟨bx,0,none⟩ = some (.int .i64 x.d)∧Wz.cell? ⟨bx,1,none⟩ = some (.slice (some ⟨gn,off,none⟩) x.n x.c)∧Wz.cell? ⟨bx,2,none⟩ = some (.slice x.B x.m x.e)):=fun Wz kk=>by
          obtain ⟨a0,a1,a2,_⟩:=rc_cells (Keep.block kk BX.out)
          rw [hA] at a1
          exact ⟨a0,a1,a2⟩
        have N1:Hid (∀ Wz,Keep W3 Wz→Wz.cell? ⟨gn,oo + 1,none⟩ = some (.slice nA 2 nc)):=fun Wz kk=>kk.cell n1.out
        have PX:Hid (∀ Wz,Keep W3 Wz→Blk9 Wz bp p):=fun Wz kk=>blk9 (Keep.block (K3.out.trans kk) BP.out)
        rw [hA] at cR
        have xA:=Lib.hid hA
        clear cn f1 hA
        replace f2:=Lib.hid f2
        replace hk:=Lib.hid hk
        replace hi:=Lib.hid hi
        replace eC:=Lib.hid eC
        replace hnA:=Lib.hid hnA
        replace hnc:=Lib.hid hnc
        replace hnA0:=Lib.hid hnA0
        replace hoo:=Lib.hid hoo
        go_upto_region 9 with fail
        have HELD:∀ Wz,Keep w6 Wz→(Wz.cell? ⟨bx,0,none⟩ = some (.int .i64 x.d)∧Wz.cell? ⟨bx,1,none⟩ = some (.slice (some ⟨gn,off,none⟩) x.n x.c)∧Wz.cell? ⟨bx,2,none⟩ = some (.slice x.B x.m x.e)∧Wz.cell? ⟨bp,0,none⟩ = some (.int .i64 p.k)∧Wz.cell? ⟨bp,1,none⟩ = some (.int .i64 p.p)∧Wz.cell? ⟨bp,2,none⟩ = some (.bool p.f)∧Wz.cell? ⟨bp,3,none⟩ = some (.int .i64 p.g)∧Wz.cell? ⟨bp,4,none⟩ = some (.slice p.A p.m p.c)∧Wz.cell? ⟨bp,5,none⟩ = some (.int .i64 p.a)∧Wz.cell? ⟨bp,6,none⟩ = some (.int .i64 p.h)∧Wz.cell? ⟨bp,7,none⟩ = some (.int .i64 p.d)∧Wz.cell? ⟨bp,8,none⟩ = some (.int .i64 p.t)∧Wz.cell? ⟨gn,oo + 1,none⟩ = some (.slice nA 2 nc)):=fun Wz KK=>(fun a z=>⟨a.1,a.2.1,a.2.2,z.e0,z.e1,z.e2,z.e3,z.e4,z.e5,z.e6,z.e7,z.e8,N1.out Wz (K6.out.trans KK)⟩) (DX.out Wz (K6.out.trans KK)) (PX.out Wz (K6.out.trans KK))
        refine wp_region_held_drew (S:=fun w'=>w'.cell? ⟨bx,0,none⟩ = some (.int .i64 x.d)∧w'.cell? ⟨bx,1,none⟩ = some (.slice (some ⟨gn,off,none⟩) x.n x.c)∧w'.cell? ⟨bx,2,none⟩ = some (.slice x.B x.m x.e)∧w'.cell? ⟨bp,0,none⟩ = some (.int .i64 p.k)∧w'.cell? ⟨bp,1,none⟩ = some (.int .i64 p.p)∧w'.cell? ⟨bp,2,none⟩ = some (.bool p.f)∧w'.cell? ⟨bp,3,none⟩ = some (.int .i64 p.g)∧w'.cell? ⟨bp,4,none⟩ = some (.slice p.A p.m p.c)∧w'.cell? ⟨bp,5,none⟩ = some (.int .i64 p.a)∧w'.cell? ⟨bp,6,none⟩ = some (.int .i64 p.h)∧w'.cell? ⟨bp,7,none⟩ = some (.int .i64 p.d)∧w'.cell? ⟨bp,8,none⟩ = some (.int .i64 p.t)∧w'.cell? ⟨gn,oo + 1,none⟩ = some (.slice nA 2 nc)) (by kernel_rfl) ?_ (fun hHeld=>?_)
        · exact HELD _ (by repeat (with_reducible first | exact Keep.refl w6 | apply Keep.alloc | apply Keep.drew | apply Keep.drewN))
        refine wpAnyH_take (i:=0) (v:=.pointer (some ⟨bx,1,none⟩)) rfl (by kernel_rfl) (by kernel_rfl) (by kernel_rfl) (fun _ _ _ h=>h) (Or.inl ⟨by rfl,fun Wz hW=>by obtain ⟨u0,u1,u2,u3,u4,u5,u6,u7,u8,u9,u10,u11,u12⟩:=hW;go_simp⟩) hHeld ?_
        simp only [Act.put,List.getElem_toArray,List.getElem_cons_zero,List.setIfInBounds_toArray,List.set_cons_zero,List.set_cons_succ]
        refine wpAnyH_take (i:=1) (v:=.slice (some ⟨gn,off,none⟩) x.n x.c) rfl (by kernel_rfl) (by kernel_rfl) (by kernel_rfl) (fun _ _ _ h=>h) (Or.inl ⟨by rfl,fun Wz hW=>by obtain ⟨u0,u1,u2,u3,u4,u5,u6,u7,u8,u9,u10,u11,u12⟩:=hW;go_simp⟩) hHeld ?_
        simp only [Act.put,List.getElem_toArray,List.getElem_cons_succ,List.getElem_cons_zero,List.setIfInBounds_toArray,List.set_cons_zero,List.set_cons_succ]
        refine wpAnyH_take (i:=2) (v:=.int .i64 i) rfl (by kernel_rfl) (by kernel_rfl) (by kernel_rfl) (fun _ _ _ h=>h) (Or.inl ⟨by rfl,fun Wz hW=>by obtain ⟨u0,u1,u2,u3,u4,u5,u6,u7,u8,u9,u10,u11,u12⟩:=hW;go_simp⟩) hHeld ?_
        simp only [Act.put,List.getElem_toArray,List.getElem_cons_succ,List.getElem_cons_zero,List.setIfInBounds_toArray,List.set_cons_zero,List.set_cons_succ]
        refine wpAnyH_take (i:=3) (v:=.pointer (some ⟨gn,oo,none⟩)) rfl (by kernel_rfl) (by kernel_rfl) (by kernel_rfl) (fun _ _ _ h=>h) (Or.inl ⟨by rfl,fun Wz hW=>by obtain ⟨u0,u1,u2,u3,u4,u5,u6,u7,u8,u9,u10,u11,u12⟩:=hW;go_simp⟩) hHeld ?_
        simp only [Act.put,List.getElem_toArray,List.getElem_cons_succ,List.getElem_cons_zero,List.setIfInBounds_toArray,List.set_cons_zero,List.set_cons_succ]
        refine wpAnyH_take (i:=4) (v:=.pointer (some ⟨gn,oo + 1,none⟩)) rfl (by kernel_rfl) (by kernel_rfl) (by kernel_rfl) (fun _ _ _ h=>h) (Or.inl ⟨by rfl,fun Wz hW=>by obtain ⟨u0,u1,u2,u3,u4,u5,u6,u7,u8,u9,u10,u11,u12⟩:=hW;go_simp⟩) hHeld ?_
        simp only [Act.put,List.getElem_toArray,List.getElem_cons_succ,List.getElem_cons_zero,List.setIfInBounds_toArray,List.set_cons_zero,List.set_cons_succ]
        refine wpAnyH_take (i:=5) (v:=.slice nA 2 nc) rfl (by kernel_rfl) (by kernel_rfl) (by kernel_rfl) (fun _ _ _ h=>h) (Or.inl ⟨by rfl,fun Wz hW=>by obtain ⟨u0,u1,u2,u3,u4,u5,u6,u7,u8,u9,u10,u11,u12⟩:=hW;go_simp⟩) hHeld ?_
        simp only [Act.put,List.getElem_toArray,List.getElem_cons_succ,List.getElem_cons_zero,List.setIfInBounds_toArray,List.set_cons_zero,List.set_cons_succ]
        refine wpAnyH_take (i:=6) (v:=.agg #[.int .i64 x.d,.slice (some ⟨gn,off,none⟩) x.n x.c,.slice x.B x.m x.e]) rfl (by kernel_rfl) (by kernel_rfl) (by kernel_rfl) (fun _ _ _ h=>h) (Or.inl ⟨by rfl,fun Wz hW=>by obtain ⟨u0,u1,u2,u3,u4,u5,u6,u7,u8,u9,u10,u11,u12⟩:=hW;go_simp⟩) hHeld ?_
        simp only [Act.put,List.getElem_toArray,List.getElem_cons_succ,List.getElem_cons_zero,List.setIfInBounds_toArray,List.set_cons_zero,List.set_cons_succ]
        refine wpAnyH_take (i:=7) (v:=.agg #[.int .i64 p.k,.int .i64 p.p,.bool p.f,.int .i64 p.g,.slice p.A p.m p.c,.int .i64 p.a,.int .i64 p.h,.int .i64 p.d,.int .i64 p.t]) rfl (by kernel_rfl) (by kernel_rfl) (by kernel_rfl) (fun _ _ _ h=>h) (Or.inl ⟨by rfl,fun Wz hW=>by obtain ⟨u0,u1,u2,u3,u4,u5,u6,u7,u8,u9,u10,u11,u12⟩:=hW;go_simp⟩) hHeld ?_
        simp only [Act.put,List.getElem_toArray,List.getElem_cons_succ,List.getElem_cons_zero,List.setIfInBounds_toArray,List.set_cons_zero,List.set_cons_succ]
        refine wpAnyH_take (i:=8) (v:=.int .i64 nd) rfl (by kernel_rfl) (by kernel_rfl) (by kernel_rfl) (fun _ _ _ h=>h) (Or.inl ⟨by rfl,fun Wz hW=>by obtain ⟨u0,u1,u2,u3,u4,u5,u6,u7,u8,u9,u10,u11,u12⟩:=hW;go_simp⟩) hHeld ?_
        simp only [Act.put,List.getElem_toArray,List.getElem_cons_succ,List.getElem_cons_zero,List.setIfInBounds_toArray,List.set_cons_zero,List.set_cons_succ]
        refine wpAnyH_ready (rs:=[9]) (by kernel_rfl) (by simp) ?_
        refine AllReadyH.cons rfl (fun K hK=>?_) AllReadyH.nil
        simp only [List.getElem_toArray,List.getElem_cons_succ,List.getElem_cons_zero]
        rw [if_pos (by rfl)]
        go_simp
        refine (cR.out _ (K6.out.trans (Keep.refl w6).drew)).mono ?_
        rintro e' w7 ⟨_,rfl,⟨B7,cB7,rfl,rB7⟩,k7⟩
        have J7:Hid (Keep w6 w7):=(Keep.refl w6).drew.trans k7
        have K7:Hid (Keep W3 w7):=K6.out.trans J7.out
        have cB7b:=Lib.hid (cB.out w7 B7 cB7 K7.out rB7)
        replace k7:=Lib.hid k7
        replace rB7:=Lib.hid rB7
        go_wp2_with fail
        refine hK.out _ _ ?_ (fun hHeld=>?_)
        · exact HELD _ J7.out
        clear hK K
        try simp only [Act.put,List.getElem_toArray,List.getElem_cons_succ,List.getElem_cons_zero,List.setIfInBounds_toArray,List.set_cons_zero,List.set_cons_succ]
        refine wpAnyH_ready (rs:=[10]) (by kernel_rfl) (by simp) ?_
        refine AllReadyH.cons rfl (fun K hK=>?_) AllReadyH.nil
        simp only [List.getElem_toArray,List.getElem_cons_succ,List.getElem_cons_zero]
        rw [if_pos (by rfl)]
        go_simp
        refine (cB7b.out).mono ?_
        rintro e' w8 ⟨wA,wc,rfl,rw8,k8⟩
        have J8:Hid (Keep w6 w8):=J7.out.trans k8
        have K8:Hid (Keep W3 w8):=K6.out.trans J8.out
        have rl8:=Lib.hid (rl6.out.keep J8.out)
        have rs8:=Lib.hid (rs6.out.keep J8.out)
        replace k8:=Lib.hid k8
        replace rw8:=Lib.hid rw8
        go_wp2_with fail
        refine hK.out _ _ ?_ (fun hHeld=>?_)
        · exact HELD _ J8.out
        clear hK K
        try simp only [Act.put,List.getElem_toArray,List.getElem_cons_succ,List.getElem_cons_zero,List.setIfInBounds_toArray,List.set_cons_zero,List.set_cons_succ]
        refine wpAnyH_take (i:=11) (v:=.tuple #[.slice wA (lnN lb 2) wc,.bool lb]) rfl (by kernel_rfl) (by kernel_rfl) (by kernel_rfl) (fun _ _ _ h=>h) (Or.inl ⟨by rfl,fun Wz hW=>by obtain ⟨u0,u1,u2,u3,u4,u5,u6,u7,u8,u9,u10,u11,u12⟩:=hW;go_simp⟩) hHeld ?_
        simp only [Act.put,List.getElem_toArray,List.getElem_cons_succ,List.getElem_cons_zero,List.setIfInBounds_toArray,List.set_cons_zero,List.set_cons_succ]
        refine wpAnyH_take (i:=12) (v:=.slice wA (lnN lb 2) wc) rfl (by kernel_rfl) (by kernel_rfl) (by kernel_rfl) (fun _ _ _ h=>h) (Or.inl ⟨by rfl,fun Wz hW=>by obtain ⟨u0,u1,u2,u3,u4,u5,u6,u7,u8,u9,u10,u11,u12⟩:=hW;go_simp⟩) hHeld ?_
        simp only [Act.put,List.getElem_toArray,List.getElem_cons_succ,List.getElem_cons_zero,List.setIfInBounds_toArray,List.set_cons_zero,List.set_cons_succ]
        refine wpAnyH_take (i:=13) (v:=.bool lb) rfl (by kernel_rfl) (by kernel_rfl) (by kernel_rfl) (fun _ _ _ h=>h) (Or.inl ⟨by rfl,fun Wz hW=>by obtain ⟨u0,u1,u2,u3,u4,u5,u6,u7,u8,u9,u10,u11,u12⟩:=hW;go_simp⟩) hHeld ?_
        simp only [Act.put,List.getElem_toArray,List.getElem_cons_succ,List.getElem_cons_zero,List.setIfInBounds_toArray,List.set_cons_zero,List.set_cons_succ]
        refine wpAnyH_take (i:=14) (v:=.slice wA (lnN lb 2) wc) rfl (by kernel_rfl) (by kernel_rfl) (by kernel_rfl) (fun _ _ _ h=>h) (Or.inl ⟨by rfl,fun Wz hW=>by obtain ⟨u0,u1,u2,u3,u4,u5,u6,u7,u8,u9,u10,u11,u12⟩:=hW;go_simp⟩) hHeld ?_
        simp only [Act.put,List.getElem_toArray,List.getElem_cons_succ,List.getElem_cons_zero,List.setIfInBounds_toArray,List.set_cons_zero,List.set_cons_succ]
        refine wpAnyH_take (i:=15) (v:=.bool lb) rfl (by kernel_rfl) (by kernel_rfl) (by kernel_rfl) (fun _ _ _ h=>h) (Or.inl ⟨by rfl,fun Wz hW=>by obtain ⟨u0,u1,u2,u3,u4,u5,u6,u7,u8,u9,u10,u11,u12⟩:=hW;go_simp⟩) hHeld ?_
        simp only [Act.put,List.getElem_toArray,List.getElem_cons_succ,List.getElem_cons_zero,List.setIfInBounds_toArray,List.set_cons_zero,List.set_cons_succ]
        refine wpAnyH_done (by kernel_rfl) ?_ _
        clear hHeld HELD
        have nb:(lb != lb) = false:=by cases lb <;> rfl
        have cm:=Lib.hid (row_same (⟨_,_,rfl,rl8.out⟩:Row w8 (.slice lA (lnN lb 2) lc) (lnN lb 2) _) (⟨_,_,rfl,rw8.out⟩:Row w8 (.slice wA (lnN lb 2) wc) (lnN lb 2) _) (same_self _ _))
        go_wp2_with fail
        refine cm.out.mono ?_
        rintro e' w9 ⟨rfl,k9⟩
        have K9:Hid (Keep W3 w9):=K8.out.trans k9
        have rs9:=Lib.hid (rs8.out.keep k9)
        replace k9:=Lib.hid k9
        clear cm rs8 rl8 rw8 nb
        obtain ⟨wv,hwv⟩:∃ z,z = wrongOf p.m p.Z (2:Nat):=⟨_,rfl⟩
        have cW:Hid (Calls Tryz.prog 20 #[.slice p.A p.m p.c,.int .i64 2] w9 fun e' w'=>e' = .returned (.int .i64 wv)∧w' = w9):=by rw [hwv];exact rwrong_any p.A p.m p.c p.Z 2 w9 (px0.out.keep (K3.out.trans K9.out)).rd
        have p4:=(PX.out w9 K9.out).e4
        by_cases hw:0≤wv
        · have hwb:decide (0≤wv) = true:=decide_eq_true hw
          obtain rfl:sb = false:=hsb.out.trans (decide_eq_false fun e=>e.2 (hwv ▸ hw))
          replace hw:=Lib.hid hw
          replace hwv:=Lib.hid hwv
          have l0:lnN false 2 = 0:=rfl
          rw [l0] at rs9
          go_wp2_with fail
          refine cW.out.mono ?_
          rintro e' w10 ⟨rfl,rfl⟩
          go_wp2
          go_ret
          exact ⟨rfl,K0.out.trans (K3.out.trans K9.out)⟩
        · have hwb:decide (0≤wv) = false:=decide_eq_false hw
          have hnw:Hid (¬ 0≤wrongOf p.m p.Z (2:Nat)):=by rw [← hwv];exact hw
          obtain rfl:sb = true:=hsb.out.trans (decide_eq_true ⟨hk.out,hnw.out⟩)
          obtain ⟨hpm,hpz⟩:=wrong_no hnw.out
          replace hpm:=Lib.hid hpm
          replace hpz:=Lib.hid hpz
          replace hw:=Lib.hid hw
          replace hwv:=Lib.hid hwv
          have l2:lnN true 2 = 2:=rfl
          rw [l2] at rs9
          go_wp2_with fail
          refine cW.out.mono ?_
          rintro e' w10 ⟨rfl,h10⟩
          rw [h10]
          clear h10 p4 cW
          obtain ⟨a0,a1,a2⟩:=DX.out w9 K9.out
          have X0:=PX.out w9 K9.out
          have p0:=X0.e0;have p1:=X0.e1;have p2:=X0.e2;have p3:=X0.e3;have p4:=X0.e4;have p5:=X0.e5;have p6:=X0.e6;have p7:=X0.e7;have p8:=X0.e8
          clear X0
          have cr:=Lib.hid (cR.out w9 K9.out)
          go_wp2_with fail
          clear p0 p1 p2 p3 p4 p5 p6 p7 p8 a0 a1 a2
          refine cr.out.mono ?_
          rintro e' w11 ⟨_,rfl,⟨uA,uc,rfl,ru⟩,k11⟩
          have K11:Hid (Keep W3 w11):=K9.out.trans k11
          have rs11:=Lib.hid (rs9.out.keep k11)
          replace k11:=Lib.hid k11
          replace ru:=Lib.hid ru
          clear cr rs9
          obtain ⟨sg,so,hsA,sc2⟩:=rs11.out.adr (by omega)
          obtain ⟨ug,uo,huA,uc2⟩:=ru.out.adr (by omega)
          obtain ⟨pg,po,hpA,pc2⟩:=((px0.out.keep (K3.out.trans K11.out)).rd).adr (by have:=hpm.out;omega)
          obtain ⟨cg,co,hcA,cc2⟩:=(nr.out.keep K11.out).adr (by omega)
          subst hsA huA
          have pxA:=Lib.hid hpA
          have nxA:=Lib.hid hcA
          rw [hcA] at N1
          have P4:Hid (∀ Wz,Keep W3 Wz→Wz.cell? ⟨bp,4,none⟩ = some (.slice (some ⟨pg,po,none⟩) 2 p.c)):=fun Wz kk=>by
            have h:=(PX.out Wz kk).e4
            rw [hpA,hpm.out] at h
            exact h
          have SC:Hid (∀ Wz,Keep w11 Wz→∀ j,j < 2→Wz.cell? ⟨sg,so + j,none⟩ = some (.int .i64 (shortZ p nd M L j))):=fun Wz kk j hj=>kk.cell (sc2 j hj)
          have UC:Hid (∀ Wz,Keep w11 Wz→∀ j,j < 2→Wz.cell? ⟨ug,uo + j,none⟩ = some (.int .i64 (ofZ no p nd M L j))):=fun Wz kk j hj=>kk.cell (uc2 j hj)
          have PC:Hid (∀ Wz,Keep w11 Wz→∀ j,j < 2→Wz.cell? ⟨pg,po + j,none⟩ = some (.int .i64 (p.Z j))):=fun Wz kk j hj=>kk.cell (pc2 j (by rw [hpm.out];exact hj))
          have CC:Hid (∀ Wz,Keep w11 Wz→∀ j,j < 2→Wz.cell? ⟨cg,co + j,none⟩ = some (.int .i64 ((nget M nd).C j))):=fun Wz kk j hj=>kk.cell (cc2 j hj)
          clear sc2 uc2 pc2 cc2 hpA hcA
          have RG:Hid (∀ j,j < 2→(0≤ofZ no p nd M L j∧ofZ no p nd M L j≤219902325555200)∧Amt (p.Z j)∧Amt ((nget M nd).C j)∧shortZ p nd M L j = max 0 (ofZ no p nd M L j + p.Z j - (nget M nd).C j)):=fun j hj=>by
            have eo:ofZ no p nd M L j = loadZ no p nd L j:=by unfold ofZ;rw [if_pos hk.out]
            rw [eo]
            exact ⟨loadL_bd (C.ok ST.out.o) l100.out no p nd hj,hpz.out j (by rw [hpm.out];exact hj),(C.ok ST.out.o).cap _ (getM hk.out).1 j hj,rfl⟩
          obtain ⟨sZ,hsZ⟩:∃ f,f = shortZ p nd M L:=⟨_,rfl⟩
          obtain ⟨uZ,huZ⟩:∃ f,f = ofZ no p nd M L:=⟨_,rfl⟩
          obtain ⟨cZ,hcZ⟩:∃ f,f = (nget M nd).C:=⟨_,rfl⟩
          obtain ⟨pZ,hpZ⟩:∃ f,f = p.Z:=⟨_,rfl⟩
          rw [← hsZ] at SC RG
          rw [← huZ] at UC RG
          rw [← hcZ] at CC RG
          rw [← hpZ] at PC RG
          replace hsZ:=Lib.hid hsZ
          replace huZ:=Lib.hid huZ
          replace hcZ:=Lib.hid hcZ
          replace hpZ:=Lib.hid hpZ
          have fbE:Hid (fitsM no p nd M L 2 = decide (sZ 0 = 0∧sZ 1 = 0)):=by show _ = _;rw [hsZ.out];exact fits_sho hk.out (by have:=hnw.out;omega)
          generalize hwo:w11 = wo at *
          clear hwo
          go_wp2
          go_loopg [18] 2 (fun gx s18 wr=>∃ j:Nat,j≤2∧gx = 2 - j∧s18 = .int .i64 j∧Hid (Keep wo wr))
          case atStart=>exact ⟨0,Nat.zero_le _,rfl,rfl,Keep.refl _⟩
          case round =>
            obtain ⟨j,hj,rfl,rfl,KR⟩:=hrel
            by_cases hlt:j < 2
            · have s1:=SC.out wr KR.out j hlt
              have u1:=UC.out wr KR.out j hlt
              have z1:=PC.out wr KR.out j hlt
              have c1:=CC.out wr KR.out j hlt
              have P4w:=P4.out wr (K11.out.trans KR.out)
              obtain ⟨a0,a1,a2⟩:=DX.out wr (K11.out.trans KR.out)
              have n1w:=N1.out wr (K11.out.trans KR.out)
              obtain ⟨g1,g2,g3,g4⟩:=RG.out j hlt
              obtain ⟨su,hsu⟩:∃ z,z = uZ j:=⟨_,rfl⟩
              obtain ⟨sz,hsz⟩:∃ z,z = pZ j:=⟨_,rfl⟩
              obtain ⟨sd,hsd⟩:∃ z,z = cZ j:=⟨_,rfl⟩
              obtain ⟨ss,hss⟩:∃ z,z = sZ j:=⟨_,rfl⟩
              rw [← hss] at s1 g4
              rw [← hsu] at u1 g1 g4
              rw [← hsz] at z1 g2 g4
              rw [← hsd] at c1 g3 g4
              unfold Amt at g2 g3
              have w1:wrap64 (su + sz) = su + sz:=IntWalk.wrap64_in _ (by omega)
              have w2:wrap64 (su + sz - sd) = su + sz - sd:=IntWalk.wrap64_in _ (by omega)
              have ne:(ss != max 0 (su + sz - sd)) = false:=by rw [g4];simp
              replace g4:=Lib.hid g4
              replace hsu:=Lib.hid hsu
              replace hsz:=Lib.hid hsz
              replace hsd:=Lib.hid hsd
              replace hss:=Lib.hid hss
              go_upto_region 20 with fail
              go_quiet (fail)
              have KN:Hid (Keep wo (wr.drewN nq)):=KR.out.drewN _
              go_wp2
              go_roundg (2 - (j + 1))
              case measure=>omega
              case rel=>exact ⟨j + 1,hlt,rfl,by go_num,KN.out⟩
            · obtain rfl:j = 2:=by omega
              replace hj:Hid (2≤2):=Nat.le_refl _
              have cF:Hid (∀ fb,fitsM no p nd M L 2 = fb→∀ Wz,Keep wo Wz→Calls Tryz.prog 14 #[.pointer (some ⟨q,0,none⟩),p.val,.int .i64 nd,.slice none 0 0] Wz fun e w'=>e = .returned (.bool fb)∧Keep Wz w'):=fun fb e Wz kk=>by
                have kz:=K11.out.trans kk
                rw [← e]
                exact F.fits p nd none 0 0 no (C.keep ST.out.o kz) (hg0.out.keep (K3.out.trans kz)) (px0.out.keep (K3.out.trans kz)) hnd.out (SetOf.nil _ _) (by omega) (by omega) pm.out m100.out l100.out
              obtain ⟨s0,hs0⟩:∃ z,z = sZ 0:=⟨_,rfl⟩
              obtain ⟨s1,hs1⟩:∃ z,z = sZ 1:=⟨_,rfl⟩
              have S0:Hid (∀ Wz,Keep wo Wz→Wz.cell? ⟨sg,so,none⟩ = some (.int .i64 s0)):=fun Wz kk=>by rw [hs0];exact SC.out Wz kk 0 (by omega)
              have S1:Hid (∀ Wz,Keep wo Wz→Wz.cell? ⟨sg,so + 1,none⟩ = some (.int .i64 s1)):=fun Wz kk=>by rw [hs1];exact SC.out Wz kk 1 (by omega)
              rw [← hs0,← hs1] at fbE
              replace hs0:=Lib.hid hs0
              replace hs1:=Lib.hid hs1
              unfold PodV.val at cF
              by_cases e0:s0 = 0
              · subst e0
                by_cases e1:s1 = 0
                · subst e1
                  have cF2:=Lib.hid (cF.out true (fbE.out.trans (decide_eq_true ⟨rfl,rfl⟩)))
                  go_upto_region 22 with fail
                  have HELD:∀ Wz,Keep wr Wz→(Wz.cell? ⟨bp,0,none⟩ = some (.int .i64 p.k)∧Wz.cell? ⟨bp,1,none⟩ = some (.int .i64 p.p)∧Wz.cell? ⟨bp,2,none⟩ = some (.bool p.f)∧Wz.cell? ⟨bp,3,none⟩ = some (.int .i64 p.g)∧Wz.cell? ⟨bp,4,none⟩ = some (.slice p.A p.m p.c)∧Wz.cell? ⟨bp,5,none⟩ = some (.int .i64 p.a)∧Wz.cell? ⟨bp,6,none⟩ = some (.int .i64 p.h)∧Wz.cell? ⟨bp,7,none⟩ = some (.int .i64 p.d)∧Wz.cell? ⟨bp,8,none⟩ = some (.int .i64 p.t)∧Wz.cell? ⟨sg,so,none⟩ = some (.int .i64 0)∧Wz.cell? ⟨sg,so + 1,none⟩ = some (.int .i64 0)):=fun Wz KK=>(fun z=>⟨z.e0,z.e1,z.e2,z.e3,z.e4,z.e5,z.e6,z.e7,z.e8,S0.out Wz (KR.out.trans KK),S1.out Wz (KR.out.trans KK)⟩) (PX.out Wz (K11.out.trans (KR.out.trans KK)))
                  refine wp_region_held_drew (S:=fun w'=>w'.cell? ⟨bp,0,none⟩ = some (.int .i64 p.k)∧w'.cell? ⟨bp,1,none⟩ = some (.int .i64 p.p)∧w'.cell? ⟨bp,2,none⟩ = some (.bool p.f)∧w'.cell? ⟨bp,3,none⟩ = some (.int .i64 p.g)∧w'.cell? ⟨bp,4,none⟩ = some (.slice p.A p.m p.c)∧w'.cell? ⟨bp,5,none⟩ = some (.int .i64 p.a)∧w'.cell? ⟨bp,6,none⟩ = some (.int .i64 p.h)∧w'.cell? ⟨bp,7,none⟩ = some (.int .i64 p.d)∧w'.cell? ⟨bp,8,none⟩ = some (.int .i64 p.t)∧w'.cell? ⟨sg,so,none⟩ = some (.int .i64 0)∧w'.cell? ⟨sg,so + 1,none⟩ = some (.int .i64 0)) (by kernel_rfl) ?_ (fun hHeld=>?_)
                  · exact HELD _ (by repeat (with_reducible first | exact Keep.refl wr | apply Keep.alloc | apply Keep.drew | apply Keep.drewN))
                  refine wpAnyH_take (i:=0) (v:=.pointer (some ⟨q,0,none⟩)) rfl (by kernel_rfl) (by kernel_rfl) (by kernel_rfl) (fun _ _ _ h=>h) (Or.inl ⟨by rfl,fun Wz hW=>by obtain ⟨u0,u1,u2,u3,u4,u5,u6,u7,u8,u9,u10⟩:=hW;go_simp⟩) hHeld ?_
                  simp only [Act.put,List.getElem_toArray,List.getElem_cons_zero,List.setIfInBounds_toArray,List.set_cons_zero,List.set_cons_succ]
                  refine wpAnyH_take (i:=1) (v:=.agg #[.int .i64 p.k,.int .i64 p.p,.bool p.f,.int .i64 p.g,.slice p.A p.m p.c,.int .i64 p.a,.int .i64 p.h,.int .i64 p.d,.int .i64 p.t]) rfl (by kernel_rfl) (by kernel_rfl) (by kernel_rfl) (fun _ _ _ h=>h) (Or.inl ⟨by rfl,fun Wz hW=>by obtain ⟨u0,u1,u2,u3,u4,u5,u6,u7,u8,u9,u10⟩:=hW;go_simp⟩) hHeld ?_
                  simp only [Act.put,List.getElem_toArray,List.getElem_cons_succ,List.getElem_cons_zero,List.setIfInBounds_toArray,List.set_cons_zero,List.set_cons_succ]
                  refine wpAnyH_take (i:=2) (v:=.int .i64 nd) rfl (by kernel_rfl) (by kernel_rfl) (by kernel_rfl) (fun _ _ _ h=>h) (Or.inl ⟨by rfl,fun Wz hW=>by obtain ⟨u0,u1,u2,u3,u4,u5,u6,u7,u8,u9,u10⟩:=hW;go_simp⟩) hHeld ?_
                  simp only [Act.put,List.getElem_toArray,List.getElem_cons_succ,List.getElem_cons_zero,List.setIfInBounds_toArray,List.set_cons_zero,List.set_cons_succ]
                  refine wpAnyH_take (i:=4) (v:=.slice (some ⟨sg,so,none⟩) 2 sc) rfl (by kernel_rfl) (by kernel_rfl) (by kernel_rfl) (fun _ _ _ h=>h) (Or.inl ⟨by rfl,fun Wz hW=>by obtain ⟨u0,u1,u2,u3,u4,u5,u6,u7,u8,u9,u10⟩:=hW;go_simp⟩) hHeld ?_
                  simp only [Act.put,List.getElem_toArray,List.getElem_cons_succ,List.getElem_cons_zero,List.setIfInBounds_toArray,List.set_cons_zero,List.set_cons_succ]
                  refine wpAnyH_take (i:=5) (v:=.pointer (some ⟨sg,so,none⟩)) rfl (by kernel_rfl) (by kernel_rfl) (by kernel_rfl) (fun _ _ _ h=>h) (Or.inl ⟨by rfl,fun Wz hW=>by obtain ⟨u0,u1,u2,u3,u4,u5,u6,u7,u8,u9,u10⟩:=hW;go_simp⟩) hHeld ?_
                  simp only [Act.put,List.getElem_toArray,List.getElem_cons_succ,List.getElem_cons_zero,List.setIfInBounds_toArray,List.set_cons_zero,List.set_cons_succ]
                  refine wpAnyH_take (i:=6) (v:=.int .i64 0) rfl (by kernel_rfl) (by kernel_rfl) (by kernel_rfl) (fun _ _ _ h=>h) (Or.inl ⟨by rfl,fun Wz hW=>by obtain ⟨u0,u1,u2,u3,u4,u5,u6,u7,u8,u9,u10⟩:=hW;go_simp⟩) hHeld ?_
                  simp only [Act.put,List.getElem_toArray,List.getElem_cons_succ,List.getElem_cons_zero,List.setIfInBounds_toArray,List.set_cons_zero,List.set_cons_succ]
                  refine wpAnyH_take (i:=7) (v:=.bool true) rfl (by kernel_rfl) (by kernel_rfl) (by kernel_rfl) (fun _ _ _ h=>h) (Or.inl ⟨by rfl,fun Wz hW=>by obtain ⟨u0,u1,u2,u3,u4,u5,u6,u7,u8,u9,u10⟩:=hW;go_simp⟩) hHeld ?_
                  simp only [Act.put,List.getElem_toArray,List.getElem_cons_succ,List.getElem_cons_zero,List.setIfInBounds_toArray,List.set_cons_zero,List.set_cons_succ]
                  refine wpAnyH_ready (rs:=[3]) (by kernel_rfl) (by simp) ?_
                  refine AllReadyH.cons rfl (fun K hK=>?_) AllReadyH.nil
                  simp only [List.getElem_toArray,List.getElem_cons_succ,List.getElem_cons_zero]
                  rw [if_pos (by rfl)]
                  go_simp
                  refine (cF2.out _ (KR.out.trans (Keep.refl wr).drew)).mono ?_
                  rintro e' wf ⟨rfl,kf⟩
                  have JF:Hid (Keep wr wf):=(Keep.refl wr).drew.trans kf
                  replace kf:=Lib.hid kf
                  go_wp2_with fail
                  refine hK.out _ _ ?_ (fun hHeld=>?_)
                  · exact HELD _ JF.out
                  clear hK K
                  try simp only [Act.put,List.getElem_toArray,List.getElem_cons_succ,List.getElem_cons_zero,List.setIfInBounds_toArray,List.set_cons_zero,List.set_cons_succ]
                  refine wpAnyH_take (i:=8) (v:=.bool true) rfl (by kernel_rfl) (by kernel_rfl) (by kernel_rfl) (fun _ _ _ h=>h) (Or.inl ⟨by rfl,fun Wz hW=>by obtain ⟨u0,u1,u2,u3,u4,u5,u6,u7,u8,u9,u10⟩:=hW;go_simp⟩) hHeld ?_
                  simp only [Act.put,List.getElem_toArray,List.getElem_cons_succ,List.getElem_cons_zero,List.setIfInBounds_toArray,List.set_cons_zero,List.set_cons_succ]
                  refine wpAnyH_take (i:=9) (v:=.slice (some ⟨sg,so,none⟩) 2 sc) rfl (by kernel_rfl) (by kernel_rfl) (by kernel_rfl) (fun _ _ _ h=>h) (Or.inl ⟨by rfl,fun Wz hW=>by obtain ⟨u0,u1,u2,u3,u4,u5,u6,u7,u8,u9,u10⟩:=hW;go_simp⟩) hHeld ?_
                  simp only [Act.put,List.getElem_toArray,List.getElem_cons_succ,List.getElem_cons_zero,List.setIfInBounds_toArray,List.set_cons_zero,List.set_cons_succ]
                  refine wpAnyH_take (i:=10) (v:=.pointer (some ⟨sg,so + 1,none⟩)) rfl (by kernel_rfl) (by kernel_rfl) (by kernel_rfl) (fun _ _ _ h=>h) (Or.inl ⟨by rfl,fun Wz hW=>by obtain ⟨u0,u1,u2,u3,u4,u5,u6,u7,u8,u9,u10⟩:=hW;go_simp⟩) hHeld ?_
                  simp only [Act.put,List.getElem_toArray,List.getElem_cons_succ,List.getElem_cons_zero,List.setIfInBounds_toArray,List.set_cons_zero,List.set_cons_succ]
                  refine wpAnyH_take (i:=11) (v:=.int .i64 0) rfl (by kernel_rfl) (by kernel_rfl) (by kernel_rfl) (fun _ _ _ h=>h) (Or.inl ⟨by rfl,fun Wz hW=>by obtain ⟨u0,u1,u2,u3,u4,u5,u6,u7,u8,u9,u10⟩:=hW;go_simp⟩) hHeld ?_
                  simp only [Act.put,List.getElem_toArray,List.getElem_cons_succ,List.getElem_cons_zero,List.setIfInBounds_toArray,List.set_cons_zero,List.set_cons_succ]
                  refine wpAnyH_take (i:=12) (v:=.bool true) rfl (by kernel_rfl) (by kernel_rfl) (by kernel_rfl) (fun _ _ _ h=>h) (Or.inl ⟨by rfl,fun Wz hW=>by obtain ⟨u0,u1,u2,u3,u4,u5,u6,u7,u8,u9,u10⟩:=hW;go_simp⟩) hHeld ?_
                  simp only [Act.put,List.getElem_toArray,List.getElem_cons_succ,List.getElem_cons_zero,List.setIfInBounds_toArray,List.set_cons_zero,List.set_cons_succ]
                  refine wpAnyH_take (i:=13) (v:=.bool true) rfl (by kernel_rfl) (by kernel_rfl) (by kernel_rfl) (fun _ _ _ h=>h) (Or.inl ⟨by rfl,fun Wz hW=>by obtain ⟨u0,u1,u2,u3,u4,u5,u6,u7,u8,u9,u10⟩:=hW;go_simp⟩) hHeld ?_
                  simp only [Act.put,List.getElem_toArray,List.getElem_cons_succ,List.getElem_cons_zero,List.setIfInBounds_toArray,List.set_cons_zero,List.set_cons_succ]
                  refine wpAnyH_take (i:=14) (v:=.bool true) rfl (by kernel_rfl) (by kernel_rfl) (by kernel_rfl) (fun _ _ _ h=>h) (Or.inl ⟨by rfl,fun Wz hW=>by obtain ⟨u0,u1,u2,u3,u4,u5,u6,u7,u8,u9,u10⟩:=hW;go_simp⟩) hHeld ?_
                  simp only [Act.put,List.getElem_toArray,List.getElem_cons_succ,List.getElem_cons_zero,List.setIfInBounds_toArray,List.set_cons_zero,List.set_cons_succ]
                  refine wpAnyH_take (i:=15) (v:=.bool true) rfl (by kernel_rfl) (by kernel_rfl) (by kernel_rfl) (fun _ _ _ h=>h) (Or.inl ⟨by rfl,fun Wz hW=>by obtain ⟨u0,u1,u2,u3,u4,u5,u6,u7,u8,u9,u10⟩:=hW;go_simp⟩) hHeld ?_
                  simp only [Act.put,List.getElem_toArray,List.getElem_cons_succ,List.getElem_cons_zero,List.setIfInBounds_toArray,List.set_cons_zero,List.set_cons_succ]
                  refine wpAnyH_done (by kernel_rfl) ?_ _
                  clear hHeld HELD
                  go_wp2
                  go_ret
                  exact ⟨rfl,K0.out.trans (K3.out.trans (K11.out.trans (KR.out.trans JF.out)))⟩
                · have ne1:(s1 == 0) = false:=by simp [e1]
                  have cF2:=Lib.hid (cF.out false (fbE.out.trans (decide_eq_false fun h=>e1 h.2)))
                  replace e1:Hid (¬ s1 = 0):=e1
                  go_upto_region 22 with fail
                  have HELD:∀ Wz,Keep wr Wz→(Wz.cell? ⟨bp,0,none⟩ = some (.int .i64 p.k)∧Wz.cell? ⟨bp,1,none⟩ = some (.int .i64 p.p)∧Wz.cell? ⟨bp,2,none⟩ = some (.bool p.f)∧Wz.cell? ⟨bp,3,none⟩ = some (.int .i64 p.g)∧Wz.cell? ⟨bp,4,none⟩ = some (.slice p.A p.m p.c)∧Wz.cell? ⟨bp,5,none⟩ = some (.int .i64 p.a)∧Wz.cell? ⟨bp,6,none⟩ = some (.int .i64 p.h)∧Wz.cell? ⟨bp,7,none⟩ = some (.int .i64 p.d)∧Wz.cell? ⟨bp,8,none⟩ = some (.int .i64 p.t)∧Wz.cell? ⟨sg,so,none⟩ = some (.int .i64 0)∧Wz.cell? ⟨sg,so + 1,none⟩ = some (.int .i64 s1)):=fun Wz KK=>(fun z=>⟨z.e0,z.e1,z.e2,z.e3,z.e4,z.e5,z.e6,z.e7,z.e8,S0.out Wz (KR.out.trans KK),S1.out Wz (KR.out.trans KK)⟩) (PX.out Wz (K11.out.trans (KR.out.trans KK)))
                  refine wp_region_held_drew (S:=fun w'=>w'.cell? ⟨bp,0,none⟩ = some (.int .i64 p.k)∧w'.cell? ⟨bp,1,none⟩ = some (.int .i64 p.p)∧w'.cell? ⟨bp,2,none⟩ = some (.bool p.f)∧w'.cell? ⟨bp,3,none⟩ = some (.int .i64 p.g)∧w'.cell? ⟨bp,4,none⟩ = some (.slice p.A p.m p.c)∧w'.cell? ⟨bp,5,none⟩ = some (.int .i64 p.a)∧w'.cell? ⟨bp,6,none⟩ = some (.int .i64 p.h)∧w'.cell? ⟨bp,7,none⟩ = some (.int .i64 p.d)∧w'.cell? ⟨bp,8,none⟩ = some (.int .i64 p.t)∧w'.cell? ⟨sg,so,none⟩ = some (.int .i64 0)∧w'.cell? ⟨sg,so + 1,none⟩ = some (.int .i64 s1)) (by kernel_rfl) ?_ (fun hHeld=>?_)
                  · exact HELD _ (by repeat (with_reducible first | exact Keep.refl wr | apply Keep.alloc | apply Keep.drew | apply Keep.drewN))
                  refine wpAnyH_take (i:=0) (v:=.pointer (some ⟨q,0,none⟩)) rfl (by kernel_rfl) (by kernel_rfl) (by kernel_rfl) (fun _ _ _ h=>h) (Or.inl ⟨by rfl,fun Wz hW=>by obtain ⟨u0,u1,u2,u3,u4,u5,u6,u7,u8,u9,u10⟩:=hW;go_simp⟩) hHeld ?_
                  simp only [Act.put,List.getElem_toArray,List.getElem_cons_zero,List.setIfInBounds_toArray,List.set_cons_zero,List.set_cons_succ]
                  refine wpAnyH_take (i:=1) (v:=.agg #[.int .i64 p.k,.int .i64 p.p,.bool p.f,.int .i64 p.g,.slice p.A p.m p.c,.int .i64 p.a,.int .i64 p.h,.int .i64 p.d,.int .i64 p.t]) rfl (by kernel_rfl) (by kernel_rfl) (by kernel_rfl) (fun _ _ _ h=>h) (Or.inl ⟨by rfl,fun Wz hW=>by obtain ⟨u0,u1,u2,u3,u4,u5,u6,u7,u8,u9,u10⟩:=hW;go_simp⟩) hHeld ?_
                  simp only [Act.put,List.getElem_toArray,List.getElem_cons_succ,List.getElem_cons_zero,List.setIfInBounds_toArray,List.set_cons_zero,List.set_cons_succ]
                  refine wpAnyH_take (i:=2) (v:=.int .i64 nd) rfl (by kernel_rfl) (by kernel_rfl) (by kernel_rfl) (fun _ _ _ h=>h) (Or.inl ⟨by rfl,fun Wz hW=>by obtain ⟨u0,u1,u2,u3,u4,u5,u6,u7,u8,u9,u10⟩:=hW;go_simp⟩) hHeld ?_
                  simp only [Act.put,List.getElem_toArray,List.getElem_cons_succ,List.getElem_cons_zero,List.setIfInBounds_toArray,List.set_cons_zero,List.set_cons_succ]
                  refine wpAnyH_take (i:=4) (v:=.slice (some ⟨sg,so,none⟩) 2 sc) rfl (by kernel_rfl) (by kernel_rfl) (by kernel_rfl) (fun _ _ _ h=>h) (Or.inl ⟨by rfl,fun Wz hW=>by obtain ⟨u0,u1,u2,u3,u4,u5,u6,u7,u8,u9,u10⟩:=hW;go_simp⟩) hHeld ?_
                  simp only [Act.put,List.getElem_toArray,List.getElem_cons_succ,List.getElem_cons_zero,List.setIfInBounds_toArray,List.set_cons_zero,List.set_cons_succ]
                  refine wpAnyH_take (i:=5) (v:=.pointer (some ⟨sg,so,none⟩)) rfl (by kernel_rfl) (by kernel_rfl) (by kernel_rfl) (fun _ _ _ h=>h) (Or.inl ⟨by rfl,fun Wz hW=>by obtain ⟨u0,u1,u2,u3,u4,u5,u6,u7,u8,u9,u10⟩:=hW;go_simp⟩) hHeld ?_
                  simp only [Act.put,List.getElem_toArray,List.getElem_cons_succ,List.getElem_cons_zero,List.setIfInBounds_toArray,List.set_cons_zero,List.set_cons_succ]
                  refine wpAnyH_take (i:=6) (v:=.int .i64 0) rfl (by kernel_rfl) (by kernel_rfl) (by kernel_rfl) (fun _ _ _ h=>h) (Or.inl ⟨by rfl,fun Wz hW=>by obtain ⟨u0,u1,u2,u3,u4,u5,u6,u7,u8,u9,u10⟩:=hW;go_simp⟩) hHeld ?_
                  simp only [Act.put,List.getElem_toArray,List.getElem_cons_succ,List.getElem_cons_zero,List.setIfInBounds_toArray,List.set_cons_zero,List.set_cons_succ]
                  refine wpAnyH_take (i:=7) (v:=.bool true) rfl (by kernel_rfl) (by kernel_rfl) (by kernel_rfl) (fun _ _ _ h=>h) (Or.inl ⟨by rfl,fun Wz hW=>by obtain ⟨u0,u1,u2,u3,u4,u5,u6,u7,u8,u9,u10⟩:=hW;go_simp⟩) hHeld ?_
                  simp only [Act.put,List.getElem_toArray,List.getElem_cons_succ,List.getElem_cons_zero,List.setIfInBounds_toArray,List.set_cons_zero,List.set_cons_succ]
                  refine wpAnyH_ready (rs:=[3]) (by kernel_rfl) (by simp) ?_
                  refine AllReadyH.cons rfl (fun K hK=>?_) AllReadyH.nil
                  simp only [List.getElem_toArray,List.getElem_cons_succ,List.getElem_cons_zero]
                  rw [if_pos (by rfl)]
                  go_simp
                  refine (cF2.out _ (KR.out.trans (Keep.refl wr).drew)).mono ?_
                  rintro e' wf ⟨rfl,kf⟩
                  have JF:Hid (Keep wr wf):=(Keep.refl wr).drew.trans kf
                  replace kf:=Lib.hid kf
                  go_wp2_with fail
                  refine hK.out _ _ ?_ (fun hHeld=>?_)
                  · exact HELD _ JF.out
                  clear hK K
                  try simp only [Act.put,List.getElem_toArray,List.getElem_cons_succ,List.getElem_cons_zero,List.setIfInBounds_toArray,List.set_cons_zero,List.set_cons_succ]
                  refine wpAnyH_take (i:=8) (v:=.bool true) rfl (by kernel_rfl) (by kernel_rfl) (by kernel_rfl) (fun _ _ _ h=>h) (Or.inl ⟨by rfl,fun Wz hW=>by obtain ⟨u0,u1,u2,u3,u4,u5,u6,u7,u8,u9,u10⟩:=hW;go_simp⟩) hHeld ?_
                  simp only [Act.put,List.getElem_toArray,List.getElem_cons_succ,List.getElem_cons_zero,List.setIfInBounds_toArray,List.set_cons_zero,List.set_cons_succ]
                  refine wpAnyH_take (i:=9) (v:=.slice (some ⟨sg,so,none⟩) 2 sc) rfl (by kernel_rfl) (by kernel_rfl) (by kernel_rfl) (fun _ _ _ h=>h) (Or.inl ⟨by rfl,fun Wz hW=>by obtain ⟨u0,u1,u2,u3,u4,u5,u6,u7,u8,u9,u10⟩:=hW;go_simp⟩) hHeld ?_
                  simp only [Act.put,List.getElem_toArray,List.getElem_cons_succ,List.getElem_cons_zero,List.setIfInBounds_toArray,List.set_cons_zero,List.set_cons_succ]
                  refine wpAnyH_take (i:=10) (v:=.pointer (some ⟨sg,so + 1,none⟩)) rfl (by kernel_rfl) (by kernel_rfl) (by kernel_rfl) (fun _ _ _ h=>h) (Or.inl ⟨by rfl,fun Wz hW=>by obtain ⟨u0,u1,u2,u3,u4,u5,u6,u7,u8,u9,u10⟩:=hW;go_simp⟩) hHeld ?_
                  simp only [Act.put,List.getElem_toArray,List.getElem_cons_succ,List.getElem_cons_zero,List.setIfInBounds_toArray,List.set_cons_zero,List.set_cons_succ]
                  refine wpAnyH_take (i:=11) (v:=.int .i64 s1) rfl (by kernel_rfl) (by kernel_rfl) (by kernel_rfl) (fun _ _ _ h=>h) (Or.inl ⟨by rfl,fun Wz hW=>by obtain ⟨u0,u1,u2,u3,u4,u5,u6,u7,u8,u9,u10⟩:=hW;go_simp⟩) hHeld ?_
                  simp only [Act.put,List.getElem_toArray,List.getElem_cons_succ,List.getElem_cons_zero,List.setIfInBounds_toArray,List.set_cons_zero,List.set_cons_succ]
                  refine wpAnyH_take (i:=12) (v:=.bool false) rfl (by kernel_rfl) (by kernel_rfl) (by kernel_rfl) (fun _ _ _ h=>h) (Or.inl ⟨by rfl,fun Wz hW=>by obtain ⟨u0,u1,u2,u3,u4,u5,u6,u7,u8,u9,u10⟩:=hW;go_simp⟩) hHeld ?_
                  simp only [Act.put,List.getElem_toArray,List.getElem_cons_succ,List.getElem_cons_zero,List.setIfInBounds_toArray,List.set_cons_zero,List.set_cons_succ]
                  refine wpAnyH_take (i:=13) (v:=.bool false) rfl (by kernel_rfl) (by kernel_rfl) (by kernel_rfl) (fun _ _ _ h=>h) (Or.inl ⟨by rfl,fun Wz hW=>by obtain ⟨u0,u1,u2,u3,u4,u5,u6,u7,u8,u9,u10⟩:=hW;go_simp⟩) hHeld ?_
                  simp only [Act.put,List.getElem_toArray,List.getElem_cons_succ,List.getElem_cons_zero,List.setIfInBounds_toArray,List.set_cons_zero,List.set_cons_succ]
                  refine wpAnyH_take (i:=14) (v:=.bool true) rfl (by kernel_rfl) (by kernel_rfl) (by kernel_rfl) (fun _ _ _ h=>h) (Or.inl ⟨by rfl,fun Wz hW=>by obtain ⟨u0,u1,u2,u3,u4,u5,u6,u7,u8,u9,u10⟩:=hW;go_simp⟩) hHeld ?_
                  simp only [Act.put,List.getElem_toArray,List.getElem_cons_succ,List.getElem_cons_zero,List.setIfInBounds_toArray,List.set_cons_zero,List.set_cons_succ]
                  refine wpAnyH_take (i:=15) (v:=.bool true) rfl (by kernel_rfl) (by kernel_rfl) (by kernel_rfl) (fun _ _ _ h=>h) (Or.inl ⟨by rfl,fun Wz hW=>by obtain ⟨u0,u1,u2,u3,u4,u5,u6,u7,u8,u9,u10⟩:=hW;go_simp⟩) hHeld ?_
                  simp only [Act.put,List.getElem_toArray,List.getElem_cons_succ,List.getElem_cons_zero,List.setIfInBounds_toArray,List.set_cons_zero,List.set_cons_succ]
                  refine wpAnyH_done (by kernel_rfl) ?_ _
                  clear hHeld HELD
                  go_wp2
                  go_ret
                  exact ⟨rfl,K0.out.trans (K3.out.trans (K11.out.trans (KR.out.trans JF.out)))⟩
              · have ne0:(s0 == 0) = false:=by simp [e0]
                have cF2:=Lib.hid (cF.out false (fbE.out.trans (decide_eq_false fun h=>e0 h.1)))
                replace e0:Hid (¬ s0 = 0):=e0
                go_upto_region 22 with fail
                have HELD:∀ Wz,Keep wr Wz→(Wz.cell? ⟨bp,0,none⟩ = some (.int .i64 p.k)∧Wz.cell? ⟨bp,1,none⟩ = some (.int .i64 p.p)∧Wz.cell? ⟨bp,2,none⟩ = some (.bool p.f)∧Wz.cell? ⟨bp,3,none⟩ = some (.int .i64 p.g)∧Wz.cell? ⟨bp,4,none⟩ = some (.slice p.A p.m p.c)∧Wz.cell? ⟨bp,5,none⟩ = some (.int .i64 p.a)∧Wz.cell? ⟨bp,6,none⟩ = some (.int .i64 p.h)∧Wz.cell? ⟨bp,7,none⟩ = some (.int .i64 p.d)∧Wz.cell? ⟨bp,8,none⟩ = some (.int .i64 p.t)∧Wz.cell? ⟨sg,so,none⟩ = some (.int .i64 s0)∧Wz.cell? ⟨sg,so + 1,none⟩ = some (.int .i64 s1)):=fun Wz KK=>(fun z=>⟨z.e0,z.e1,z.e2,z.e3,z.e4,z.e5,z.e6,z.e7,z.e8,S0.out Wz (KR.out.trans KK),S1.out Wz (KR.out.trans KK)⟩) (PX.out Wz (K11.out.trans (KR.out.trans KK)))
                refine wp_region_held_drew (S:=fun w'=>w'.cell? ⟨bp,0,none⟩ = some (.int .i64 p.k)∧w'.cell? ⟨bp,1,none⟩ = some (.int .i64 p.p)∧w'.cell? ⟨bp,2,none⟩ = some (.bool p.f)∧w'.cell? ⟨bp,3,none⟩ = some (.int .i64 p.g)∧w'.cell? ⟨bp,4,none⟩ = some (.slice p.A p.m p.c)∧w'.cell? ⟨bp,5,none⟩ = some (.int .i64 p.a)∧w'.cell? ⟨bp,6,none⟩ = some (.int .i64 p.h)∧w'.cell? ⟨bp,7,none⟩ = some (.int .i64 p.d)∧w'.cell? ⟨bp,8,none⟩ = some (.int .i64 p.t)∧w'.cell? ⟨sg,so,none⟩ = some (.int .i64 s0)∧w'.cell? ⟨sg,so + 1,none⟩ = some (.int .i64 s1)) (by kernel_rfl) ?_ (fun hHeld=>?_)
                · exact HELD _ (by repeat (with_reducible first | exact Keep.refl wr | apply Keep.alloc | apply Keep.drew | apply Keep.drewN))
                refine wpAnyH_take (i:=0) (v:=.pointer (some ⟨q,0,none⟩)) rfl (by kernel_rfl) (by kernel_rfl) (by kernel_rfl) (fun _ _ _ h=>h) (Or.inl ⟨by rfl,fun Wz hW=>by obtain ⟨u0,u1,u2,u3,u4,u5,u6,u7,u8,u9,u10⟩:=hW;go_simp⟩) hHeld ?_
                simp only [Act.put,List.getElem_toArray,List.getElem_cons_zero,List.setIfInBounds_toArray,List.set_cons_zero,List.set_cons_succ]
                refine wpAnyH_take (i:=1) (v:=.agg #[.int .i64 p.k,.int .i64 p.p,.bool p.f,.int .i64 p.g,.slice p.A p.m p.c,.int .i64 p.a,.int .i64 p.h,.int .i64 p.d,.int .i64 p.t]) rfl (by kernel_rfl) (by kernel_rfl) (by kernel_rfl) (fun _ _ _ h=>h) (Or.inl ⟨by rfl,fun Wz hW=>by obtain ⟨u0,u1,u2,u3,u4,u5,u6,u7,u8,u9,u10⟩:=hW;go_simp⟩) hHeld ?_
                simp only [Act.put,List.getElem_toArray,List.getElem_cons_succ,List.getElem_cons_zero,List.setIfInBounds_toArray,List.set_cons_zero,List.set_cons_succ]
                refine wpAnyH_take (i:=2) (v:=.int .i64 nd) rfl (by kernel_rfl) (by kernel_rfl) (by kernel_rfl) (fun _ _ _ h=>h) (Or.inl ⟨by rfl,fun Wz hW=>by obtain ⟨u0,u1,u2,u3,u4,u5,u6,u7,u8,u9,u10⟩:=hW;go_simp⟩) hHeld ?_
                simp only [Act.put,List.getElem_toArray,List.getElem_cons_succ,List.getElem_cons_zero,List.setIfInBounds_toArray,List.set_cons_zero,List.set_cons_succ]
                refine wpAnyH_take (i:=4) (v:=.slice (some ⟨sg,so,none⟩) 2 sc) rfl (by kernel_rfl) (by kernel_rfl) (by kernel_rfl) (fun _ _ _ h=>h) (Or.inl ⟨by rfl,fun Wz hW=>by obtain ⟨u0,u1,u2,u3,u4,u5,u6,u7,u8,u9,u10⟩:=hW;go_simp⟩) hHeld ?_
                simp only [Act.put,List.getElem_toArray,List.getElem_cons_succ,List.getElem_cons_zero,List.setIfInBounds_toArray,List.set_cons_zero,List.set_cons_succ]
                refine wpAnyH_take (i:=5) (v:=.pointer (some ⟨sg,so,none⟩)) rfl (by kernel_rfl) (by kernel_rfl) (by kernel_rfl) (fun _ _ _ h=>h) (Or.inl ⟨by rfl,fun Wz hW=>by obtain ⟨u0,u1,u2,u3,u4,u5,u6,u7,u8,u9,u10⟩:=hW;go_simp⟩) hHeld ?_
                simp only [Act.put,List.getElem_toArray,List.getElem_cons_succ,List.getElem_cons_zero,List.setIfInBounds_toArray,List.set_cons_zero,List.set_cons_succ]
                refine wpAnyH_take (i:=6) (v:=.int .i64 s0) rfl (by kernel_rfl) (by kernel_rfl) (by kernel_rfl) (fun _ _ _ h=>h) (Or.inl ⟨by rfl,fun Wz hW=>by obtain ⟨u0,u1,u2,u3,u4,u5,u6,u7,u8,u9,u10⟩:=hW;go_simp⟩) hHeld ?_
                simp only [Act.put,List.getElem_toArray,List.getElem_cons_succ,List.getElem_cons_zero,List.setIfInBounds_toArray,List.set_cons_zero,List.set_cons_succ]
                refine wpAnyH_take (i:=7) (v:=.bool false) rfl (by kernel_rfl) (by kernel_rfl) (by kernel_rfl) (fun _ _ _ h=>h) (Or.inl ⟨by rfl,fun Wz hW=>by obtain ⟨u0,u1,u2,u3,u4,u5,u6,u7,u8,u9,u10⟩:=hW;go_simp⟩) hHeld ?_
                simp only [Act.put,List.getElem_toArray,List.getElem_cons_succ,List.getElem_cons_zero,List.setIfInBounds_toArray,List.set_cons_zero,List.set_cons_succ]
                refine wpAnyH_ready (rs:=[3]) (by kernel_rfl) (by simp) ?_
                refine AllReadyH.cons rfl (fun K hK=>?_) AllReadyH.nil
                simp only [List.getElem_toArray,List.getElem_cons_succ,List.getElem_cons_zero]
                rw [if_pos (by rfl)]
                go_simp
                refine (cF2.out _ (KR.out.trans (Keep.refl wr).drew)).mono ?_
                rintro e' wf ⟨rfl,kf⟩
                have JF:Hid (Keep wr wf):=(Keep.refl wr).drew.trans kf
                replace kf:=Lib.hid kf
                go_wp2_with fail
                refine hK.out _ _ ?_ (fun hHeld=>?_)
                · exact HELD _ JF.out
                clear hK K
                try simp only [Act.put,List.getElem_toArray,List.getElem_cons_succ,List.getElem_cons_zero,List.setIfInBounds_toArray,List.set_cons_zero,List.set_cons_succ]
                refine wpAnyH_take (i:=8) (v:=.bool false) rfl (by kernel_rfl) (by kernel_rfl) (by kernel_rfl) (fun _ _ _ h=>h) (Or.inl ⟨by rfl,fun Wz hW=>by obtain ⟨u0,u1,u2,u3,u4,u5,u6,u7,u8,u9,u10⟩:=hW;go_simp⟩) hHeld ?_
                simp only [Act.put,List.getElem_toArray,List.getElem_cons_succ,List.getElem_cons_zero,List.setIfInBounds_toArray,List.set_cons_zero,List.set_cons_succ]
                refine wpAnyH_take (i:=9) (v:=undef) rfl (by kernel_rfl) (by kernel_rfl) (by kernel_rfl) (fun _ _ _ h=>h) (Or.inr ⟨by rfl,rfl⟩) hHeld ?_
                simp only [Act.put,List.getElem_toArray,List.getElem_cons_succ,List.getElem_cons_zero,List.setIfInBounds_toArray,List.set_cons_zero,List.set_cons_succ]
                refine wpAnyH_take (i:=10) (v:=undef) rfl (by kernel_rfl) (by kernel_rfl) (by kernel_rfl) (fun _ _ _ h=>h) (Or.inr ⟨by rfl,rfl⟩) hHeld ?_
                simp only [Act.put,List.getElem_toArray,List.getElem_cons_succ,List.getElem_cons_zero,List.setIfInBounds_toArray,List.set_cons_zero,List.set_cons_succ]
                refine wpAnyH_take (i:=11) (v:=undef) rfl (by kernel_rfl) (by kernel_rfl) (by kernel_rfl) (fun _ _ _ h=>h) (Or.inr ⟨by rfl,rfl⟩) hHeld ?_
                simp only [Act.put,List.getElem_toArray,List.getElem_cons_succ,List.getElem_cons_zero,List.setIfInBounds_toArray,List.set_cons_zero,List.set_cons_succ]
                refine wpAnyH_take (i:=12) (v:=undef) rfl (by kernel_rfl) (by kernel_rfl) (by kernel_rfl) (fun _ _ _ h=>h) (Or.inr ⟨by rfl,rfl⟩) hHeld ?_
                simp only [Act.put,List.getElem_toArray,List.getElem_cons_succ,List.getElem_cons_zero,List.setIfInBounds_toArray,List.set_cons_zero,List.set_cons_succ]
                refine wpAnyH_take (i:=13) (v:=.bool false) rfl (by kernel_rfl) (by kernel_rfl) (by kernel_rfl) (fun _ _ _ h=>h) (Or.inl ⟨by rfl,fun Wz hW=>by obtain ⟨u0,u1,u2,u3,u4,u5,u6,u7,u8,u9,u10⟩:=hW;go_simp⟩) hHeld ?_
                simp only [Act.put,List.getElem_toArray,List.getElem_cons_succ,List.getElem_cons_zero,List.setIfInBounds_toArray,List.set_cons_zero,List.set_cons_succ]
                refine wpAnyH_take (i:=14) (v:=.bool true) rfl (by kernel_rfl) (by kernel_rfl) (by kernel_rfl) (fun _ _ _ h=>h) (Or.inl ⟨by rfl,fun Wz hW=>by obtain ⟨u0,u1,u2,u3,u4,u5,u6,u7,u8,u9,u10⟩:=hW;go_simp⟩) hHeld ?_
                simp only [Act.put,List.getElem_toArray,List.getElem_cons_succ,List.getElem_cons_zero,List.setIfInBounds_toArray,List.set_cons_zero,List.set_cons_succ]
                refine wpAnyH_take (i:=15) (v:=.bool true) rfl (by kernel_rfl) (by kernel_rfl) (by kernel_rfl) (fun _ _ _ h=>h) (Or.inl ⟨by rfl,fun Wz hW=>by obtain ⟨u0,u1,u2,u3,u4,u5,u6,u7,u8,u9,u10⟩:=hW;go_simp⟩) hHeld ?_
                simp only [Act.put,List.getElem_toArray,List.getElem_cons_succ,List.getElem_cons_zero,List.setIfInBounds_toArray,List.set_cons_zero,List.set_cons_succ]
                refine wpAnyH_done (by kernel_rfl) ?_ _
                clear hHeld HELD
                go_wp2
                go_ret
                exact ⟨rfl,K0.out.trans (K3.out.trans (K11.out.trans (KR.out.trans JF.out)))⟩
      · have hneg:fi < 0:=by rw [hfi.out];exact node_no ST.out.em hk
        have hneg:decide (fi < 0) = true:=decide_eq_true hneg
        obtain rfl:lb = false:=hlb.out.trans (decide_eq_false fun e=>hk e.1)
        obtain rfl:sb = false:=hsb.out.trans (decide_eq_false fun e=>hk e.1)
        replace hk:Hid (nd ∉ nk M):=hk
        have l0:lnN false 2 = 0:=rfl
        rw [l0]
        rw [l0] at rl6 rs6
        clear l0
        go_wp2
        go_ret
        exact ⟨rfl,K0.out.trans (K3.out.trans K6.out)⟩
end Go.Proofs.YtclfbplbccehkaaGreatDoor.T16

