/-
  load.compared, Fits, Left, Short; the contracts of package load over the program. Conditions: at most 100 nodes and pods, the dimension is at most 64.
-/
import Derived.Test.YtihjgcibpfajkaaGreatDoorD42
import Derived.Test.YtihjgcibpfajkaaGreatDoorD24
namespace Go.Proofs.YtihjgcibpfajkaaGreatDoor.T16
open Go.RowKit Go.Sort Go.Lib V12 T13 T14 T15
theorem zhu{p:zaa}{nd:Int}{M:List NV}{d:Nat}:zcw p nd M d=true↔nd∈nk M∧¬0≤zae p.m p.Z d:=decide_eq_true_iff
theorem zdf(w:World)(p:zaa):∃ W,W=w.alloc (.cells (zab p) 26)∧Hid (Keep w W)∧Hid (W.heap[w.heap.size]?=some (.cells (zab p) 26 (0,0))):=⟨_,rfl,Keep.one _ _,heap_alloc_new _ _⟩
theorem zmp(w:World)(k:Int)(A:Option Addr)(n c:Nat):∃ W,W=w.alloc (.cells #[.int .i64 k,.slice A n c] 55)∧Hid (Keep w W)∧Hid (W.heap[w.heap.size]?=some (.cells #[.int .i64 k,.slice A n c] 55 (0,0))):=⟨_,rfl,Keep.one _ _,heap_alloc_new _ _⟩
theorem zzw{w:World}{b:Nat}{u v:Value}{T:TypeId}(h:w.heap[b]?=some (.cells #[u,v] T (0,0))):w.cell? ⟨b,1,none⟩=some v:=by rw[cell_of_row w _ _ _ _ _ h];rfl
def zxz(w:World)(b:Bool)(d:Nat)(Y C:Nat→Int)(e:Ending)(w':World):Prop :=
 ∃ v u,e=.returned (.tuple #[v,u,.bool b])∧(b=true→Row w' v d Y∧Row w' u d C)∧(b=false→v=.slice none 0 0∧u=.slice none 0 0)∧Keep w w'
def zrk(w:World)(b:Bool)(d:Nat)(Y:Nat→Int)(e:Ending)(w':World):Prop :=
 ∃ v n,e=.returned v∧(b=true→n=d)∧(b=false→n=0)∧Row w' v n Y∧Keep w w'
section
variable{CS:zba}{w w1:World}{d q:Nat}{M:List NV}{L:List zaa}{X:Nat→Prop}
theorem zqn{d:Nat}{M:List NV}{L:List zaa}(ok:Ok d M L)(hl:L.length≤100)(O:Int→Bool)(p:zaa)(nd:Int){j:Nat}(hj:j<d):0≤zca O p nd L j∧zca O p nd L j≤219902325555200:=by
 have h0:=ok.amtL hj;have h1:=zke (L:=zlx O L) (id:=nd) (j:=j) fun y hy=>h0 y (List.mem_filter.1 hy).1
 have h4:=zfb (L:=zlx O L) (id:=nd) (j:=j) fun y hy=>h0 y (List.mem_filter.1 hy).1
 have h3:(zlx O L).length≤L.length:=List.length_filter_le _ _;have h5:=zfw (L:=zbv p nd L) (j:=j) fun y hy=>h0 y (List.mem_filter.1 hy).1
 have h6:(zbv p nd L).length≤L.length:=List.length_filter_le _ _;unfold zca;omega
set_option maxRecDepth 100000 in
set_option maxHeartbeats 16000000 in
theorem zue(C:Con CS)(h:CS w d q M L X w1)(p:zaa)(hp:zaf w1 p)(nd:Int)(hd:I64 nd)(A:Option Addr)(n c:Nat)(O:Int→Bool)(hS:zfh w1 A n O)(h64:d≤64)(hM:M.length≤100)(hl:L.length≤100):
  Calls Tryz.prog 86 #[.pointer (some ⟨q,0,none⟩),p.val,.int .i64 nd,.slice A n c] w1 fun e w'=>zxz w1 (zcw p nd M d) d (fun k=>p.Z k+zca O p nd L k) (nget M nd).C e w':=by
 have ok:=Lib.hid (C.ok h);obtain⟨W,hW,kW,bP⟩:=zdf w1 p;obtain⟨bp,hbp⟩:∃ b,b=w1.heap.size:=⟨_,rfl⟩;rw[← hbp] at bP;have cN:=Lib.hid (C.node nd (C.keep h kW.out) hd hM);replace h:=Lib.hid h;replace hp:=Lib.hid hp;replace hS:=Lib.hid hS;replace hd:=Lib.hid hd;obtain⟨sb,hsb⟩:∃ b,b=zcw p nd M d:=⟨_,rfl⟩;rw[← hsb];replace hsb:=Lib.hid hsb;unfold zaa.val;unfold zab at hW
 go_enter Tryz.func86,Tryz.ntmps86
 go_wp2_with fail;rw[← hW,← hbp];replace hW:=Lib.hid hW;replace hbp:=Lib.hid hbp;refine cN.out.mono ?_;rintro e w2 ⟨k,A2,n2,c2,rfl,h1,_,k2⟩;obtain⟨W3,hW3,k3,bN⟩:=zmp w2 k A2 n2 c2;obtain⟨bn,hbn⟩:∃ b,b=w2.heap.size:=⟨_,rfl⟩;rw[← hbn] at bN;have K3:Hid (Keep w1 W3):=kW.out.trans (k2.trans k3.out);have KW3:Hid (Keep W W3):=k2.trans k3.out;replace k2:=Lib.hid k2;replace h1:=Lib.hid h1;clear cN
 by_cases hk:nd∈nk M
 ·rw[show decide (nd∈nk M)=true from decide_eq_true hk]
  obtain⟨rfl,rfl,hC,_⟩:=h1.out hk;have hC3:Hid (Rd W3 A2 n2 (nget M k).C):=hC.keep k3.out;clear hC;replace hk:=Lib.hid hk;obtain⟨wv,hwv⟩:∃ z,z=zae p.m p.Z n2:=⟨_,rfl⟩;have cD:Hid (∀ Wz,Keep W3 Wz→Calls Tryz.prog 39 #[.pointer (some ⟨q,0,none⟩)] Wz fun e w'=>e=.returned (.int .i64 n2)∧Keep Wz w'):=fun Wz kk=>C.dims (C.keep h.out (K3.out.trans kk))
  have cW:Hid (∀ Wz,Keep W3 Wz→Calls Tryz.prog 72 #[.slice p.A p.m p.c,.int .i64 n2] Wz fun e w'=>e=.returned (.int .i64 wv)∧w'=Wz):=fun Wz kk=>by rw[hwv];exact zei p.A p.m p.c p.Z n2 Wz (hp.out.rd.keep (K3.out.trans kk))
  obtain⟨bw,hbw⟩:∃ b,b=decide (0≤wv):=⟨_,rfl⟩;have sB:Hid (zcw p k M n2=!bw):=by
   show _=_
   unfold zcw;rw[hbw,hwv]
   by_cases e:0≤zae p.m p.Z n2
   ·rw[decide_eq_true e,decide_eq_false fun x=>x.2 e];rfl
   ·rw[decide_eq_false e,decide_eq_true ⟨hk.out,e⟩];rfl
  have hbw2:=hbw.symm;replace hbw:=Lib.hid hbw;replace hwv:=Lib.hid hwv;go_upto_region 2 with fail
  rw[← hW3,← hbn];replace hW3:=Lib.hid hW3;replace hbn:=Lib.hid hbn;have HELD:∀ Wz,Keep W3 Wz→(Wz.cell? ⟨bp,4,none⟩=some (.slice p.A p.m p.c)):=fun Wz KK=>(zah (Keep.block (KW3.out.trans KK) bP.out)).e4
  refine wp_region_held_drew (S:=fun w'=>w'.cell? ⟨bp,4,none⟩=some (.slice p.A p.m p.c)) (by kernel_rfl) ?_ (fun hHeld=>?_)
  ·exact HELD _ (by repeat (with_reducible first | exact Keep.refl W3 | apply Keep.alloc | apply Keep.drew | apply Keep.drewN))
  refine wpAnyH_take (i:=0) (v:=.bool true) rfl (by kernel_rfl) (by kernel_rfl) (by kernel_rfl) (fun _ _ _ h=>h) (Or.inl ⟨by rfl,fun Wz hW=>by obtain hW:=hW;go_simp⟩) hHeld ?_
  simp only[Act.put,List.getElem_toArray,List.getElem_cons_zero,List.setIfInBounds_toArray,List.set_cons_zero,List.set_cons_succ];refine wpAnyH_take (i:=1) (v:=.bool false) rfl (by kernel_rfl) (by kernel_rfl) (by kernel_rfl) (fun _ _ _ h=>h) (Or.inl ⟨by rfl,fun Wz hW=>by obtain hW:=hW;go_simp⟩) hHeld ?_
  simp only[Act.put,List.getElem_toArray,List.getElem_cons_succ,List.getElem_cons_zero,List.setIfInBounds_toArray,List.set_cons_zero,List.set_cons_succ];refine wpAnyH_take (i:=2) (v:=.bool false) rfl (by kernel_rfl) (by kernel_rfl) (by kernel_rfl) (fun _ _ _ h=>h) (Or.inl ⟨by rfl,fun Wz hW=>by obtain hW:=hW;go_simp⟩) hHeld ?_
  simp only[Act.put,List.getElem_toArray,List.getElem_cons_succ,List.getElem_cons_zero,List.setIfInBounds_toArray,List.set_cons_zero,List.set_cons_succ];refine wpAnyH_take (i:=3) (v:=.pointer (some ⟨bp,4,none⟩)) rfl (by kernel_rfl) (by kernel_rfl) (by kernel_rfl) (fun _ _ _ h=>h) (Or.inl ⟨by rfl,fun Wz hW=>by obtain hW:=hW;go_simp⟩) hHeld ?_
  simp only[Act.put,List.getElem_toArray,List.getElem_cons_succ,List.getElem_cons_zero,List.setIfInBounds_toArray,List.set_cons_zero,List.set_cons_succ];refine wpAnyH_take (i:=4) (v:=.slice p.A p.m p.c) rfl (by kernel_rfl) (by kernel_rfl) (by kernel_rfl) (fun _ _ _ h=>h) (Or.inl ⟨by rfl,fun Wz hW=>by obtain hW:=hW;go_simp⟩) hHeld ?_
  simp only[Act.put,List.getElem_toArray,List.getElem_cons_succ,List.getElem_cons_zero,List.setIfInBounds_toArray,List.set_cons_zero,List.set_cons_succ];refine wpAnyH_take (i:=5) (v:=.pointer (some ⟨q,0,none⟩)) rfl (by kernel_rfl) (by kernel_rfl) (by kernel_rfl) (fun _ _ _ h=>h) (Or.inl ⟨by rfl,fun Wz hW=>by obtain hW:=hW;go_simp⟩) hHeld ?_
  simp only[Act.put,List.getElem_toArray,List.getElem_cons_succ,List.getElem_cons_zero,List.setIfInBounds_toArray,List.set_cons_zero,List.set_cons_succ];refine wpAnyH_ready (rs:=[6]) (by kernel_rfl) (by simp) ?_
  refine AllReadyH.cons rfl (fun K hK=>?_) AllReadyH.nil
  simp only[List.getElem_toArray,List.getElem_cons_succ,List.getElem_cons_zero];rw[if_pos (by rfl)]
  go_simp
  refine(cD.out _ ((Keep.refl W3).drew)).mono ?_;rintro e' w5 ⟨rfl,k5⟩;have K5:Hid (Keep W3 w5):=(Keep.refl W3).drew.trans k5;replace k5:=Lib.hid k5;go_wp2_with fail;refine hK.out _ _ ?_ (fun hHeld=>?_)
  ·exact HELD _ K5.out
  clear hK K;try simp only[Act.put,List.getElem_toArray,List.getElem_cons_succ,List.getElem_cons_zero,List.setIfInBounds_toArray,List.set_cons_zero,List.set_cons_succ]
  refine wpAnyH_ready (rs:=[7]) (by kernel_rfl) (by simp) ?_
  refine AllReadyH.cons rfl (fun K hK=>?_) AllReadyH.nil
  simp only[List.getElem_toArray,List.getElem_cons_succ,List.getElem_cons_zero];rw[if_pos (by rfl)]
  go_simp
  refine(cW.out _ K5.out).mono ?_;rintro e' w6 ⟨rfl,rfl⟩;go_wp2_with fail;refine hK.out _ _ ?_ (fun hHeld=>?_)
  ·exact HELD _ K5.out
  clear hK K;try simp only[Act.put,List.getElem_toArray,List.getElem_cons_succ,List.getElem_cons_zero,List.setIfInBounds_toArray,List.set_cons_zero,List.set_cons_succ]
  refine wpAnyH_take (i:=8) (v:=.bool bw) rfl (by kernel_rfl) (by kernel_rfl) (by kernel_rfl) (fun _ _ _ h=>h) (Or.inl ⟨by rfl,fun Wz hW=>by obtain hW:=hW;go_simp⟩) hHeld ?_
  simp only[Act.put,List.getElem_toArray,List.getElem_cons_succ,List.getElem_cons_zero,List.setIfInBounds_toArray,List.set_cons_zero,List.set_cons_succ];refine wpAnyH_take (i:=9) (v:=.bool bw) rfl (by kernel_rfl) (by kernel_rfl) (by kernel_rfl) (fun _ _ _ h=>h) (Or.inl ⟨by rfl,fun Wz hW=>by obtain hW:=hW;go_simp⟩) hHeld ?_
  simp only[Act.put,List.getElem_toArray,List.getElem_cons_succ,List.getElem_cons_zero,List.setIfInBounds_toArray,List.set_cons_zero,List.set_cons_succ];refine wpAnyH_done (by kernel_rfl) ?_ _
  clear hHeld HELD;cases bw with
  | true =>
    obtain rfl:sb=false:=hsb.out.trans sB.out;go_wp2;go_ret3
    exact⟨_,_,rfl,fun e=>(by cases e),fun _=>⟨rfl,rfl⟩,K3.out.trans K5.out⟩
  | false =>
    obtain rfl:sb=true:=hsb.out.trans sB.out;have hnw:Hid (¬0≤zae p.m p.Z n2):=by rw[← hwv.out];exact of_decide_eq_false hbw2
    obtain⟨hpm,hpz⟩:=zcp hnw.out;have hpm2:=Lib.hid hpm;replace hpz:=Lib.hid hpz;replace hbw2:=Lib.hid hbw2;have lb:Hid (∀ j,j<n2→0≤zca O p k L j∧zca O p k L j≤219902325555200):=fun j hj=>zqn ok.out hl O p k hj
    have cO:Hid (∀ Wz,Keep w6 Wz→Calls Tryz.prog 109 #[.pointer (some ⟨q,0,none⟩),p.val,.int .i64 k,.slice A n c] Wz fun e w'=>∃ v,e=.returned v∧Row w' v n2 (ofZ O p k M L)∧(∀ g,v.ownBlock=some g→Wz.heap.size≤g)∧Keep Wz w'):=fun Wz kk=>zuw C (C.keep h.out (K3.out.trans (K5.out.trans kk))) p k hd.out A n c O (hS.out.keep (K3.out.trans (K5.out.trans kk))) h64 hl
    have cA:Hid (∀ (w7:World) (B:Option Addr) (cB:Nat),Keep w6 w7→Rd w7 B n2 (ofZ O p k M L)→Calls Tryz.prog 100 #[.slice (some ⟨w7.heap.size,0,none⟩) 2 2] (w7.alloc (.cells #[.slice p.A p.m p.c,.slice B n2 cB] 24)) fun e w'=>∃ g,e=.returned (.tuple #[.slice (some ⟨g,0,none⟩) n2 n2,.bool true])∧Row w' (.slice (some ⟨g,0,none⟩) n2 n2) n2 (fun j=>p.Z j+zca O p k L j)∧Keep w6 w'):=fun w7 B cB k7 hB=>by
     have k8:=Keep.one w7 (.cells #[.slice p.A p.m p.c,.slice B n2 cB] 24);have hrd:=hp.out.rd.keep (K3.out.trans (K5.out.trans (k7.trans k8)));rw[hpm2.out] at hrd k8 ⊢;refine(T12.add2_fn _ w7.heap.size n2 p.c cB p.A B p.Z (ofZ O p k M L) (heap_alloc_new _ _) hrd (hB.keep k8) (by omega) fun j hj=>?_).mono ?_
     ·rw[zit ok.out]
      have:=lb.out j hj;have:=hpz.out j (by rw[hpm2.out];exact hj)
      unfold Amt at this;omega
     ·rintro e w' ⟨g,rfl,r,k9⟩
      refine⟨g,rfl,⟨_,_,rfl,?_⟩,k7.trans (k8.trans k9)⟩;have:=r.rd;simp only[zit ok.out] at this;exact this
    unfold zaa.val at cO;clear hpm;go_upto_region 4 with fail
    have HELD:∀ Wz,Keep w6 Wz→(Wz.cell? ⟨bp,0,none⟩=some (.int .i64 p.k)∧Wz.cell? ⟨bp,1,none⟩=some (.int .i64 p.p)∧Wz.cell? ⟨bp,2,none⟩=some (.bool p.f)∧Wz.cell? ⟨bp,3,none⟩=some (.int .i64 p.g)∧Wz.cell? ⟨bp,4,none⟩=some (.slice p.A p.m p.c)∧Wz.cell? ⟨bp,5,none⟩=some (.int .i64 p.a)∧Wz.cell? ⟨bp,6,none⟩=some (.int .i64 p.h)∧Wz.cell? ⟨bp,7,none⟩=some (.int .i64 p.d)∧Wz.cell? ⟨bp,8,none⟩=some (.int .i64 p.t)):=fun Wz KK=>(fun z=>⟨z.e0,z.e1,z.e2,z.e3,z.e4,z.e5,z.e6,z.e7,z.e8⟩) (zah (Keep.block (KW3.out.trans (K5.out.trans KK)) bP.out))
    refine wp_region_held_drew (S:=fun w'=>w'.cell? ⟨bp,0,none⟩=some (.int .i64 p.k)∧w'.cell? ⟨bp,1,none⟩=some (.int .i64 p.p)∧w'.cell? ⟨bp,2,none⟩=some (.bool p.f)∧w'.cell? ⟨bp,3,none⟩=some (.int .i64 p.g)∧w'.cell? ⟨bp,4,none⟩=some (.slice p.A p.m p.c)∧w'.cell? ⟨bp,5,none⟩=some (.int .i64 p.a)∧w'.cell? ⟨bp,6,none⟩=some (.int .i64 p.h)∧w'.cell? ⟨bp,7,none⟩=some (.int .i64 p.d)∧w'.cell? ⟨bp,8,none⟩=some (.int .i64 p.t)) (by kernel_rfl) ?_ (fun hHeld=>?_)
    ·exact HELD _ (by repeat (with_reducible first | exact Keep.refl w6 | apply Keep.alloc | apply Keep.drew | apply Keep.drewN))
    refine wpAnyH_take (i:=0) (v:=.pointer (some ⟨bp,4,none⟩)) rfl (by kernel_rfl) (by kernel_rfl) (by kernel_rfl) (fun _ _ _ h=>h) (Or.inl ⟨by rfl,fun Wz hW=>by obtain⟨u0,u1,u2,u3,u4,u5,u6,u7,u8⟩:=hW;go_simp⟩) hHeld ?_
    simp only[Act.put,List.getElem_toArray,List.getElem_cons_zero,List.setIfInBounds_toArray,List.set_cons_zero,List.set_cons_succ];refine wpAnyH_take (i:=1) (v:=.slice p.A p.m p.c) rfl (by kernel_rfl) (by kernel_rfl) (by kernel_rfl) (fun _ _ _ h=>h) (Or.inl ⟨by rfl,fun Wz hW=>by obtain⟨u0,u1,u2,u3,u4,u5,u6,u7,u8⟩:=hW;go_simp⟩) hHeld ?_
    simp only[Act.put,List.getElem_toArray,List.getElem_cons_succ,List.getElem_cons_zero,List.setIfInBounds_toArray,List.set_cons_zero,List.set_cons_succ];refine wpAnyH_take (i:=2) (v:=.pointer (some ⟨q,0,none⟩)) rfl (by kernel_rfl) (by kernel_rfl) (by kernel_rfl) (fun _ _ _ h=>h) (Or.inl ⟨by rfl,fun Wz hW=>by obtain⟨u0,u1,u2,u3,u4,u5,u6,u7,u8⟩:=hW;go_simp⟩) hHeld ?_
    simp only[Act.put,List.getElem_toArray,List.getElem_cons_succ,List.getElem_cons_zero,List.setIfInBounds_toArray,List.set_cons_zero,List.set_cons_succ];refine wpAnyH_take (i:=3) (v:=.agg #[.int .i64 p.k,.int .i64 p.p,.bool p.f,.int .i64 p.g,.slice p.A p.m p.c,.int .i64 p.a,.int .i64 p.h,.int .i64 p.d,.int .i64 p.t]) rfl (by kernel_rfl) (by kernel_rfl) (by kernel_rfl) (fun _ _ _ h=>h) (Or.inl ⟨by rfl,fun Wz hW=>by obtain⟨u0,u1,u2,u3,u4,u5,u6,u7,u8⟩:=hW;go_simp⟩) hHeld ?_
    simp only[Act.put,List.getElem_toArray,List.getElem_cons_succ,List.getElem_cons_zero,List.setIfInBounds_toArray,List.set_cons_zero,List.set_cons_succ];refine wpAnyH_take (i:=4) (v:=.int .i64 k) rfl (by kernel_rfl) (by kernel_rfl) (by kernel_rfl) (fun _ _ _ h=>h) (Or.inl ⟨by rfl,fun Wz hW=>by obtain⟨u0,u1,u2,u3,u4,u5,u6,u7,u8⟩:=hW;go_simp⟩) hHeld ?_
    simp only[Act.put,List.getElem_toArray,List.getElem_cons_succ,List.getElem_cons_zero,List.setIfInBounds_toArray,List.set_cons_zero,List.set_cons_succ];refine wpAnyH_take (i:=5) (v:=.slice A n c) rfl (by kernel_rfl) (by kernel_rfl) (by kernel_rfl) (fun _ _ _ h=>h) (Or.inl ⟨by rfl,fun Wz hW=>by obtain⟨u0,u1,u2,u3,u4,u5,u6,u7,u8⟩:=hW;go_simp⟩) hHeld ?_
    simp only[Act.put,List.getElem_toArray,List.getElem_cons_succ,List.getElem_cons_zero,List.setIfInBounds_toArray,List.set_cons_zero,List.set_cons_succ];refine wpAnyH_ready (rs:=[6]) (by kernel_rfl) (by simp) ?_
    refine AllReadyH.cons rfl (fun K hK=>?_) AllReadyH.nil
    simp only[List.getElem_toArray,List.getElem_cons_succ,List.getElem_cons_zero];rw[if_pos (by rfl)]
    go_simp
    refine(cO.out _ ((Keep.refl w6).drew)).mono ?_;rintro e' w7 ⟨v,rfl,⟨B,cB,rfl,rB⟩,_,k7⟩;have K7:Hid (Keep w6 w7):=(Keep.refl w6).drew.trans k7;have cA7:=Lib.hid (cA.out w7 B cB K7.out rB);replace k7:=Lib.hid k7;replace rB:=Lib.hid rB;go_wp2_with fail;refine hK.out _ _ ?_ (fun hHeld=>?_)
    ·exact HELD _ K7.out
    clear hK K;try simp only[Act.put,List.getElem_toArray,List.getElem_cons_succ,List.getElem_cons_zero,List.setIfInBounds_toArray,List.set_cons_zero,List.set_cons_succ]
    refine wpAnyH_ready (rs:=[7]) (by kernel_rfl) (by simp) ?_
    refine AllReadyH.cons rfl (fun K hK=>?_) AllReadyH.nil
    simp only[List.getElem_toArray,List.getElem_cons_succ,List.getElem_cons_zero];rw[if_pos (by rfl)]
    go_simp
    refine hK.out _ _ ?_ (fun hHeld=>?_)
    ·exact HELD _ (K7.out.alloc _)
    clear hK K;try simp only[Act.put,List.getElem_toArray,List.getElem_cons_succ,List.getElem_cons_zero,List.setIfInBounds_toArray,List.set_cons_zero,List.set_cons_succ]
    refine wpAnyH_ready (rs:=[8]) (by kernel_rfl) (by simp) ?_
    refine AllReadyH.cons rfl (fun K hK=>?_) AllReadyH.nil
    simp only[List.getElem_toArray,List.getElem_cons_succ,List.getElem_cons_zero];rw[if_pos (by rfl)]
    go_simp
    refine(cA7.out).mono ?_;rintro e' w8 ⟨g,rfl,rg,k8⟩;replace k8:=Lib.hid k8;replace rg:=Lib.hid rg;go_wp2_with fail;refine hK.out _ _ ?_ (fun hHeld=>?_)
    ·exact HELD _ k8.out
    clear hK K;try simp only[Act.put,List.getElem_toArray,List.getElem_cons_succ,List.getElem_cons_zero,List.setIfInBounds_toArray,List.set_cons_zero,List.set_cons_succ]
    refine wpAnyH_take (i:=9) (v:=.tuple #[.slice (some ⟨g,0,none⟩) n2 n2,.bool true]) rfl (by kernel_rfl) (by kernel_rfl) (by kernel_rfl) (fun _ _ _ h=>h) (Or.inl ⟨by rfl,fun Wz hW=>by obtain⟨u0,u1,u2,u3,u4,u5,u6,u7,u8⟩:=hW;go_simp⟩) hHeld ?_
    simp only[Act.put,List.getElem_toArray,List.getElem_cons_succ,List.getElem_cons_zero,List.setIfInBounds_toArray,List.set_cons_zero,List.set_cons_succ];refine wpAnyH_take (i:=10) (v:=.slice (some ⟨g,0,none⟩) n2 n2) rfl (by kernel_rfl) (by kernel_rfl) (by kernel_rfl) (fun _ _ _ h=>h) (Or.inl ⟨by rfl,fun Wz hW=>by obtain⟨u0,u1,u2,u3,u4,u5,u6,u7,u8⟩:=hW;go_simp⟩) hHeld ?_
    simp only[Act.put,List.getElem_toArray,List.getElem_cons_succ,List.getElem_cons_zero,List.setIfInBounds_toArray,List.set_cons_zero,List.set_cons_succ];refine wpAnyH_take (i:=11) (v:=.bool true) rfl (by kernel_rfl) (by kernel_rfl) (by kernel_rfl) (fun _ _ _ h=>h) (Or.inl ⟨by rfl,fun Wz hW=>by obtain⟨u0,u1,u2,u3,u4,u5,u6,u7,u8⟩:=hW;go_simp⟩) hHeld ?_
    simp only[Act.put,List.getElem_toArray,List.getElem_cons_succ,List.getElem_cons_zero,List.setIfInBounds_toArray,List.set_cons_zero,List.set_cons_succ];refine wpAnyH_take (i:=12) (v:=.slice (some ⟨g,0,none⟩) n2 n2) rfl (by kernel_rfl) (by kernel_rfl) (by kernel_rfl) (fun _ _ _ h=>h) (Or.inl ⟨by rfl,fun Wz hW=>by obtain⟨u0,u1,u2,u3,u4,u5,u6,u7,u8⟩:=hW;go_simp⟩) hHeld ?_
    simp only[Act.put,List.getElem_toArray,List.getElem_cons_succ,List.getElem_cons_zero,List.setIfInBounds_toArray,List.set_cons_zero,List.set_cons_succ];refine wpAnyH_done (by kernel_rfl) ?_ _
    clear hHeld HELD;have nc:=zzw (Keep.block (K5.out.trans k8.out) bN.out);go_upto_region 5 with fail
    go_quiet (fail)
    go_wp2;go_ret3
    refine⟨_,_,rfl,fun _=>⟨rg.out.keep ((Keep.refl _).drewN _),_,_,rfl,hC3.out.keep ((K5.out.trans k8.out).drewN _)⟩,fun e=>(by cases e),(K3.out.trans (K5.out.trans k8.out)).drewN _⟩
 ·rw[show decide (nd∈nk M)=false from decide_eq_false hk]
  have sB:Hid (zcw p nd M d=false):=decide_eq_false fun e=>hk e.1
  obtain rfl:sb=false:=hsb.out.trans sB.out;replace hk:Hid (nd∉nk M):=hk;go_upto_region 2 with fail
  rw[← hW3,← hbn];replace hW3:=Lib.hid hW3;replace hbn:=Lib.hid hbn
  go_quiet (fail)
  go_wp2;go_ret3
  exact⟨_,_,rfl,fun e=>(by cases e),fun _=>⟨rfl,rfl⟩,K3.out.drewN _⟩
set_option maxRecDepth 100000 in
set_option maxHeartbeats 8000000 in
theorem zut(C:Con CS)(h:CS w d q M L X w1)(p:zaa)(hp:zaf w1 p)(nd:Int)(hd:I64 nd)(A:Option Addr)(n c:Nat)(O:Int→Bool)(hS:zfh w1 A n O)(h64:d≤64)(hM:M.length≤100)(hl:L.length≤100):
  Calls Tryz.prog 58 #[.pointer (some ⟨q,0,none⟩),p.val,.int .i64 nd,.slice A n c] w1 fun e w'=>e=.returned (.bool (zbx O p nd M L d))∧Keep w1 w':=by
 obtain⟨W,hW,kW,bP⟩:=zdf w1 p;have cC:=Lib.hid (zue C (C.keep h kW.out) p (hp.keep kW.out) nd hd A n c O (hS.keep kW.out) h64 hM hl);have P0:=zah bP.out;have c0:=P0.e0;have c1:=P0.e1;have c2:=P0.e2;have c3:=P0.e3;have c4:=P0.e4;have c5:=P0.e5;have c6:=P0.e6;have c7:=P0.e7;have c8:=P0.e8;clear P0;rw[hW] at c0 c1 c2 c3 c4 c5 c6 c7 c8;obtain⟨sb,hsb⟩:∃ b,b=zcw p nd M d:=⟨_,rfl⟩;obtain⟨fb,hfb⟩:∃ b,b=zbx O p nd M L d:=⟨_,rfl⟩;rw[← hsb] at cC;rw[← hfb];have eq1:Hid (sb=false→fb=false):=fun e=>by
  rw[hfb];exact decide_eq_false fun x=>by rw[hsb,zhu.2 ⟨x.1,x.2.1⟩] at e;cases e
 have eq2:Hid (sb=true→zcb d (fun k=>p.Z k+zca O p nd L k) d (nget M nd).C=fb):=fun e=>by
  obtain⟨e1,e2⟩:=zhu.1 (hsb.symm.trans e);rw[hfb];unfold zcb zbx;rw[decide_eq_decide];constructor
  ·rintro⟨_,f⟩
   exact⟨e1,e2,fun k hk=>by have a:p.Z k+zca O p nd L k≤(nget M nd).C k:=f k hk;omega⟩
  ·rintro⟨_,_,f⟩
   exact⟨rfl,fun k hk=>by have a:=f k hk;show p.Z k+zca O p nd L k≤(nget M nd).C k;omega⟩
 replace hsb:=Lib.hid hsb;replace hfb:=Lib.hid hfb;replace h:=Lib.hid h;replace hp:=Lib.hid hp;replace hS:=Lib.hid hS;replace hd:=Lib.hid hd;unfold zab at hW c0 c1 c2 c3 c4 c5 c6 c7 c8;unfold zaa.val at cC;unfold zaa.val
 go_enter Tryz.func58,Tryz.ntmps58
 go_wp2_with fail;rw[← hW];replace hW:=Lib.hid hW;clear c0 c1 c2 c3 c4 c5 c6 c7 c8;refine cC.out.mono ?_;rintro e w2 ⟨v,u,rfl,h1,_,k2⟩;replace k2:=Lib.hid k2;clear cC;cases sb with
 | false =>
   obtain rfl:fb=false:=eq1.out rfl;clear h1;go_wp2;go_ret
   exact⟨rfl,kW.out.trans k2.out⟩
 | true =>
   obtain⟨⟨B,cB,rfl,rB⟩,B2,cB2,rfl,rB2⟩:=h1 rfl;have cF:=Lib.hid (zqf B B2 d d cB cB2 _ _ w2 rB rB2 fb (eq2.out rfl));clear h1 rB rB2;go_wp2_with fail;refine cF.out.mono ?_;rintro e w3 ⟨rfl,k3⟩;replace k3:=Lib.hid k3;go_wp2;go_ret
   exact⟨rfl,kW.out.trans (k2.out.trans k3.out.keep)⟩
set_option maxRecDepth 100000 in
set_option maxHeartbeats 8000000 in
theorem zsh(C:Con CS)(h:CS w d q M L X w1)(p:zaa)(hp:zaf w1 p)(nd:Int)(hd:I64 nd)(h64:d≤64)(hM:M.length≤100)(hl:L.length≤100):
  Calls Tryz.prog 54 #[.pointer (some ⟨q,0,none⟩),p.val,.int .i64 nd] w1 fun e w'=>zrk w1 (zcw p nd M d) d (zeh p nd M L) e w':=by
 have ok:=Lib.hid (C.ok h);obtain⟨W,hW,kW,bP⟩:=zdf w1 p;have cC:=Lib.hid (zue C (C.keep h kW.out) p (hp.keep kW.out) nd hd none 0 0 no (zfh.nil _ _) h64 hM hl);have P0:=zah bP.out;have c0:=P0.e0;have c1:=P0.e1;have c2:=P0.e2;have c3:=P0.e3;have c4:=P0.e4;have c5:=P0.e5;have c6:=P0.e6;have c7:=P0.e7;have c8:=P0.e8;clear P0;rw[hW] at c0 c1 c2 c3 c4 c5 c6 c7 c8;obtain⟨sb,hsb⟩:∃ b,b=zcw p nd M d:=⟨_,rfl⟩;rw[← hsb] at cC ⊢;have rg:Hid (sb=true→∀ k,k<d→(0≤p.Z k+zca no p nd L k∧p.Z k+zca no p nd L k≤300000000000000)∧Amt ((nget M nd).C k)):=fun e k hk=>by
  obtain⟨e1,e2⟩:=zhu.1 (hsb.symm.trans e);obtain⟨e3,e4⟩:=zcp e2;have a1:=e4 k (by omega)
  have a2:=zqn ok.out hl no p nd hk;have a3:=ok.out.cap _ (zrz e1).1 k hk;unfold Amt at a1;exact⟨by omega,a3⟩
 replace hsb:=Lib.hid hsb;replace h:=Lib.hid h;replace hp:=Lib.hid hp;replace hd:=Lib.hid hd;unfold zab at hW c0 c1 c2 c3 c4 c5 c6 c7 c8;unfold zaa.val at cC;unfold zaa.val
 go_enter Tryz.func54,Tryz.ntmps54
 go_wp2_with fail;rw[← hW];replace hW:=Lib.hid hW;clear c0 c1 c2 c3 c4 c5 c6 c7 c8;refine cC.out.mono ?_;rintro e w2 ⟨v,u,rfl,h1,_,k2⟩;replace k2:=Lib.hid k2;clear cC;cases sb with
 | false =>
   clear h1;go_wp2;go_ret
   exact⟨_,0,rfl,fun e=>(by cases e),fun _=>rfl,⟨none,0,rfl,⟨by omega,fun _ hh=>absurd hh (Nat.not_lt_zero _),fun hh=>absurd hh (Nat.lt_irrefl _)⟩⟩,kW.out.trans k2.out⟩
 | true =>
   obtain⟨⟨B,cB,rfl,rB⟩,B2,cB2,rfl,rB2⟩:=h1 rfl;replace rg:=Lib.hid (rg.out rfl);have cM:=Lib.hid (zva B B2 d d cB cB2 _ _ w2 rB rB2 (by omega))
   replace rB2:=Lib.hid rB2;clear h1 rB;go_wp2_with fail;refine cM.out.mono ?_;rintro e w3 ⟨k3,⟨_,rfl,r3⟩ | ⟨hno,_⟩⟩
   ·have R3:Rd w3 (some ⟨w2.heap.size,0,none⟩) d fun k=>max (p.Z k+zca no p nd L k) ((nget M nd).C k):=zec r3 (by omega) fun k hk=>by
     obtain⟨a1,a2⟩:=rg.out k hk;unfold Amt at a2;show _≤max _ _∧max _ _≤_
     omega
    have k3:Hid (Keep w2 w3):=k3;have cS:=Lib.hid (zrd (some ⟨w2.heap.size,0,none⟩) B2 d d d cB2 _ _ w3 R3 (rB2.out.keep k3.out) (by omega))
    clear R3 r3 cM;go_wp2_with fail;refine cS.out.mono ?_;rintro e w4 ⟨k4,⟨_,rfl,r4⟩ | ⟨hno,_⟩⟩
    ·have R4:Hid (Row w4 (.slice (some ⟨w3.heap.size,0,none⟩) d d) d (zeh p nd M L)):=by
      refine⟨_,_,rfl,zec (World.rowIs.congr r4 fun k hk=>?_) (by omega) fun k hk=>?_⟩
      ·refine zhf ?_
       show(max _ _:Int) - _=max _ _
       omega
      ·obtain⟨a1,a2⟩:=rg.out k hk
       unfold Amt at a2;show _≤(max _ _:Int)∧(max _ _:Int)≤_
       omega
     have k4:Hid (Keep w3 w4):=k4;clear r4 cS;go_wp2;go_ret
     exact⟨_,d,rfl,fun _=>rfl,fun e=>(by cases e),R4.out,kW.out.trans (k2.out.trans (k3.out.trans k4.out))⟩
    ·exact absurd (show zmk d _ d _ from⟨rfl,fun k hk=>by
      obtain⟨a1,a2⟩:=rg.out k hk;unfold Amt at a2;unfold zdt;refine decide_eq_true ?_;show _≤max _ _∧max _ _ - _≤_
      omega⟩) hno
   ·exact absurd rfl hno
set_option maxRecDepth 100000 in
set_option maxHeartbeats 1000000 in
theorem zpd(id:Int)(w:World):Calls Tryz.prog 32 #[.pointer none,.int .i64 id] w fun e w'=>e=.returned (.tuple #[.agg #[.int .i64 0,.slice none 0 0],.bool false])∧Keep w w':=by
 obtain⟨W,hW⟩:∃ W,W=w.alloc (.cells #[.int .i64 0,.slice none 0 0] 55):=⟨_,rfl⟩;have KW:Hid (Keep w W):=by rw[hW];exact Keep.one _ _
 obtain⟨b,hb⟩:∃ b,b=w.heap.size:=⟨_,rfl⟩;have Y:W.heap[b]?=some (.cells #[.int .i64 0,.slice none 0 0] 55 (0,0)):=by rw[hW,hb];exact heap_alloc_new _ _
 have hF:=Lib.hid (T12.find_nil W id);obtain⟨y0,y1,yf⟩:=T12.cel2 Y;have B5:Hid (((W.setCell ⟨b,0,none⟩ (.int .i64 0)).setCell ⟨b,1,none⟩ (.slice none 0 0)).heap[b]?=some (.cells #[.int .i64 0,.slice none 0 0] 55 (0,0))):=T12.two_set Y;have K5:Hid (Keep w ((W.setCell ⟨b,0,none⟩ (.int .i64 0)).setCell ⟨b,1,none⟩ (.slice none 0 0))):=T12.two_keep KW.out (by omega)
 replace Y:=Lib.hid Y
 go_enter Tryz.func32,Tryz.ntmps32
 go_wp2_with fail;rw[← hW,← hb];replace hW:=Lib.hid hW;replace hb:=Lib.hid hb;refine hF.out.mono ?_;rintro e w1 ⟨rfl,rfl⟩;go_wp2;obtain⟨z0,z1,_⟩:=T12.cel2 B5.out;refine bodyPost_ret (v:=.tuple #[.agg #[.int .i64 0,.slice none 0 0],.bool false]) (by simp[results,Tryz.results32,go_sem,z0,z1]) rfl ⟨rfl,K5.out⟩
set_option maxRecDepth 100000 in
set_option maxHeartbeats 4000000 in
theorem zpe(id:Int)(w:World):Calls Tryz.prog 108 #[.pointer none,.int .i64 id] w fun e w'=>e=.returned (.tuple #[.agg #[.int .i64 0,.slice none 0 0],.bool false])∧Keep w w':=by
 obtain⟨W,hW⟩:∃ W,W=w.alloc (.cells #[.int .i64 0,.slice none 0 0] 55):=⟨_,rfl⟩;have KW:Hid (Keep w W):=by rw[hW];exact Keep.one _ _
 obtain⟨b,hb⟩:∃ b,b=w.heap.size:=⟨_,rfl⟩;have Y:Hid (W.heap[b]?=some (.cells #[.int .i64 0,.slice none 0 0] 55 (0,0))):=by rw[hW,hb];exact heap_alloc_new _ _
 have hB:=Lib.hid (zmo W);have hP:=Lib.hid (fun W=>zpd id W)
 have fs0:∀ W,(Instr.field 79 (.agg #[.pointer none,.pointer none]) 0).run Tryz.prog W=.ok (.agg #[.pointer none]) W:=fun _=>by kernel_rfl
 have fn0:∀ W,(Instr.field 74 (.agg #[.pointer none]) 0).run Tryz.prog W=.ok (.pointer none) W:=fun _=>by kernel_rfl
 go_enter Tryz.func108,Tryz.ntmps108
 go_wp2_with fail;rw[← hW,← hb];refine hB.out.mono ?_;replace hW:=Lib.hid hW;replace hb:=Lib.hid hb;rintro e w2 ⟨rfl,k2⟩;replace k2:=Lib.hid k2;go_wp2_with fail;refine(hP.out w2).mono ?_;rintro e w3 ⟨rfl,k3⟩;have k3:Hid (Keep w2 w3):=k3;have Y3:=Keep.block (k2.out.trans k3.out) Y.out;obtain⟨y0,y1,yf⟩:=T12.cel2 Y3;have B5:Hid (((w3.setCell ⟨b,0,none⟩ (.int .i64 0)).setCell ⟨b,1,none⟩ (.slice none 0 0)).heap[b]?=some (.cells #[.int .i64 0,.slice none 0 0] 55 (0,0))):=T12.two_set Y3;have K5:Hid (Keep w ((w3.setCell ⟨b,0,none⟩ (.int .i64 0)).setCell ⟨b,1,none⟩ (.slice none 0 0))):=T12.two_keep (KW.out.trans (k2.out.trans k3.out)) (by rw[hb.out];exact Nat.le_refl _)
 replace Y3:=Lib.hid Y3;go_wp2;obtain⟨z0,z1,_⟩:=T12.cel2 B5.out;refine bodyPost_ret (v:=.tuple #[.agg #[.int .i64 0,.slice none 0 0],.bool false]) (by simp[results,Tryz.results108,go_sem,z0,z1]) rfl ⟨rfl,K5.out⟩
set_option maxRecDepth 100000 in
set_option maxHeartbeats 4000000 in
theorem zrr(p:zaa)(nd:Int)(A:Option Addr)(n c:Nat)(w:World):Calls Tryz.prog 86 #[.pointer none,p.val,.int .i64 nd,.slice A n c] w fun e w'=>e=.returned (.tuple #[.slice none 0 0,.slice none 0 0,.bool false])∧Keep w w':=by
 obtain⟨W,hW,kW,bP⟩:=zdf w p;have cN:=Lib.hid (zpe nd W);unfold zaa.val;unfold zab at hW
 go_enter Tryz.func86,Tryz.ntmps86
 go_wp2_with fail;rw[← hW];replace hW:=Lib.hid hW;refine cN.out.mono ?_;rintro e w2 ⟨rfl,k2⟩;obtain⟨W3,hW3,k3,bN⟩:=zmp w2 0 none 0 0;have K3:Hid (Keep w W3):=kW.out.trans (k2.trans k3.out);replace k2:=Lib.hid k2;clear cN;go_upto_region 2 with fail
 rw[← hW3];replace hW3:=Lib.hid hW3
 go_quiet (fail)
 go_wp2;go_ret3
 exact⟨rfl,K3.out.drewN _⟩
set_option maxRecDepth 100000 in
set_option maxHeartbeats 4000000 in
theorem zox(p:zaa)(nd:Int)(A:Option Addr)(n c:Nat)(w1:World):Calls Tryz.prog 58 #[.pointer none,p.val,.int .i64 nd,.slice A n c] w1 fun e w'=>e=.returned (.bool false)∧Keep w1 w':=by
 obtain⟨W,hW,kW,bP⟩:=zdf w1 p;have cC:=Lib.hid (zrr p nd A n c W);have P0:=zah bP.out;have c0:=P0.e0;have c1:=P0.e1;have c2:=P0.e2;have c3:=P0.e3;have c4:=P0.e4;have c5:=P0.e5;have c6:=P0.e6;have c7:=P0.e7;have c8:=P0.e8;clear P0;rw[hW] at c0 c1 c2 c3 c4 c5 c6 c7 c8;unfold zab at hW c0 c1 c2 c3 c4 c5 c6 c7 c8;unfold zaa.val at cC;unfold zaa.val
 go_enter Tryz.func58,Tryz.ntmps58
 go_wp2_with fail;rw[← hW];replace hW:=Lib.hid hW;clear c0 c1 c2 c3 c4 c5 c6 c7 c8;refine cC.out.mono ?_;rintro e w2 ⟨rfl,k2⟩;replace k2:=Lib.hid k2;go_wp2;go_ret
 exact⟨rfl,kW.out.trans k2.out⟩
theorem zlg(C:Con CS):zmi CS where
 of:=fun p nd A n c O h _ _ hnd hS _ h64 _ hl=>zuw C h p nd hnd A n c O hS h64 hl
 fits:=fun p nd A n c O h _ hp hnd hS _ h64 _ hM hl=>zut C h p hp nd hnd A n c O hS h64 hM hl
 short:=fun p nd h _ hp hnd h64 _ hM hl=>zsh C h p hp nd hnd h64 hM hl
 none:=fun p nd A n c w1=>zox p nd A n c w1
end
end Go.Proofs.YtihjgcibpfajkaaGreatDoor.T16
