/-
  The landed cluster: Submit. Condition: errors.errorType holds its own.
  The landed cluster: New. No condition.
-/
import Derived.Test.YtihjgcibpfajkaaGreatDoorD35
import Derived.Test.YtihjgcibpfajkaaGreatDoorD2
import Derived.Test.YtihjgcibpfajkaaGreatDoorD32
namespace Go.Proofs.YtihjgcibpfajkaaGreatDoor.T14
open Go.RowKit Go.Sort Go.Lib V12 T13
theorem zxm(L:List zaa)(s:Int)(x:zaa)(id:Int)(j:Nat):zaj (zek L s x) id j=zaj L id j:=by
 unfold zek
 split
 ·rw[zfg]
  have e:zaj [zcl x L.length] id j=0:=by
   unfold zaj zaj;rw[zkk];rfl
  rw[e];omega
 ·rfl
section
variable{w w1 w2:World}{d q:Nat}{M:List NV}{L:List zaa}{X Z:Nat→Prop}{qn qp:Nat}{N:List T12.NodeV}{Xn Xp:Nat→Prop}
set_option maxRecDepth 100000 in
set_option maxHeartbeats 8000000 in
theorem zoo(h:zbf w d q M L X w1 qn qp N Xn Xp)(hg:zaw w1)(x:zaa)(hx:zaf w1 x)(hm:x.m≤1000)(hl:L.length≤100):Calls Tryz.prog 17 #[.pointer (some ⟨q,0,none⟩),x.val] w1 fun e w'=>∃ r,e=.returned (.tuple #[r.val,zbu (sbC L d x) (wrI d x.m x.Z)])∧(sbC L d x=0→nm r=zcl x L.length)∧(sbC L d x≠0→nm r=zad)∧zaf w' r∧Req w' w1.heap.size r∧CSd w d q M (sbL L d x) X w'∧zas X w1 w':=by
 have mixed:Tryz.prog.follows .mixedOrders=true:=by kernel_rfl
 have hw0:=h.kp.size;have hX:=h.lt;obtain⟨W0,hW0⟩:∃ W0,W0=w1.alloc (.cells (zab x) 26):=⟨_,rfl⟩;obtain⟨W,hW⟩:∃ W,W=W0.alloc (.cells (zab zad) 26):=⟨_,rfl⟩;obtain⟨bx,hbx⟩:∃ bx,bx=w1.heap.size:=⟨_,rfl⟩;obtain⟨b,hb⟩:∃ b,b=w1.heap.size+1:=⟨_,rfl⟩;have s0:W0.heap.size=b:=by rw[hW0,World.size_alloc,hb]
 have KW:Hid (Keep w1 W):=by rw[hW,hW0];exact(Keep.one _ _:Keep w1 _).alloc _
 have BX:Hid (W.heap[bx]?=some (.cells (zab x) 26 (0,0))):=by show _=_;rw[hW,hW0,hbx];exact(Keep.one _ _).block (heap_alloc_new _ _)
 have Y:Hid (W.heap[b]?=some (.cells (zab zad) 26 (0,0))):=by show _=_;rw[hW,← s0];exact heap_alloc_new _ _
 have hbW:b<W.heap.size:=lt_of_block Y.out;have cD:Hid (∀ W',Keep W W'→Calls Tryz.prog 39 #[.pointer (some ⟨q,0,none⟩)] W' fun e w'=>e=.returned (.int .i64 d)∧Keep W' w'):=fun W' k=>zmq (h.keep (KW.out.trans k))
 obtain⟨ev,hev⟩:∃ ev,ev=if 0≤zae x.m x.Z d then flt 3 (zae x.m x.Z d) else .nilIface:=⟨_,rfl⟩
 have cR:Hid (∀ W',Keep W W'→Calls Tryz.prog 38 #[.slice x.A x.m x.c,.int .i64 d] W' fun e w'=>e=.returned ev∧Keep W' w'):=fun W' k=>by
  rw[hev];exact zkf x.A x.m x.c d x.Z W' (hg.keep (KW.out.trans k)) (hx.rd.keep (KW.out.trans k)) hx.nil h.d64
 have ZF:Hid (∀ w',Keep W w'→(put9 w' b zad).heap[b]?=some (.cells (zab zad) 26 (0,0))∧CSd w d q M L X (put9 w' b zad)∧zas X w1 (put9 w' b zad)):=fun w' k=>zhi h.cs (KW.out.trans k) (by omega) (k.block Y.out)
 have YC:Hid (∀ w',Keep W w'→w'.heap[b]?=some (.cells (zab zad) 26 (0,0))):=fun w' k=>k.block Y.out
 have XC:Hid (∀ w',Keep W w'→aem w' bx x):=fun w' k=>zah (k.block BX.out)
 unfold zab at hW0;unfold zab zad at hW
 by_cases hwr:0≤zae x.m x.Z d
 ·have hc:sbC L d x=3:=if_pos hwr
  have hL2:sbL L d x=L:=if_pos hwr;have hi:wrI d x.m x.Z=zae x.m x.Z d:=if_pos hwr;rw[if_pos hwr] at hev;rw[hL2,hi];obtain⟨ci,hci⟩:∃ ci,ci=zae x.m x.Z d:=⟨_,rfl⟩;rw[← hci] at hev hwr ⊢;have e2:zbu (sbC L d x) ci=.iface 124 (.agg #[.int .i64 3,.int .i64 ci]):=by rw[hc];exact if_neg (by decide)
  have e3:ev=.iface 124 (.agg #[.int .i64 3,.int .i64 ci]):=hev;rw[e2];have hne:Hid (sbC L d x≠0):=by show ¬_;rw[hc];decide
  obtain⟨cc,hcc⟩:∃ cc,cc=sbC L d x:=⟨_,rfl⟩;rw[← hcc] at hne ⊢;replace hcc:=Lib.hid hcc;subst e3;replace hc:=Lib.hid hc;replace hL2:=Lib.hid hL2;replace hi:=Lib.hid hi;replace hci:=Lib.hid hci;clear e2 hev;have x4:=(XC.out W (Keep.refl W)).e4;replace h:=Lib.hid h;replace hX:=Lib.hid hX;replace hw0:=Lib.hid hw0;replace hwr:=Lib.hid hwr;replace hg:=Lib.hid hg;replace hx:=Lib.hid hx;unfold zaa.val
  go_enter Tryz.func17,Tryz.ntmps17
  go_wp2_with fail;rw[← hW0,← hW];try rw[← hb]
  try rw[← hbx]
  replace hW0:=Lib.hid hW0;replace hW:=Lib.hid hW;replace hb:=Lib.hid hb;replace hbx:=Lib.hid hbx;replace s0:=Lib.hid s0;replace hbW:=Lib.hid hbW;have HELD:∀ Wz,Keep W Wz→(Wz.cell? ⟨bx,4,none⟩=some (.slice x.A x.m x.c)):=fun Wz KK=>KK.cell x4
  refine wp_region_held_drew (S:=fun w'=>w'.cell? ⟨bx,4,none⟩=some (.slice x.A x.m x.c)) (by kernel_rfl) ?_ (fun hHeld=>?_)
  ·exact HELD _ (by repeat (with_reducible first | exact Keep.refl W | apply Keep.alloc | apply Keep.drew | apply Keep.drewN))
  refine wpAnyH_take (i:=0) (v:=.pointer (some ⟨bx,4,none⟩)) rfl (by kernel_rfl) (by kernel_rfl) (by kernel_rfl) (fun _ _ _ h=>h) (Or.inl ⟨by rfl,fun Wz hW=>by obtain p0:=hW;go_simp⟩) hHeld ?_
  simp only[Act.put,List.getElem_toArray,List.getElem_cons_zero,List.setIfInBounds_toArray,List.set_cons_zero,List.set_cons_succ];refine wpAnyH_take (i:=1) (v:=.slice x.A x.m x.c) rfl (by kernel_rfl) (by kernel_rfl) (by kernel_rfl) (fun _ _ _ h=>h) (Or.inl ⟨by rfl,fun Wz hW=>by obtain p0:=hW;go_simp⟩) hHeld ?_
  simp only[Act.put,List.getElem_toArray,List.getElem_cons_succ,List.getElem_cons_zero,List.setIfInBounds_toArray,List.set_cons_zero,List.set_cons_succ];refine wpAnyH_take (i:=2) (v:=.pointer (some ⟨q,0,none⟩)) rfl (by kernel_rfl) (by kernel_rfl) (by kernel_rfl) (fun _ _ _ h=>h) (Or.inl ⟨by rfl,fun Wz hW=>by obtain p0:=hW;go_simp⟩) hHeld ?_
  simp only[Act.put,List.getElem_toArray,List.getElem_cons_succ,List.getElem_cons_zero,List.setIfInBounds_toArray,List.set_cons_zero,List.set_cons_succ];refine wpAnyH_ready (rs:=[3]) (by kernel_rfl) (by simp) ?_
  refine AllReadyH.cons rfl (fun K hK=>?_) AllReadyH.nil
  simp only[List.getElem_toArray,List.getElem_cons_succ,List.getElem_cons_zero];rw[if_pos (by rfl)]
  go_simp
  refine(cD.out _ (by repeat (with_reducible first | exact Keep.refl W | apply Keep.alloc | apply Keep.drew | apply Keep.drewN))).mono ?_
  rintro e w2 ⟨rfl,k2⟩;have K2:Hid (Keep W w2):=((Keep.refl _).drew:Keep W _).trans k2;replace k2:=Lib.hid k2;go_wp2_with fail;refine hK.out _ _ ?_ (fun hHeld=>?_)
  ·exact HELD _ K2.out
  clear hK K;try simp only[Act.put,List.getElem_toArray,List.getElem_cons_succ,List.getElem_cons_zero,List.setIfInBounds_toArray,List.set_cons_zero,List.set_cons_succ]
  refine wpAnyH_ready (rs:=[4]) (by kernel_rfl) (by simp) ?_
  refine AllReadyH.cons rfl (fun K hK=>?_) AllReadyH.nil
  simp only[List.getElem_toArray,List.getElem_cons_succ,List.getElem_cons_zero];rw[if_pos (by rfl)]
  go_simp
  refine(cR.out w2 K2.out).mono ?_;rintro e w3 ⟨rfl,k3⟩;have K3:Hid (Keep W w3):=K2.out.trans k3;replace k3:=Lib.hid k3;go_wp2_with fail;refine hK.out _ _ ?_ (fun hHeld=>?_)
  ·exact HELD _ K3.out
  clear hK K;try simp only[Act.put,List.getElem_toArray,List.getElem_cons_succ,List.getElem_cons_zero,List.setIfInBounds_toArray,List.set_cons_zero,List.set_cons_succ]
  refine wpAnyH_take (i:=5) (v:=.iface 124 (.agg #[.int .i64 3,.int .i64 ci])) rfl (by kernel_rfl) (by kernel_rfl) (by kernel_rfl) (fun _ _ _ h=>h) (Or.inl ⟨by rfl,fun Wz hW=>by obtain p0:=hW;go_simp⟩) hHeld ?_
  simp only[Act.put,List.getElem_toArray,List.getElem_cons_succ,List.getElem_cons_zero,List.setIfInBounds_toArray,List.set_cons_zero,List.set_cons_succ];refine wpAnyH_done (by kernel_rfl) ?_ _
  clear x4 HELD hHeld;obtain⟨d0,d1,d2,d3,d4,d5,d6,d7,d8,g0⟩:=zah (YC.out w3 K3.out);unfold zad at d0 d1 d2 d3 d4 d5 d6 d7 d8;go_wp2;obtain⟨z,cs,sx⟩:=ZF.out w3 K3.out;obtain⟨e0,e1,e2,e3,e4,e5,e6,e7,e8,_⟩:=zah z;unfold put9 zad at *;refine bodyPost_ret (v:=.tuple #[.agg #[.int .i64 0,.int .i64 0,.bool false,.int .i64 0,.slice none 0 0,.int .i64 0,.int .i64 0,.int .i64 0,.int .i64 0],.iface 124 (.agg #[.int .i64 3,.int .i64 ci])]) (by simp[results,Tryz.results17,go_sem,e0,e1,e2,e3,e4,e5,e6,e7,e8]) rfl ⟨zad,rfl,fun h=>absurd h hne.out,fun _=>rfl,zbj _,zbg _ _,cs,sx⟩
 ·have hc:sbC L d x=zdx L 65536 x:=if_neg hwr
  have hL2:sbL L d x=zek L 65536 x:=if_neg hwr;have hi:wrI d x.m x.Z=0:=if_neg hwr;rw[if_neg hwr] at hev;obtain⟨fv,hfv⟩:∃ fv,fv=zbu (sbC L d x) (wrI d x.m x.Z):=⟨_,rfl⟩;rw[← hfv];have hok:Ok d M (sbL L d x):=aeb h.ok;have huse:∀ y∈N,∀ j,j<d→y.U j=zaj (sbL L d x) y.k j:=fun y hy j hj=>by
   rw[hL2,zxm];exact h.use y hy j hj
  have cA:Hid (∀ W',Keep W W'→Calls Tryz.prog 40 #[.pointer (some ⟨qp,0,none⟩),x.val] W' fun e w5=>∃ r,e=.returned (.tuple #[r.val,fv])∧(sbC L d x=0→nm r=zcl x L.length)∧(sbC L d x≠0→nm r=zad)∧(∀ Wz,Keep w5 Wz→(Wz.cell? ⟨q,1,none⟩=some (.pointer (some ⟨qp,0,none⟩))∧Wz.cell? ⟨bx,0,none⟩=some (.int .i64 x.k)∧Wz.cell? ⟨bx,1,none⟩=some (.int .i64 x.p)∧Wz.cell? ⟨bx,2,none⟩=some (.bool x.f)∧Wz.cell? ⟨bx,3,none⟩=some (.int .i64 x.g)∧Wz.cell? ⟨bx,4,none⟩=some (.slice x.A x.m x.c)∧Wz.cell? ⟨bx,5,none⟩=some (.int .i64 x.a)∧Wz.cell? ⟨bx,6,none⟩=some (.int .i64 x.h)∧Wz.cell? ⟨bx,7,none⟩=some (.int .i64 x.d)∧Wz.cell? ⟨bx,8,none⟩=some (.int .i64 x.t)))∧(w5.heap[b]?=some (.cells (zab zad) 26 (0,0))∧(put9 w5 b r).heap[b]?=some (.cells (zab r) 26 (0,0))∧zaf (put9 w5 b r) r∧Req (put9 w5 b r) w1.heap.size r∧CSd w d q M (sbL L d x) X (put9 w5 b r)∧zas X w1 (put9 w5 b r))):=fun W' k=>by
   have kk:=KW.out.trans k;have h2:=h.keep kk;have hsz:w1.heap.size<W'.heap.size:=by have:=k.size;omega
   refine(zdz.submit x h2.os (hg.keep kk) (hx.keep kk) hm (by omega)).mono ?_
   rintro e w5 ⟨r,he,h3,h4,h5,h6,o,sx⟩;have hs:=zta o (zdn _ hsz);rw[← hL2] at o;have h7:=(h2.m.pods o sx hs).at h.nds huse hok;have hbx1:zdd w1 W' bx:=⟨by omega,by have:=k.size;omega⟩
   refine⟨r,by rw[he,hfv,hc,hi];rfl,by rw[hc];exact h3,by rw[hc];exact h4,fun Wz kz=>?_,zen kk ⟨by omega,by have:=k.size;omega⟩ hw0 (k.block Y.out) h7.cs (fun i hi=>sx i (h2.sub i hi).2) hX h5 h6 (Nat.le_refl _)⟩
   have c9:=zah (kz.block ((sx bx (Or.inr hbx1)).trans (k.block BX.out)));exact⟨kz.cell h7.c2.2,c9.e0,c9.e1,c9.e2,c9.e3,c9.e4,c9.e5,c9.e6,c9.e7,c9.e8⟩
  have QC:Hid (∀ W',Keep W W'→W'.cell? ⟨q,1,none⟩=some (.pointer (some ⟨qp,0,none⟩))):=fun W' k=>(h.keep (KW.out.trans k)).c2.2
  subst hev;replace hc:=Lib.hid hc;replace hL2:=Lib.hid hL2;replace hi:=Lib.hid hi;replace hfv:=Lib.hid hfv;replace hok:=Lib.hid hok;replace huse:=Lib.hid huse;obtain⟨cc,hcc⟩:∃ cc,cc=sbC L d x:=⟨_,rfl⟩;rw[← hcc] at cA ⊢;replace hcc:=Lib.hid hcc;have x4:=(XC.out W (Keep.refl W)).e4;replace h:=Lib.hid h;replace hX:=Lib.hid hX;replace hw0:=Lib.hid hw0;replace hwr:=Lib.hid hwr;replace hg:=Lib.hid hg;replace hx:=Lib.hid hx;unfold zaa.val at cA ⊢
  go_enter Tryz.func17,Tryz.ntmps17
  go_wp2_with fail;rw[← hW0,← hW];try rw[← hb]
  try rw[← hbx]
  replace hW0:=Lib.hid hW0;replace hW:=Lib.hid hW;replace hb:=Lib.hid hb;replace hbx:=Lib.hid hbx;replace s0:=Lib.hid s0;replace hbW:=Lib.hid hbW;have HELD:∀ Wz,Keep W Wz→(Wz.cell? ⟨bx,4,none⟩=some (.slice x.A x.m x.c)):=fun Wz KK=>KK.cell x4
  refine wp_region_held_drew (S:=fun w'=>w'.cell? ⟨bx,4,none⟩=some (.slice x.A x.m x.c)) (by kernel_rfl) ?_ (fun hHeld=>?_)
  ·exact HELD _ (by repeat (with_reducible first | exact Keep.refl W | apply Keep.alloc | apply Keep.drew | apply Keep.drewN))
  refine wpAnyH_take (i:=0) (v:=.pointer (some ⟨bx,4,none⟩)) rfl (by kernel_rfl) (by kernel_rfl) (by kernel_rfl) (fun _ _ _ h=>h) (Or.inl ⟨by rfl,fun Wz hW=>by obtain p0:=hW;go_simp⟩) hHeld ?_
  simp only[Act.put,List.getElem_toArray,List.getElem_cons_zero,List.setIfInBounds_toArray,List.set_cons_zero,List.set_cons_succ];refine wpAnyH_take (i:=1) (v:=.slice x.A x.m x.c) rfl (by kernel_rfl) (by kernel_rfl) (by kernel_rfl) (fun _ _ _ h=>h) (Or.inl ⟨by rfl,fun Wz hW=>by obtain p0:=hW;go_simp⟩) hHeld ?_
  simp only[Act.put,List.getElem_toArray,List.getElem_cons_succ,List.getElem_cons_zero,List.setIfInBounds_toArray,List.set_cons_zero,List.set_cons_succ];refine wpAnyH_take (i:=2) (v:=.pointer (some ⟨q,0,none⟩)) rfl (by kernel_rfl) (by kernel_rfl) (by kernel_rfl) (fun _ _ _ h=>h) (Or.inl ⟨by rfl,fun Wz hW=>by obtain p0:=hW;go_simp⟩) hHeld ?_
  simp only[Act.put,List.getElem_toArray,List.getElem_cons_succ,List.getElem_cons_zero,List.setIfInBounds_toArray,List.set_cons_zero,List.set_cons_succ];refine wpAnyH_ready (rs:=[3]) (by kernel_rfl) (by simp) ?_
  refine AllReadyH.cons rfl (fun K hK=>?_) AllReadyH.nil
  simp only[List.getElem_toArray,List.getElem_cons_succ,List.getElem_cons_zero];rw[if_pos (by rfl)]
  go_simp
  refine(cD.out _ (by repeat (with_reducible first | exact Keep.refl W | apply Keep.alloc | apply Keep.drew | apply Keep.drewN))).mono ?_
  rintro e w2 ⟨rfl,k2⟩;have K2:Hid (Keep W w2):=((Keep.refl _).drew:Keep W _).trans k2;replace k2:=Lib.hid k2;go_wp2_with fail;refine hK.out _ _ ?_ (fun hHeld=>?_)
  ·exact HELD _ K2.out
  clear hK K;try simp only[Act.put,List.getElem_toArray,List.getElem_cons_succ,List.getElem_cons_zero,List.setIfInBounds_toArray,List.set_cons_zero,List.set_cons_succ]
  refine wpAnyH_ready (rs:=[4]) (by kernel_rfl) (by simp) ?_
  refine AllReadyH.cons rfl (fun K hK=>?_) AllReadyH.nil
  simp only[List.getElem_toArray,List.getElem_cons_succ,List.getElem_cons_zero];rw[if_pos (by rfl)]
  go_simp
  refine(cR.out w2 K2.out).mono ?_;rintro e w3 ⟨rfl,k3⟩;have K3:Hid (Keep W w3):=K2.out.trans k3;replace k3:=Lib.hid k3;go_wp2_with fail;refine hK.out _ _ ?_ (fun hHeld=>?_)
  ·exact HELD _ K3.out
  clear hK K;try simp only[Act.put,List.getElem_toArray,List.getElem_cons_succ,List.getElem_cons_zero,List.setIfInBounds_toArray,List.set_cons_zero,List.set_cons_succ]
  refine wpAnyH_take (i:=5) (v:=.nilIface) rfl (by kernel_rfl) (by kernel_rfl) (by kernel_rfl) (fun _ _ _ h=>h) (Or.inl ⟨by rfl,fun Wz hW=>by obtain p0:=hW;go_simp⟩) hHeld ?_
  simp only[Act.put,List.getElem_toArray,List.getElem_cons_succ,List.getElem_cons_zero,List.setIfInBounds_toArray,List.set_cons_zero,List.set_cons_succ];refine wpAnyH_done (by kernel_rfl) ?_ _
  clear x4 HELD hHeld;go_wp2_with fail;have HELD:∀ Wz,Keep w3 Wz→(Wz.cell? ⟨q,1,none⟩=some (.pointer (some ⟨qp,0,none⟩))∧Wz.cell? ⟨bx,0,none⟩=some (.int .i64 x.k)∧Wz.cell? ⟨bx,1,none⟩=some (.int .i64 x.p)∧Wz.cell? ⟨bx,2,none⟩=some (.bool x.f)∧Wz.cell? ⟨bx,3,none⟩=some (.int .i64 x.g)∧Wz.cell? ⟨bx,4,none⟩=some (.slice x.A x.m x.c)∧Wz.cell? ⟨bx,5,none⟩=some (.int .i64 x.a)∧Wz.cell? ⟨bx,6,none⟩=some (.int .i64 x.h)∧Wz.cell? ⟨bx,7,none⟩=some (.int .i64 x.d)∧Wz.cell? ⟨bx,8,none⟩=some (.int .i64 x.t)):=fun Wz KK=>(by have c9:=XC.out Wz (K3.out.trans KK);exact⟨QC.out Wz (K3.out.trans KK),c9.e0,c9.e1,c9.e2,c9.e3,c9.e4,c9.e5,c9.e6,c9.e7,c9.e8⟩)
  refine OrdS.rest_start (fun w'=>w'.cell? ⟨q,1,none⟩=some (.pointer (some ⟨qp,0,none⟩))∧w'.cell? ⟨bx,0,none⟩=some (.int .i64 x.k)∧w'.cell? ⟨bx,1,none⟩=some (.int .i64 x.p)∧w'.cell? ⟨bx,2,none⟩=some (.bool x.f)∧w'.cell? ⟨bx,3,none⟩=some (.int .i64 x.g)∧w'.cell? ⟨bx,4,none⟩=some (.slice x.A x.m x.c)∧w'.cell? ⟨bx,5,none⟩=some (.int .i64 x.a)∧w'.cell? ⟨bx,6,none⟩=some (.int .i64 x.h)∧w'.cell? ⟨bx,7,none⟩=some (.int .i64 x.d)∧w'.cell? ⟨bx,8,none⟩=some (.int .i64 x.t)) [8,9,10,11] (by kernel_rfl) ?_ (fun hHeld=>?_)
  ·exact HELD _ (Keep.refl w3).drew
  obtain⟨wt0,hwt0⟩:∃ W,W=w3.drew:=⟨_,rfl⟩;have Kwt0:Hid (Keep w3 wt0):=by rw[hwt0];exact(Keep.refl _).drew
  rw[← hwt0] at hHeld ⊢;replace hwt0:=Lib.hid hwt0;refine OrdS.rest_take (i:=0) (v:=.pointer (some ⟨q,0,none⟩)) rfl (by kernel_rfl) (by kernel_rfl) (by kernel_rfl) (by kernel_rfl) (by kernel_rfl) (fun _ _ _ h=>h) (Or.inl ⟨by rfl,fun Wz hW=>by obtain⟨p0,p1,p2,p3,p4,p5,p6,p7,p8,p9⟩:=hW;go_simp⟩) hHeld ?_
  simp only[Act.put,List.getElem_toArray,List.getElem_cons_zero,List.setIfInBounds_toArray,List.set_cons_zero,List.set_cons_succ];refine OrdS.rest_take (i:=1) (v:=.pointer (some ⟨q,0,none⟩)) rfl (by kernel_rfl) (by kernel_rfl) (by kernel_rfl) (by kernel_rfl) (by kernel_rfl) (fun _ _ _ h=>h) (Or.inl ⟨by rfl,fun Wz hW=>by obtain⟨p0,p1,p2,p3,p4,p5,p6,p7,p8,p9⟩:=hW;go_simp⟩) hHeld ?_
  simp only[Act.put,List.getElem_toArray,List.getElem_cons_succ,List.getElem_cons_zero,List.setIfInBounds_toArray,List.set_cons_zero,List.set_cons_succ];refine OrdS.rest_take (i:=2) (v:=.pointer (some ⟨q,0,none⟩)) rfl (by kernel_rfl) (by kernel_rfl) (by kernel_rfl) (by kernel_rfl) (by kernel_rfl) (fun _ _ _ h=>h) (Or.inl ⟨by rfl,fun Wz hW=>by obtain⟨p0,p1,p2,p3,p4,p5,p6,p7,p8,p9⟩:=hW;go_simp⟩) hHeld ?_
  simp only[Act.put,List.getElem_toArray,List.getElem_cons_succ,List.getElem_cons_zero,List.setIfInBounds_toArray,List.set_cons_zero,List.set_cons_succ];refine OrdS.rest_take (i:=3) (v:=.pointer (some ⟨q,1,none⟩)) rfl (by kernel_rfl) (by kernel_rfl) (by kernel_rfl) (by kernel_rfl) (by kernel_rfl) (fun _ _ _ h=>h) (Or.inl ⟨by rfl,fun Wz hW=>by obtain⟨p0,p1,p2,p3,p4,p5,p6,p7,p8,p9⟩:=hW;go_simp⟩) hHeld ?_
  simp only[Act.put,List.getElem_toArray,List.getElem_cons_succ,List.getElem_cons_zero,List.setIfInBounds_toArray,List.set_cons_zero,List.set_cons_succ];refine OrdS.rest_take (i:=4) (v:=.pointer (some ⟨q,1,none⟩)) rfl (by kernel_rfl) (by kernel_rfl) (by kernel_rfl) (by kernel_rfl) (by kernel_rfl) (fun _ _ _ h=>h) (Or.inl ⟨by rfl,fun Wz hW=>by obtain⟨p0,p1,p2,p3,p4,p5,p6,p7,p8,p9⟩:=hW;go_simp⟩) hHeld ?_
  simp only[Act.put,List.getElem_toArray,List.getElem_cons_succ,List.getElem_cons_zero,List.setIfInBounds_toArray,List.set_cons_zero,List.set_cons_succ];refine OrdS.rest_take (i:=5) (v:=.pointer (some ⟨qp,0,none⟩)) rfl (by kernel_rfl) (by kernel_rfl) (by kernel_rfl) (by kernel_rfl) (by kernel_rfl) (fun _ _ _ h=>h) (Or.inl ⟨by rfl,fun Wz hW=>by obtain⟨p0,p1,p2,p3,p4,p5,p6,p7,p8,p9⟩:=hW;go_simp⟩) hHeld ?_
  simp only[Act.put,List.getElem_toArray,List.getElem_cons_succ,List.getElem_cons_zero,List.setIfInBounds_toArray,List.set_cons_zero,List.set_cons_succ];refine OrdS.rest_take (i:=6) (v:=.agg #[.int .i64 x.k,.int .i64 x.p,.bool x.f,.int .i64 x.g,.slice x.A x.m x.c,.int .i64 x.a,.int .i64 x.h,.int .i64 x.d,.int .i64 x.t]) rfl (by kernel_rfl) (by kernel_rfl) (by kernel_rfl) (by kernel_rfl) (by kernel_rfl) (fun _ _ _ h=>h) (Or.inl ⟨by rfl,fun Wz hW=>by obtain⟨p0,p1,p2,p3,p4,p5,p6,p7,p8,p9⟩:=hW;go_simp⟩) hHeld ?_
  simp only[Act.put,List.getElem_toArray,List.getElem_cons_succ,List.getElem_cons_zero,List.setIfInBounds_toArray,List.set_cons_zero,List.set_cons_succ];refine OrdS.rest_ready (rs:=[7]) (by kernel_rfl) (by simp) ?_
  refine OrdS.Each.cons rfl (fun K hK=>?_) OrdS.Each.nil
  simp only[List.getElem_toArray,List.getElem_cons_succ,List.getElem_cons_zero];rw[if_pos (by rfl)]
  go_simp
  refine(cA.out _ (K3.out.trans Kwt0.out)).mono ?_;rintro e w5 ⟨r,rfl,n1,n2,HZ,F5⟩;replace n1:=Lib.hid n1;replace n2:=Lib.hid n2;replace F5:=Lib.hid F5;replace HZ:=Lib.hid HZ;go_wp2_with fail;refine hK.out _ _ (fun _=>HZ.out _ (Keep.refl _)) ?_
  have hHeld:=HZ.out _ (Keep.refl _);clear hK K;try simp only[Act.put,List.getElem_toArray,List.getElem_cons_succ,List.getElem_cons_zero,List.setIfInBounds_toArray,List.set_cons_zero,List.set_cons_succ]
  refine OrdS.rest_takeP (i:=8) (v:=.agg #[.int .i64 r.k,.int .i64 r.p,.bool r.f,.int .i64 r.g,.slice r.A r.m r.c,.int .i64 r.a,.int .i64 r.h,.int .i64 r.d,.int .i64 r.t]) rfl (by kernel_rfl) (by kernel_rfl) (by kernel_rfl) (by kernel_rfl) (fun _ _ _ h=>h) (Or.inl ⟨by rfl,fun Wz _=>by go_simp⟩) ?_
  simp only[Act.put,List.getElem_toArray,List.getElem_cons_succ,List.getElem_cons_zero,List.setIfInBounds_toArray,List.set_cons_zero,List.set_cons_succ];refine OrdS.rest_takeP (i:=9) (v:=fv) rfl (by kernel_rfl) (by kernel_rfl) (by kernel_rfl) (by kernel_rfl) (fun _ _ _ h=>h) (Or.inl ⟨by rfl,fun Wz _=>by go_simp⟩) ?_
  simp only[Act.put,List.getElem_toArray,List.getElem_cons_succ,List.getElem_cons_zero,List.setIfInBounds_toArray,List.set_cons_zero,List.set_cons_succ];refine OrdS.rest_ready (rs:=[10]) (by kernel_rfl) (by simp) ?_
  refine OrdS.Each.cons rfl (fun K hK=>?_) OrdS.Each.nil
  simp only[List.getElem_toArray,List.getElem_cons_succ,List.getElem_cons_zero];rw[if_pos (by rfl)]
  obtain⟨d0,d1,d2,d3,d4,d5,d6,d7,d8,g0⟩:=zah F5.out.1;unfold zad at d0 d1 d2 d3 d4 d5 d6 d7 d8
  go_simp
  refine hK.out _ _ (fun e=>absurd (by simp) e) ?_
  clear hK K;refine OrdS.rest_takeP (i:=11) (v:=fv) rfl (by kernel_rfl) (by kernel_rfl) (by kernel_rfl) (by kernel_rfl) (fun _ _ _ h=>h) (Or.inl ⟨by rfl,fun Wz _=>by go_simp⟩) ?_
  simp only[Act.put,List.getElem_toArray,List.getElem_cons_succ,List.getElem_cons_zero,List.setIfInBounds_toArray,List.set_cons_zero,List.set_cons_succ];refine OrdS.rest_done (by kernel_rfl) ?_ _
  go_wp2;obtain⟨_,fb,fi,fr,fc,fx⟩:=F5.out;obtain⟨e0,e1,e2,e3,e4,e5,e6,e7,e8,_⟩:=zah fb;unfold put9 at *;refine bodyPost_ret (v:=.tuple #[.agg #[.int .i64 r.k,.int .i64 r.p,.bool r.f,.int .i64 r.g,.slice r.A r.m r.c,.int .i64 r.a,.int .i64 r.h,.int .i64 r.d,.int .i64 r.t],fv]) (by simp[results,Tryz.results17,go_sem,e0,e1,e2,e3,e4,e5,e6,e7,e8]) rfl ⟨r,rfl,n1.out,n2.out,fi,fr,fc,fx⟩
end
end Go.Proofs.YtihjgcibpfajkaaGreatDoor.T14
namespace Go.Proofs.YtihjgcibpfajkaaGreatDoor.T14
open Go.RowKit Go.Sort Go.Lib V12 T13
end Go.Proofs.YtihjgcibpfajkaaGreatDoor.T14
