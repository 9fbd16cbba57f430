/-
  The landed cluster: Submit. Condition: errors.errorType holds its own.
  The landed cluster: New. No condition.
  The landed cluster is what the laws ask for. Condition: errors.errorType holds its own (where Con says so).
  The landed cluster: New, beside blocks of others. No condition.
-/
import Derived.Test.YtcogiogjpbkeaaaGreatDoorJ0
import Derived.Test.YtcogiogjpbkeaaaGreatDoorJ34
import Derived.Test.YtcogiogjpbkeaaaGreatDoorJ16
namespace Go.Proofs.YtcogiogjpbkeaaaGreatDoor.T14
open Go.RowKit Go.Sort Go.Lib V12 T13
theorem aem(L:List zaa)(s:Int)(x:zaa)(id:Int)(j:Nat):zam (zfs L s x) id j=zam L id j:=by
 unfold zfs
 split
 ·rw[zhc]
  have e:zam [zhi x L.length] id j=0:=by
   unfold zam zam;rw[zol];rfl
  rw[e];omega
 ·rfl
section
variable{w w1 w2:World}{d q:Nat}{M:List NV}{L:List zaa}{X Z:Nat->Prop}{qn qp:Nat}{N:List T12.NodeV}{Xn Xp:Nat->Prop}
set_option maxRecDepth 100000 in
set_option maxHeartbeats 8000000 in
theorem zue(h:zbw w d q M L X w1 qn qp N Xn Xp)(hg:zbk w1)(x:zaa)(hx:zah w1 x)(hm:x.m<=1000)(hl:L.length<=100):Calls Tryz.prog 30 #[.pointer (some ⟨q,0,none⟩),x.val] w1 fun e w'=>∃ r,e=.returned (.tuple #[r.val,zdb (sbC L d x) (wrI d x.m x.Z)])/\(sbC L d x=0->nm r=zhi x L.length)/\(sbC L d x≠0->nm r=zaf)/\zah w' r/\Req w' w1.heap.size r/\CSd w d q M (sbL L d x) X w'/\zbe X w1 w':=by
 have mixed:Tryz.prog.follows .mixedOrders=true:=by kernel_rfl
 have hw0:=h.kp.size;have hX:=h.lt;obtain⟨W0,hW0⟩:=Zn (w1.alloc (.cells (zac x) 26));obtain⟨W,hW⟩:=Zn (W0.alloc (.cells (zac zaf) 26));obtain⟨bx,hbx⟩:=Zn (w1.heap.size);obtain⟨b,hb⟩:=Zn (w1.heap.size+1);have s0:W0.heap.size=b:=by rw[hW0,World.size_alloc,hb]
 have KW:Hid (Keep w1 W):=by rw[hW,hW0];exact(Keep.one _ _:Keep w1 _).alloc _
 have BX:Hid (W.heap[bx]?=some (.cells (zac x) 26 (0,0))):=by show _=_;rw[hW,hW0,hbx];exact(Keep.one _ _).block (heap_alloc_new _ _)
 have Y:Hid (W.heap[b]?=some (.cells (zac zaf) 26 (0,0))):=by show _=_;rw[hW,<- s0];exact heap_alloc_new _ _
 have hbW:b<W.heap.size:=lt_of_block Y.out;have cD:Hid (∀ W',Keep W W'->Calls Tryz.prog 59 #[.pointer (some ⟨q,0,none⟩)] W' fun e w'=>e=.returned (.int .i64 d)/\Keep W' w'):=fun W' k=>zri (h.keep (KW.out.trans k))
 obtain⟨ev,hev⟩:=Zn (if 0<=zak x.m x.Z d then flt 3 (zak x.m x.Z d) else .nilIface)
 have cR:Hid (∀ W',Keep W W'->Calls Tryz.prog 58 #[.slice x.A x.m x.c,.int .i64 d] W' fun e w'=>e=.returned ev/\Keep W' w'):=fun W' k=>by
  rw[hev];exact zny x.A x.m x.c d x.Z W' (hg.keep (KW.out.trans k)) (hx.rd.keep (KW.out.trans k)) hx.nil h.d64
 have ZF:Hid (∀ w',Keep W w'->(put9 w' b zaf).heap[b]?=some (.cells (zac zaf) 26 (0,0))/\CSd w d q M L X (put9 w' b zaf)/\zbe X w1 (put9 w' b zaf)):=fun w' k=>zke h.cs (KW.out.trans k) (by omega) (k.block Y.out)
 have YC:Hid (∀ w',Keep W w'->w'.heap[b]?=some (.cells (zac zaf) 26 (0,0))):=fun w' k=>k.block Y.out
 have XC:Hid (∀ w',Keep W w'->alx w' bx x):=fun w' k=>zae (k.block BX.out)
 unfold zac at hW0;unfold zac zaf at hW
 by_cases hwr:0<=zak x.m x.Z d
 ·have hc:sbC L d x=3:=if_pos hwr
  have hL2:sbL L d x=L:=if_pos hwr;have hi:wrI d x.m x.Z=zak x.m x.Z d:=if_pos hwr;rw[if_pos hwr] at hev;rw[hL2,hi];obtain⟨ci,hci⟩:=Zn (zak x.m x.Z d);rw[<- hci] at hev hwr ⊢;have e2:zdb (sbC L d x) ci=.iface 148 (.agg #[.int .i64 3,.int .i64 ci]):=by rw[hc];exact if_neg (by decide)
  have e3:ev=.iface 148 (.agg #[.int .i64 3,.int .i64 ci]):=hev;rw[e2];have hne:Hid (sbC L d x≠0):=by show ¬_;rw[hc];decide
  obtain⟨cc,hcc⟩:=Zn (sbC L d x);rw[<- hcc] at hne ⊢;replace hcc:=Zq hcc;subst e3;replace hc:=Zq hc;replace hL2:=Zq hL2;replace hi:=Zq hi;replace hci:=Zq hci;clear e2 hev;have x4:=(XC.out W (Keep.refl W)).e4;replace h:=Zq h;replace hX:=Zq hX;replace hw0:=Zq hw0;replace hwr:=Zq hwr;replace hg:=Zq hg;replace hx:=Zq hx;unfold zaa.val
  go_enter Tryz.func30,Tryz.ntmps30
  go_wp2_with fail;rw[<- hW0,<- hW];try rw[<- hb]
  try rw[<- hbx]
  replace hW0:=Zq hW0;replace hW:=Zq hW;replace hb:=Zq hb;replace hbx:=Zq hbx;replace s0:=Zq s0;replace hbW:=Zq hbW;have HELD:∀ Wz,Keep W Wz->(Wz.cell? ⟨bx,4,none⟩=some (.slice x.A x.m x.c)):=fun Wz KK=>KK.cell x4
  refine wp_region_held_drew (S:=fun w'=>w'.cell? ⟨bx,4,none⟩=some (.slice x.A x.m x.c)) (by kernel_rfl) ?_ (fun hHeld=>?_)
  ·exact HELD _ (by repeat (with_reducible first | exact Keep.refl W | apply Keep.alloc | apply Keep.drew | apply Keep.drewN))
  refine Zt 0 (.pointer (some ⟨bx,4,none⟩)) hHeld ?_
  simp only[Act.put,Zp];refine Zt 1 (.slice x.A x.m x.c) hHeld ?_
  simp only[Act.put,Zp];refine Zt 2 (.pointer (some ⟨q,0,none⟩)) hHeld ?_
  simp only[Act.put,Zp];refine wpAnyH_ready (rs:=[3]) (by kernel_rfl) (by simp) ?_
  refine AllReadyH.cons rfl (fun K hK=>?_) AllReadyH.nil
  simp only[Zp];rw[if_pos (by rfl)]
  go_simp
  refine(cD.out _ (by repeat (with_reducible first | exact Keep.refl W | apply Keep.alloc | apply Keep.drew | apply Keep.drewN))).mono ?_
  rintro e w2 ⟨rfl,k2⟩;have K2:Hid (Keep W w2):=((Keep.refl _).drew:Keep W _).trans k2;replace k2:=Zq k2;go_wp2_with fail;refine hK.out _ _ ?_ (fun hHeld=>?_)
  ·exact HELD _ K2.out
  clear hK K;try simp only[Act.put,Zp]
  refine wpAnyH_ready (rs:=[4]) (by kernel_rfl) (by simp) ?_
  refine AllReadyH.cons rfl (fun K hK=>?_) AllReadyH.nil
  simp only[Zp];rw[if_pos (by rfl)]
  go_simp
  refine(cR.out w2 K2.out).mono ?_;rintro e w3 ⟨rfl,k3⟩;have K3:Hid (Keep W w3):=K2.out.trans k3;replace k3:=Zq k3;go_wp2_with fail;refine hK.out _ _ ?_ (fun hHeld=>?_)
  ·exact HELD _ K3.out
  clear hK K;try simp only[Act.put,Zp]
  refine Zt 5 (.iface 148 (.agg #[.int .i64 3,.int .i64 ci])) hHeld ?_
  simp only[Act.put,Zp];refine wpAnyH_done (by kernel_rfl) ?_ _
  clear x4 HELD hHeld;obtain⟨d0,d1,d2,d3,d4,d5,d6,d7,d8,g0⟩:=zae (YC.out w3 K3.out);unfold zaf at d0 d1 d2 d3 d4 d5 d6 d7 d8;go_wp2;obtain⟨z,cs,sx⟩:=ZF.out w3 K3.out;obtain⟨e0,e1,e2,e3,e4,e5,e6,e7,e8,_⟩:=zae z;unfold put9 zaf at *;refine bodyPost_ret (v:=.tuple #[.agg #[.int .i64 0,.int .i64 0,.bool false,.int .i64 0,.slice none 0 0,.int .i64 0,.int .i64 0,.int .i64 0,.int .i64 0],.iface 148 (.agg #[.int .i64 3,.int .i64 ci])]) (by simp[results,Tryz.results30,go_sem,e0,e1,e2,e3,e4,e5,e6,e7,e8]) rfl ⟨zaf,rfl,fun h=>absurd h hne.out,fun _=>rfl,zcb _,zby _ _,cs,sx⟩
 ·have hc:sbC L d x=zez L 65536 x:=if_neg hwr
  have hL2:sbL L d x=zfs L 65536 x:=if_neg hwr;have hi:wrI d x.m x.Z=0:=if_neg hwr;rw[if_neg hwr] at hev;obtain⟨fv,hfv⟩:=Zn (zdb (sbC L d x) (wrI d x.m x.Z));rw[<- hfv];have hok:Ok d M (sbL L d x):=ali h.ok;have huse:∀ y∈N,∀ j,j<d->y.U j=zam (sbL L d x) y.k j:=fun y hy j hj=>by
   rw[hL2,aem];exact h.use y hy j hj
  have cA:Hid (∀ W',Keep W W'->Calls Tryz.prog 60 #[.pointer (some ⟨qp,0,none⟩),x.val] W' fun e w5=>∃ r,e=.returned (.tuple #[r.val,fv])/\(sbC L d x=0->nm r=zhi x L.length)/\(sbC L d x≠0->nm r=zaf)/\(∀ Wz,Keep w5 Wz->(Wz.cell? ⟨q,1,none⟩=some (.pointer (some ⟨qp,0,none⟩))/\Wz.cell? ⟨bx,0,none⟩=some (.int .i64 x.k)/\Wz.cell? ⟨bx,1,none⟩=some (.int .i64 x.p)/\Wz.cell? ⟨bx,2,none⟩=some (.bool x.f)/\Wz.cell? ⟨bx,3,none⟩=some (.int .i64 x.g)/\Wz.cell? ⟨bx,4,none⟩=some (.slice x.A x.m x.c)/\Wz.cell? ⟨bx,5,none⟩=some (.int .i64 x.a)/\Wz.cell? ⟨bx,6,none⟩=some (.int .i64 x.h)/\Wz.cell? ⟨bx,7,none⟩=some (.int .i64 x.d)/\Wz.cell? ⟨bx,8,none⟩=some (.int .i64 x.t)))/\(w5.heap[b]?=some (.cells (zac zaf) 26 (0,0))/\(put9 w5 b r).heap[b]?=some (.cells (zac r) 26 (0,0))/\zah (put9 w5 b r) r/\Req (put9 w5 b r) w1.heap.size r/\CSd w d q M (sbL L d x) X (put9 w5 b r)/\zbe X w1 (put9 w5 b r))):=fun W' k=>by
   have kk:=KW.out.trans k;have h2:=h.keep kk;have hsz:w1.heap.size<W'.heap.size:=by have:=k.size;omega
   refine(zfy.submit x h2.os (hg.keep kk) (hx.keep kk) hm (by omega)).mono ?_
   rintro e w5 ⟨r,he,h3,h4,h5,h6,o,sx⟩;have hs:=zzf o (zes _ hsz);rw[<- hL2] at o;have h7:=(h2.m.pods o sx hs).at h.nds huse hok;have hbx1:zef w1 W' bx:=⟨by omega,by have:=k.size;omega⟩
   refine⟨r,by rw[he,hfv,hc,hi];rfl,by rw[hc];exact h3,by rw[hc];exact h4,fun Wz kz=>?_,zgb kk ⟨by omega,by have:=k.size;omega⟩ hw0 (k.block Y.out) h7.cs (fun i hi=>sx i (h2.sub i hi).2) hX h5 h6 (Nat.le_refl _)⟩
   have c9:=zae (kz.block ((sx bx (Or.inr hbx1)).trans (k.block BX.out)));exact⟨kz.cell h7.c2.2,c9.e0,c9.e1,c9.e2,c9.e3,c9.e4,c9.e5,c9.e6,c9.e7,c9.e8⟩
  have QC:Hid (∀ W',Keep W W'->W'.cell? ⟨q,1,none⟩=some (.pointer (some ⟨qp,0,none⟩))):=fun W' k=>(h.keep (KW.out.trans k)).c2.2
  subst hev;replace hc:=Zq hc;replace hL2:=Zq hL2;replace hi:=Zq hi;replace hfv:=Zq hfv;replace hok:=Zq hok;replace huse:=Zq huse;obtain⟨cc,hcc⟩:=Zn (sbC L d x);rw[<- hcc] at cA ⊢;replace hcc:=Zq hcc;have x4:=(XC.out W (Keep.refl W)).e4;replace h:=Zq h;replace hX:=Zq hX;replace hw0:=Zq hw0;replace hwr:=Zq hwr;replace hg:=Zq hg;replace hx:=Zq hx;unfold zaa.val at cA ⊢
  go_enter Tryz.func30,Tryz.ntmps30
  go_wp2_with fail;rw[<- hW0,<- hW];try rw[<- hb]
  try rw[<- hbx]
  replace hW0:=Zq hW0;replace hW:=Zq hW;replace hb:=Zq hb;replace hbx:=Zq hbx;replace s0:=Zq s0;replace hbW:=Zq hbW;have HELD:∀ Wz,Keep W Wz->(Wz.cell? ⟨bx,4,none⟩=some (.slice x.A x.m x.c)):=fun Wz KK=>KK.cell x4
  refine wp_region_held_drew (S:=fun w'=>w'.cell? ⟨bx,4,none⟩=some (.slice x.A x.m x.c)) (by kernel_rfl) ?_ (fun hHeld=>?_)
  ·exact HELD _ (by repeat (with_reducible first | exact Keep.refl W | apply Keep.alloc | apply Keep.drew | apply Keep.drewN))
  refine Zt 0 (.pointer (some ⟨bx,4,none⟩)) hHeld ?_
  simp only[Act.put,Zp];refine Zt 1 (.slice x.A x.m x.c) hHeld ?_
  simp only[Act.put,Zp];refine Zt 2 (.pointer (some ⟨q,0,none⟩)) hHeld ?_
  simp only[Act.put,Zp];refine wpAnyH_ready (rs:=[3]) (by kernel_rfl) (by simp) ?_
  refine AllReadyH.cons rfl (fun K hK=>?_) AllReadyH.nil
  simp only[Zp];rw[if_pos (by rfl)]
  go_simp
  refine(cD.out _ (by repeat (with_reducible first | exact Keep.refl W | apply Keep.alloc | apply Keep.drew | apply Keep.drewN))).mono ?_
  rintro e w2 ⟨rfl,k2⟩;have K2:Hid (Keep W w2):=((Keep.refl _).drew:Keep W _).trans k2;replace k2:=Zq k2;go_wp2_with fail;refine hK.out _ _ ?_ (fun hHeld=>?_)
  ·exact HELD _ K2.out
  clear hK K;try simp only[Act.put,Zp]
  refine wpAnyH_ready (rs:=[4]) (by kernel_rfl) (by simp) ?_
  refine AllReadyH.cons rfl (fun K hK=>?_) AllReadyH.nil
  simp only[Zp];rw[if_pos (by rfl)]
  go_simp
  refine(cR.out w2 K2.out).mono ?_;rintro e w3 ⟨rfl,k3⟩;have K3:Hid (Keep W w3):=K2.out.trans k3;replace k3:=Zq k3;go_wp2_with fail;refine hK.out _ _ ?_ (fun hHeld=>?_)
  ·exact HELD _ K3.out
  clear hK K;try simp only[Act.put,Zp]
  refine Zt 5 (.nilIface) hHeld ?_
  simp only[Act.put,Zp];refine wpAnyH_done (by kernel_rfl) ?_ _
  clear x4 HELD hHeld;go_wp2_with fail;have HELD:∀ Wz,Keep w3 Wz->(Wz.cell? ⟨q,1,none⟩=some (.pointer (some ⟨qp,0,none⟩))/\Wz.cell? ⟨bx,0,none⟩=some (.int .i64 x.k)/\Wz.cell? ⟨bx,1,none⟩=some (.int .i64 x.p)/\Wz.cell? ⟨bx,2,none⟩=some (.bool x.f)/\Wz.cell? ⟨bx,3,none⟩=some (.int .i64 x.g)/\Wz.cell? ⟨bx,4,none⟩=some (.slice x.A x.m x.c)/\Wz.cell? ⟨bx,5,none⟩=some (.int .i64 x.a)/\Wz.cell? ⟨bx,6,none⟩=some (.int .i64 x.h)/\Wz.cell? ⟨bx,7,none⟩=some (.int .i64 x.d)/\Wz.cell? ⟨bx,8,none⟩=some (.int .i64 x.t)):=fun Wz KK=>(by have c9:=XC.out Wz (K3.out.trans KK);exact⟨QC.out Wz (K3.out.trans KK),c9.e0,c9.e1,c9.e2,c9.e3,c9.e4,c9.e5,c9.e6,c9.e7,c9.e8⟩)
  refine OrdS.rest_start (fun w'=>w'.cell? ⟨q,1,none⟩=some (.pointer (some ⟨qp,0,none⟩))/\w'.cell? ⟨bx,0,none⟩=some (.int .i64 x.k)/\w'.cell? ⟨bx,1,none⟩=some (.int .i64 x.p)/\w'.cell? ⟨bx,2,none⟩=some (.bool x.f)/\w'.cell? ⟨bx,3,none⟩=some (.int .i64 x.g)/\w'.cell? ⟨bx,4,none⟩=some (.slice x.A x.m x.c)/\w'.cell? ⟨bx,5,none⟩=some (.int .i64 x.a)/\w'.cell? ⟨bx,6,none⟩=some (.int .i64 x.h)/\w'.cell? ⟨bx,7,none⟩=some (.int .i64 x.d)/\w'.cell? ⟨bx,8,none⟩=some (.int .i64 x.t)) [8,9,10,11] (by kernel_rfl) ?_ (fun hHeld=>?_)
  ·exact HELD _ (Keep.refl w3).drew
  obtain⟨wt0,hwt0⟩:=Zn (w3.drew);have Kwt0:Hid (Keep w3 wt0):=by rw[hwt0];exact(Keep.refl _).drew
  rw[<- hwt0] at hHeld ⊢;replace hwt0:=Zq hwt0;refine OrdS.rt 0 (.pointer (some ⟨q,0,none⟩)) hHeld ?_
  simp only[Act.put,Zp];refine OrdS.rt 1 (.pointer (some ⟨q,0,none⟩)) hHeld ?_
  simp only[Act.put,Zp];refine OrdS.rt 2 (.pointer (some ⟨q,0,none⟩)) hHeld ?_
  simp only[Act.put,Zp];refine OrdS.rt 3 (.pointer (some ⟨q,1,none⟩)) hHeld ?_
  simp only[Act.put,Zp];refine OrdS.rt 4 (.pointer (some ⟨q,1,none⟩)) hHeld ?_
  simp only[Act.put,Zp];refine OrdS.rt 5 (.pointer (some ⟨qp,0,none⟩)) hHeld ?_
  simp only[Act.put,Zp];refine OrdS.rt 6 (.agg #[.int .i64 x.k,.int .i64 x.p,.bool x.f,.int .i64 x.g,.slice x.A x.m x.c,.int .i64 x.a,.int .i64 x.h,.int .i64 x.d,.int .i64 x.t]) hHeld ?_
  simp only[Act.put,Zp];refine OrdS.rest_ready (rs:=[7]) (by kernel_rfl) (by simp) ?_
  refine OrdS.Each.cons rfl (fun K hK=>?_) OrdS.Each.nil
  simp only[Zp];rw[if_pos (by rfl)]
  go_simp
  refine(cA.out _ (K3.out.trans Kwt0.out)).mono ?_;rintro e w5 ⟨r,rfl,n1,n2,HZ,F5⟩;replace n1:=Zq n1;replace n2:=Zq n2;replace F5:=Zq F5;replace HZ:=Zq HZ;go_wp2_with fail;refine hK.out _ _ (fun _=>HZ.out _ (Keep.refl _)) ?_
  have hHeld:=HZ.out _ (Keep.refl _);clear hK K;try simp only[Act.put,Zp]
  refine OrdS.rest_takeP (i:=8) (v:=.agg #[.int .i64 r.k,.int .i64 r.p,.bool r.f,.int .i64 r.g,.slice r.A r.m r.c,.int .i64 r.a,.int .i64 r.h,.int .i64 r.d,.int .i64 r.t]) rfl (by kernel_rfl) (by kernel_rfl) (by kernel_rfl) (by kernel_rfl) (fun _ _ _ h=>h) (Or.inl ⟨by rfl,fun Wz _=>by go_simp⟩) ?_
  simp only[Act.put,Zp];refine OrdS.rest_takeP (i:=9) (v:=fv) rfl (by kernel_rfl) (by kernel_rfl) (by kernel_rfl) (by kernel_rfl) (fun _ _ _ h=>h) (Or.inl ⟨by rfl,fun Wz _=>by go_simp⟩) ?_
  simp only[Act.put,Zp];refine OrdS.rest_ready (rs:=[10]) (by kernel_rfl) (by simp) ?_
  refine OrdS.Each.cons rfl (fun K hK=>?_) OrdS.Each.nil
  simp only[Zp];rw[if_pos (by rfl)]
  obtain⟨d0,d1,d2,d3,d4,d5,d6,d7,d8,g0⟩:=zae F5.out.1;unfold zaf at d0 d1 d2 d3 d4 d5 d6 d7 d8
  go_simp
  refine hK.out _ _ (fun e=>absurd (by simp) e) ?_
  clear hK K;refine OrdS.rest_takeP (i:=11) (v:=fv) rfl (by kernel_rfl) (by kernel_rfl) (by kernel_rfl) (by kernel_rfl) (fun _ _ _ h=>h) (Or.inl ⟨by rfl,fun Wz _=>by go_simp⟩) ?_
  simp only[Act.put,Zp];refine OrdS.rest_done (by kernel_rfl) ?_ _
  go_wp2;obtain⟨_,fb,fi,fr,fc,fx⟩:=F5.out;obtain⟨e0,e1,e2,e3,e4,e5,e6,e7,e8,_⟩:=zae fb;unfold put9 at *;refine bodyPost_ret (v:=.tuple #[.agg #[.int .i64 r.k,.int .i64 r.p,.bool r.f,.int .i64 r.g,.slice r.A r.m r.c,.int .i64 r.a,.int .i64 r.h,.int .i64 r.d,.int .i64 r.t],fv]) (by simp[results,Tryz.results30,go_sem,e0,e1,e2,e3,e4,e5,e6,e7,e8]) rfl ⟨r,rfl,n1.out,n2.out,fi,fr,fc,fx⟩
end
end Go.Proofs.YtcogiogjpbkeaaaGreatDoor.T14
namespace Go.Proofs.YtcogiogjpbkeaaaGreatDoor.T14
open Go.RowKit Go.Sort Go.Lib V12 T13
end Go.Proofs.YtcogiogjpbkeaaaGreatDoor.T14
namespace Go.Proofs.YtcogiogjpbkeaaaGreatDoor.T14
open Go.RowKit Go.Sort Go.Lib V12 T13
theorem con14:Con CSd where
 kp:=fun h=>h.kp
 keep:=fun h k=>h.keep k
 more:=fun h k hZ=>h.more k hZ
 less:=fun h hZ=>h.less hZ
 write:=fun h kw hs f=>h.write kw hs f
 lt:=fun h=>h.lt
 ok:=fun h=>h.ok
 addNode:=by
  rintro w d q M L X w1 k A n c Z ⟨qn,qp,N,Xn,Xp,h⟩ hg hv nilA hk _ _;exact afn h hg k A n c Z hv nilA hk
 submit:=by
  rintro w d q M L X w1 x ⟨qn,qp,N,Xn,Xp,h⟩ hg hx hm hl;exact zue h hg x hx hm hl
 bind:=by
  rintro w d q M L X w1 id nd ⟨qn,qp,N,Xn,Xp,h⟩ hg hid hnd _ hl;exact aae h id nd hid hnd hl
 claim:=by
  rintro w d q M L X w1 id nd ⟨qn,qp,N,Xn,Xp,h⟩ hg hid hnd _ hl;exact zxt h id nd hid hnd hl
 change:=by
  rintro w d q M L X w1 id ev dl ⟨qn,qp,N,Xn,Xp,h⟩ hg hid hev hdl _ hl;exact ztv h id ev dl hid hev hdl hl
 node:=by
  rintro w d q M L X w1 id ⟨qn,qp,N,Xn,Xp,h⟩ _ _
  exact(aai h id).mono fun _ _ ⟨k,A,n,c,e,a,b,kk⟩=>⟨k,A,n,c,e,fun hk=>by
   obtain⟨a1,a2,a3,a4⟩:=a hk
   exact⟨a1,a2,a3,a4⟩,b,kk⟩
 on:=by
  rintro w d q M L X w1 nd ⟨qn,qp,N,Xn,Xp,h⟩ _ hl;exact ajt h nd hl
 dims:=by
  rintro w d q M L X w1 ⟨qn,qp,N,Xn,Xp,h⟩;exact zri h
end Go.Proofs.YtcogiogjpbkeaaaGreatDoor.T14
namespace Go.Proofs.YtcogiogjpbkeaaaGreatDoor.T15
open Go.RowKit Go.Sort Go.Lib V12 T13 T14
set_option maxRecDepth 100000 in
set_option maxHeartbeats 4000000 in
theorem new15:zhj CSd:=by
 intro d w w0 X k hX hd;have hN:=Zq (abm d 1024 w w0 (fun i=>i<w0.heap.size) k hd (by omega) (by unfold I64;omega) (fun _ h=>h))
 have hP:Hid (∀ W,Keep w0 W->Calls Tryz.prog 53 #[.int .i64 65536] W fun e w'=>∃ p,e=.returned (.pointer (some ⟨p,0,none⟩))/\OSd w 65536 p [] (fun i=>i<W.heap.size) w'/\Keep W w'):=fun W k2=>ajd 65536 w W (fun i=>i<W.heap.size) (k.trans k2) (by unfold I64;omega) (fun _ h=>h)
 have k':=Zq k;have hX:=Zq hX;clear k
 go_enter Tryz.func26,Tryz.ntmps26
 go_wp2_with fail;refine hN.out.mono ?_;rintro e w2 ⟨qn,rfl,o,k2,_⟩;replace o:=Zq o;replace k2:=Zq k2;go_wp2_with fail;refine(hP.out w2 k2.out).mono ?_;rintro e w3 ⟨qp,rfl,p,k3⟩;replace p:=Zq p;replace k3:=Zq k3;go_wp2;go_ret
 obtain⟨w4,hw4⟩:=Zn (w3.alloc (.cells #[.pointer (some ⟨qn,0,none⟩),.pointer (some ⟨qp,0,none⟩)] 98));have k4:Keep w3 w4:=by rw[hw4];exact Keep.one _ _
 have B4:w4.heap[w3.heap.size]?=some (.cells #[.pointer (some ⟨qn,0,none⟩),.pointer (some ⟨qp,0,none⟩)] 98 (0,0)):=by rw[hw4];exact heap_alloc_new _ _
 have k24:=k3.out.trans k4;have hlt:=lt_of_block B4;have s3:=k3.out.size;have s2:=k2.out.size;refine⟨w3.heap.size,rfl,?_,k2.out.trans (by rw[<- hw4];exact k24)⟩
 rw[<- hw4];refine⟨qn,qp,[],fun i=>i<w0.heap.size\/zef w2 w4 i,fun i=>i<w2.heap.size\/zef w3 w4 i,B4,?_,o.out.grow (o.out.kp.trans k24) k24.size (fun i hi _=>Below.block k24 i hi) fun _ h=>h,zfy.more p.out k4 fun _ h=>h,Or.inr ⟨s3,hlt⟩,Or.inr ⟨Nat.le_refl _,hlt⟩,fun hq=>?_,fun i hi=>⟨Or.inl (hX.out i hi),Or.inl (Nat.lt_of_lt_of_le (hX.out i hi) s2)⟩,fun i hi=>?_,rfl,fun _ h=>(by cases h),Ok.nil d⟩
 ·have:=k'.out.size
  omega
 ·have:=hX.out _ hq
  omega
 ·by_cases h1:i<w2.heap.size
  ·exact Or.inr (Or.inl h1)
  ·exact Or.inl (Or.inr ⟨by omega,hi⟩)
end Go.Proofs.YtcogiogjpbkeaaaGreatDoor.T15
