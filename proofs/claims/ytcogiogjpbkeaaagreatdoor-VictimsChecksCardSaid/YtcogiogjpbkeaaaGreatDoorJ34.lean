/-
  The landed cluster: Change. Condition: errors.errorType holds its own.
-/
import Derived.Test.YtcogiogjpbkeaaaGreatDoorJ0
import Derived.Test.YtcogiogjpbkeaaaGreatDoorJ33
namespace Go.Proofs.YtcogiogjpbkeaaaGreatDoor.T14
open Go.RowKit Go.Sort Go.Lib V12 T13
section
variable{w w1 w2:World}{d q:Nat}{M:List NV}{L:List zaa}{X Z:Nat->Prop}{qn qp:Nat}{N:List T12.NodeV}{Xn Xp:Nat->Prop}
theorem afi{L:List zaa}{id e nd dl:Int}(h:zca L id e≠0):zde L id e nd dl=L:=by
 unfold zde;rw[if_neg h]
set_option maxRecDepth 100000 in
set_option maxHeartbeats 16000000 in
theorem ztv(h:zbw w d q M L X w1 qn qp N Xn Xp)(id ev dl:Int)(hid:I64 id)(hev:I64 ev)(hdl:I64 dl)(hl:L.length<=100):Calls Tryz.prog 63 #[.pointer (some ⟨q,0,none⟩),.int .i64 id,.int .i64 ev,.int .i64 dl] w1 fun e w'=>∃ r,e=.returned (.tuple #[r.val,zdb (cgC L id ev) (0)])/\(cgC L id ev=0->nm r=zay (getL L id) ev (-1) dl)/\(cgC L id ev≠0->nm r=zaf)/\zah w' r/\Req w' w1.heap.size r/\CSd w d q M (cgL L id ev dl) X w'/\zbe X w1 w':=by
 have hw0:=h.kp.size;have hX:=h.lt;obtain⟨W,hW⟩:=Zn (w1.alloc (.cells (zac zaf) 26));have KW:Hid (Keep w1 W):=by rw[hW];exact Keep.one _ _
 obtain⟨b,hb⟩:=Zn (w1.heap.size);have Y:Hid (W.heap[b]?=some (.cells (zac zaf) 26 (0,0))):=by show _=_;rw[hW,hb];exact heap_alloc_new _ _
 have hbW:b<W.heap.size:=lt_of_block Y.out;have cB:Hid (Calls Tryz.prog 54 #[.pointer (some ⟨q,0,none⟩)] W fun e w'=>e=.returned (.agg #[.pointer (some ⟨qn,0,none⟩),.pointer (some ⟨qp,0,none⟩)])/\Keep W w'):=zgw (h.keep KW.out).c2.1 (h.keep KW.out).c2.2
 have YC:Hid (∀ w',Keep W w'->w'.heap[b]?=some (.cells (zac zaf) 26 (0,0))):=fun w' k=>k.block Y.out
 have ZF:Hid (∀ w',Keep W w'->(put9 w' b zaf).heap[b]?=some (.cells (zac zaf) 26 (0,0))/\CSd w d q M L X (put9 w' b zaf)/\zbe X w1 (put9 w' b zaf)):=fun w' k=>zke h.cs (KW.out.trans k) (by omega) (k.block Y.out)
 have cC:Hid (∀ W',Keep W W'->Calls Tryz.prog 102 #[.pointer (some ⟨qp,0,none⟩),.int .i64 id] W' fun e w'=>∃ r,e=.returned (.tuple #[r.val,.bool (decide (id∈keys L))])/\nm r=getL L id/\zah w' r/\Req w' W'.heap.size r/\Keep W' w'):=fun W' k=>zfy.get id (h.keep (KW.out.trans k)).os hid h.m1000
 have cE:Hid (∀ c n W,Calls Tryz.prog 57 #[.int .i64 c,.int .i64 n] W fun e w'=>e=.returned (.iface 148 (.agg #[.int .i64 c,.int .i64 n]))/\W=w'):=fun c n W=>zgd c n W
 unfold zac zaf at hW
 by_cases hk:id∉keys L
 ·have hc:cgC L id ev=5:=by
   unfold cgC;rw[if_neg fun hh=>hk hh.1]
   exact if_pos hk
  have hne:Hid ((5:Int)≠0):=by show ¬_;decide
  have hL2:cgL L id ev dl=L:=by
   unfold cgL;rw[if_neg (by rw[hc];decide)]
  rw[hL2,hc];have e2:zdb 5 0=.iface 148 (.agg #[.int .i64 5,.int .i64 0]):=rfl;rw[e2];replace hL2:=Zq hL2;replace hc:=Zq hc;rw[decide_eq_false hk] at cC;replace hk:=Zq hk;clear e2 h
  go_enter Tryz.func63,Tryz.ntmps63
  go_wp2_with fail;rw[<- hW];try rw[<- hb]
  replace hW:=Zq hW;replace hb:=Zq hb;replace hbW:=Zq hbW;replace hX:=Zq hX;replace hw0:=Zq hw0;refine cB.out.mono ?_;rintro e w2 ⟨rfl,k2⟩;obtain⟨W2,hW2⟩:=Zn (w2.alloc (.cells #[.pointer (some ⟨qn,0,none⟩),.pointer (some ⟨qp,0,none⟩)] 96));obtain⟨b8,hb8⟩:=Zn (w2.heap.size);have K2:Hid (Keep W W2):=by rw[hW2];exact k2.alloc _
  have B8:Hid (W2.heap[b8]?=some (.cells #[.pointer (some ⟨qn,0,none⟩),.pointer (some ⟨qp,0,none⟩)] 96 (0,0))):=by show _=_;rw[hW2,hb8];exact heap_alloc_new _ _
  obtain⟨t0,t1,_⟩:=T12.cel2 B8.out;rw[hW2,hb8] at t0 t1;replace k2:=Zq k2;go_wp2_with fail;rw[<- hW2];try rw[<- hb8]
  replace hW2:=Zq hW2;replace hb8:=Zq hb8;clear t0 t1;refine(cC.out W2 K2.out).mono ?_;rintro e w3 ⟨r,rfl,hn,hi,hr,k3⟩;obtain⟨W3,hW3⟩:=Zn (w3.alloc (.cells (zac r) 26));obtain⟨b9,hb9⟩:=Zn (w3.heap.size);have K23:Hid (Keep W2 W3):=by rw[hW3];exact k3.alloc _
  have KA:Hid (Keep w3 W3):=by rw[hW3];exact Keep.one _ _
  have K3:Hid (Keep W W3):=K2.out.trans K23.out;have B9:Hid (W3.heap[b9]?=some (.cells (zac r) 26 (0,0))):=by show _=_;rw[hW3,hb9];exact heap_alloc_new _ _
  have HI:=Zq (hi.keep KA.out);have u4:=(zae B9.out).e4;obtain⟨t0,t1,_⟩:=T12.cel2 (K23.out.block B8.out);obtain⟨d0,d1,d2,d3,d4,d5,d6,d7,d8,g0⟩:=zae (YC.out W3 K3.out);unfold zaf at d0 d1 d2 d3 d4 d5 d6 d7 d8;unfold zac at hW3;rw[hW3,hb9] at u4;rw[hW3] at t0 t1 d0 d1 d2 d3 d4 d5 d6 d7 d8 g0;replace hn:=Zq hn;replace hi:=Zq hi;replace hr:=Zq hr;replace k3:=Zq k3;unfold zaa.val;go_wp2_with fail;refine(cE.out 5 0 _).mono ?_;rintro e w8 ⟨rfl,rfl⟩;go_wp2;rw[<- hW3];obtain⟨z,cs,sx⟩:=ZF.out W3 K3.out;obtain⟨e0,e1,e2,e3,e4,e5,e6,e7,e8,_⟩:=zae z;unfold put9 zaf at *;refine bodyPost_ret (v:=.tuple #[.agg #[.int .i64 0,.int .i64 0,.bool false,.int .i64 0,.slice none 0 0,.int .i64 0,.int .i64 0,.int .i64 0,.int .i64 0],.iface 148 (.agg #[.int .i64 (5),.int .i64 (0)])]) (by simp[results,Tryz.results63,go_sem,e0,e1,e2,e3,e4,e5,e6,e7,e8]) rfl ⟨zaf,rfl,fun h=>absurd h (hne.out),fun _=>rfl,zcb _,zby _ _,cs,sx⟩
 replace hk:=Classical.not_not.1 hk
 by_cases he:ev=1
 ·have hc:cgC L id ev=8:=if_pos ⟨hk,Or.inl he⟩
  have hne:Hid ((8:Int)≠0):=by show ¬_;decide
  have hL2:cgL L id ev dl=L:=by
   unfold cgL;rw[if_neg (by rw[hc];decide)]
  rw[hL2,hc];have e2:zdb 8 0=.iface 148 (.agg #[.int .i64 8,.int .i64 0]):=rfl;rw[e2];replace hL2:=Zq hL2;replace hc:=Zq hc;rw[decide_eq_true hk] at cC;replace hk:=Zq hk;clear e2 h;subst he
  go_enter Tryz.func63,Tryz.ntmps63
  go_wp2_with fail;rw[<- hW];try rw[<- hb]
  replace hW:=Zq hW;replace hb:=Zq hb;replace hbW:=Zq hbW;replace hX:=Zq hX;replace hw0:=Zq hw0;refine cB.out.mono ?_;rintro e w2 ⟨rfl,k2⟩;obtain⟨W2,hW2⟩:=Zn (w2.alloc (.cells #[.pointer (some ⟨qn,0,none⟩),.pointer (some ⟨qp,0,none⟩)] 96));obtain⟨b8,hb8⟩:=Zn (w2.heap.size);have K2:Hid (Keep W W2):=by rw[hW2];exact k2.alloc _
  have B8:Hid (W2.heap[b8]?=some (.cells #[.pointer (some ⟨qn,0,none⟩),.pointer (some ⟨qp,0,none⟩)] 96 (0,0))):=by show _=_;rw[hW2,hb8];exact heap_alloc_new _ _
  obtain⟨t0,t1,_⟩:=T12.cel2 B8.out;rw[hW2,hb8] at t0 t1;replace k2:=Zq k2;go_wp2_with fail;rw[<- hW2];try rw[<- hb8]
  replace hW2:=Zq hW2;replace hb8:=Zq hb8;clear t0 t1;refine(cC.out W2 K2.out).mono ?_;rintro e w3 ⟨r,rfl,hn,hi,hr,k3⟩;obtain⟨W3,hW3⟩:=Zn (w3.alloc (.cells (zac r) 26));obtain⟨b9,hb9⟩:=Zn (w3.heap.size);have K23:Hid (Keep W2 W3):=by rw[hW3];exact k3.alloc _
  have KA:Hid (Keep w3 W3):=by rw[hW3];exact Keep.one _ _
  have K3:Hid (Keep W W3):=K2.out.trans K23.out;have B9:Hid (W3.heap[b9]?=some (.cells (zac r) 26 (0,0))):=by show _=_;rw[hW3,hb9];exact heap_alloc_new _ _
  have HI:=Zq (hi.keep KA.out);have u4:=(zae B9.out).e4;obtain⟨t0,t1,_⟩:=T12.cel2 (K23.out.block B8.out);obtain⟨d0,d1,d2,d3,d4,d5,d6,d7,d8,g0⟩:=zae (YC.out W3 K3.out);unfold zaf at d0 d1 d2 d3 d4 d5 d6 d7 d8;unfold zac at hW3;rw[hW3,hb9] at u4;rw[hW3] at t0 t1 d0 d1 d2 d3 d4 d5 d6 d7 d8 g0;replace hn:=Zq hn;replace hi:=Zq hi;replace hr:=Zq hr;replace k3:=Zq k3;unfold zaa.val;go_wp2_with fail;refine(cE.out 8 0 _).mono ?_;rintro e w8 ⟨rfl,rfl⟩;go_wp2;rw[<- hW3];obtain⟨z,cs,sx⟩:=ZF.out W3 K3.out;obtain⟨e0,e1,e2,e3,e4,e5,e6,e7,e8,_⟩:=zae z;unfold put9 zaf at *;refine bodyPost_ret (v:=.tuple #[.agg #[.int .i64 0,.int .i64 0,.bool false,.int .i64 0,.slice none 0 0,.int .i64 0,.int .i64 0,.int .i64 0,.int .i64 0],.iface 148 (.agg #[.int .i64 (8),.int .i64 (0)])]) (by simp[results,Tryz.results63,go_sem,e0,e1,e2,e3,e4,e5,e6,e7,e8]) rfl ⟨zaf,rfl,fun h=>absurd h (hne.out),fun _=>rfl,zcb _,zby _ _,cs,sx⟩
 have he1:=he;clear he
 by_cases he:ev=2
 ·have hc:cgC L id ev=8:=if_pos ⟨hk,Or.inr he⟩
  have hne:Hid ((8:Int)≠0):=by show ¬_;decide
  have hL2:cgL L id ev dl=L:=by
   unfold cgL;rw[if_neg (by rw[hc];decide)]
  rw[hL2,hc];have e2:zdb 8 0=.iface 148 (.agg #[.int .i64 8,.int .i64 0]):=rfl;rw[e2];replace hL2:=Zq hL2;replace hc:=Zq hc;rw[decide_eq_true hk] at cC;replace hk:=Zq hk;clear e2 h;subst he
  go_enter Tryz.func63,Tryz.ntmps63
  go_wp2_with fail;rw[<- hW];try rw[<- hb]
  replace hW:=Zq hW;replace hb:=Zq hb;replace hbW:=Zq hbW;replace hX:=Zq hX;replace hw0:=Zq hw0;refine cB.out.mono ?_;rintro e w2 ⟨rfl,k2⟩;obtain⟨W2,hW2⟩:=Zn (w2.alloc (.cells #[.pointer (some ⟨qn,0,none⟩),.pointer (some ⟨qp,0,none⟩)] 96));obtain⟨b8,hb8⟩:=Zn (w2.heap.size);have K2:Hid (Keep W W2):=by rw[hW2];exact k2.alloc _
  have B8:Hid (W2.heap[b8]?=some (.cells #[.pointer (some ⟨qn,0,none⟩),.pointer (some ⟨qp,0,none⟩)] 96 (0,0))):=by show _=_;rw[hW2,hb8];exact heap_alloc_new _ _
  obtain⟨t0,t1,_⟩:=T12.cel2 B8.out;rw[hW2,hb8] at t0 t1;replace k2:=Zq k2;go_wp2_with fail;rw[<- hW2];try rw[<- hb8]
  replace hW2:=Zq hW2;replace hb8:=Zq hb8;clear t0 t1;refine(cC.out W2 K2.out).mono ?_;rintro e w3 ⟨r,rfl,hn,hi,hr,k3⟩;obtain⟨W3,hW3⟩:=Zn (w3.alloc (.cells (zac r) 26));obtain⟨b9,hb9⟩:=Zn (w3.heap.size);have K23:Hid (Keep W2 W3):=by rw[hW3];exact k3.alloc _
  have KA:Hid (Keep w3 W3):=by rw[hW3];exact Keep.one _ _
  have K3:Hid (Keep W W3):=K2.out.trans K23.out;have B9:Hid (W3.heap[b9]?=some (.cells (zac r) 26 (0,0))):=by show _=_;rw[hW3,hb9];exact heap_alloc_new _ _
  have HI:=Zq (hi.keep KA.out);have u4:=(zae B9.out).e4;obtain⟨t0,t1,_⟩:=T12.cel2 (K23.out.block B8.out);obtain⟨d0,d1,d2,d3,d4,d5,d6,d7,d8,g0⟩:=zae (YC.out W3 K3.out);unfold zaf at d0 d1 d2 d3 d4 d5 d6 d7 d8;unfold zac at hW3;rw[hW3,hb9] at u4;rw[hW3] at t0 t1 d0 d1 d2 d3 d4 d5 d6 d7 d8 g0;replace hn:=Zq hn;replace hi:=Zq hi;replace hr:=Zq hr;replace k3:=Zq k3;unfold zaa.val;go_wp2_with fail;refine(cE.out 8 0 _).mono ?_;rintro e w8 ⟨rfl,rfl⟩;go_wp2;rw[<- hW3];obtain⟨z,cs,sx⟩:=ZF.out W3 K3.out;obtain⟨e0,e1,e2,e3,e4,e5,e6,e7,e8,_⟩:=zae z;unfold put9 zaf at *;refine bodyPost_ret (v:=.tuple #[.agg #[.int .i64 0,.int .i64 0,.bool false,.int .i64 0,.slice none 0 0,.int .i64 0,.int .i64 0,.int .i64 0,.int .i64 0],.iface 148 (.agg #[.int .i64 (8),.int .i64 (0)])]) (by simp[results,Tryz.results63,go_sem,e0,e1,e2,e3,e4,e5,e6,e7,e8]) rfl ⟨zaf,rfl,fun h=>absurd h (hne.out),fun _=>rfl,zcb _,zby _ _,cs,sx⟩
 have he2:=he;clear he;have hcg:cgC L id ev=zca L id ev:=if_neg fun hh=>hh.2.elim he1 he2
 have b1:(ev == 1)=false:=by simpa using he1
 have b2:(ev == 2)=false:=by simpa using he2
 have hlt0:Hid (∀ W',Keep W W'->w1.heap.size<=W'.heap.size/\w1.heap.size<=W.heap.size):=fun W' k=>⟨Nat.le_trans KW.out.size k.size,KW.out.size⟩
 rw[decide_eq_true hk] at cC
 by_cases hx:nx (getL L id).h ev=0
 ·have hc:cgC L id ev=8:=by
   rw[hcg];unfold zca;rw[if_neg (not_not_intro hk),if_pos hx]
  have hc8:zca L id ev=8:=hcg.symm.trans hc;have hL2:cgL L id ev dl=L:=by
   unfold cgL;rw[if_neg (by rw[hc];decide)]
  have hap:zde L id ev (-1) dl=cgL L id ev dl:=by rw[hL2];exact afi (by rw[hc8];decide)
  have hok:Ok d M (cgL L id ev dl):=ztw h.ok;have huse:∀ x∈N,∀ j,j<d->x.U j=zam (cgL L id ev dl) x.k j:=by rw[hL2];exact h.use
  have cA:Hid (∀ W',Keep W W'->W.heap.size<W'.heap.size->Calls Tryz.prog 67 #[.pointer (some ⟨qp,0,none⟩),.int .i64 id,.int .i64 ev,.int .i64 (-1),.int .i64 dl] W' fun e w5=>∃ r5,e=.returned (.tuple #[r5.val,.iface 148 (.agg #[.int .i64 8,.int .i64 0])])/\nm r5=zaf/\zbe (fun i=>X i\/zef w1 W' i) W' w5/\W'.heap.size<=w5.heap.size/\∀ w6,Keep w5 w6->(w6.heap[b]?=some (.cells (zac zaf) 26 (0,0))/\(put9 w6 b r5).heap[b]?=some (.cells (zac r5) 26 (0,0))/\zah (put9 w6 b r5) r5/\Req (put9 w6 b r5) w1.heap.size r5/\CSd w d q M (cgL L id ev dl) X (put9 w6 b r5)/\zbe X w1 (put9 w6 b r5))):=fun W' k hs=>by
   have kk:=KW.out.trans k;have h2:=h.keep kk;have hsz:w1.heap.size<W'.heap.size:=by have:=KW.out.size;omega
   refine(h2.m.apply (zes _ hsz) id ev (-1) dl hid hev (by unfold I64;omega) hdl h.m1000 (by omega)).mono ?_
   rintro e w5 ⟨r5,he,h3,h4,h5,h6,⟨Yn,h7,_⟩,h8,h9,_⟩;rw[hap] at h7;refine⟨r5,by rw[he];unfold T13.fltC;rw[hc8,if_neg (by decide)];try rfl,h4 (by rw[hc8];decide),h8,h9,fun w6 k6=>?_⟩
   have h10:=h7.lt;exact zgb kk ⟨by omega,by omega⟩ hw0 (k.block Y.out) ((h7.at h.nds huse hok).cs.keep k6) (fun i hi=>(Below.block k6 i (h10 i hi)).trans (h8 i hi)) hX (h5.keep k6) (zal h6 k6) (Nat.le_refl _)
  rw[hc];have e2:zdb 8 0=.iface 148 (.agg #[.int .i64 8,.int .i64 0]):=rfl;rw[e2];have hne:Hid ((8:Int)≠0):=by show ¬_;decide
  replace hc8:=Zq hc8;replace hL2:=Zq hL2;replace hx:=Zq hx;clear e2 h;replace hk:=Zq hk;replace hcg:=Zq hcg;replace hap:=Zq hap;replace huse:=Zq huse;replace hok:=Zq hok;replace hc:=Zq hc
  go_enter Tryz.func63,Tryz.ntmps63
  go_wp2_with fail;rw[<- hW];try rw[<- hb]
  replace hW:=Zq hW;replace hb:=Zq hb;replace hbW:=Zq hbW;replace hX:=Zq hX;replace hw0:=Zq hw0;refine cB.out.mono ?_;rintro e w2 ⟨rfl,k2⟩;obtain⟨W2,hW2⟩:=Zn (w2.alloc (.cells #[.pointer (some ⟨qn,0,none⟩),.pointer (some ⟨qp,0,none⟩)] 96));obtain⟨b8,hb8⟩:=Zn (w2.heap.size);have K2:Hid (Keep W W2):=by rw[hW2];exact k2.alloc _
  have B8:Hid (W2.heap[b8]?=some (.cells #[.pointer (some ⟨qn,0,none⟩),.pointer (some ⟨qp,0,none⟩)] 96 (0,0))):=by show _=_;rw[hW2,hb8];exact heap_alloc_new _ _
  obtain⟨t0,t1,_⟩:=T12.cel2 B8.out;rw[hW2,hb8] at t0 t1;replace k2:=Zq k2;go_wp2_with fail;rw[<- hW2];try rw[<- hb8]
  replace hW2:=Zq hW2;replace hb8:=Zq hb8;clear t0 t1;refine(cC.out W2 K2.out).mono ?_;rintro e w3 ⟨r,rfl,hn,hi,hr,k3⟩;obtain⟨W3,hW3⟩:=Zn (w3.alloc (.cells (zac r) 26));obtain⟨b9,hb9⟩:=Zn (w3.heap.size);have K23:Hid (Keep W2 W3):=by rw[hW3];exact k3.alloc _
  have KA:Hid (Keep w3 W3):=by rw[hW3];exact Keep.one _ _
  have K3:Hid (Keep W W3):=K2.out.trans K23.out;have B9:Hid (W3.heap[b9]?=some (.cells (zac r) 26 (0,0))):=by show _=_;rw[hW3,hb9];exact heap_alloc_new _ _
  have HI:=Zq (hi.keep KA.out);have u4:=(zae B9.out).e4;obtain⟨t0,t1,_⟩:=T12.cel2 (K23.out.block B8.out);obtain⟨d0,d1,d2,d3,d4,d5,d6,d7,d8,g0⟩:=zae (YC.out W3 K3.out);unfold zaf at d0 d1 d2 d3 d4 d5 d6 d7 d8;unfold zac at hW3;rw[hW3,hb9] at u4;rw[hW3] at t0 t1 d0 d1 d2 d3 d4 d5 d6 d7 d8 g0;replace hn:=Zq hn;replace hi:=Zq hi;replace hr:=Zq hr;replace k3:=Zq k3;unfold zaa.val;go_wp2_with fail;rw[<- hW3];have hlt:W.heap.size<W3.heap.size:=by
   have:=lt_of_block B8.out;have:=k2.out.size;have:=hb8.out;have:=K23.out.size;omega
  refine(cA.out W3 K3.out hlt).mono ?_;rintro e w5 ⟨r5,rfl,hn5,sx5,hs5,F0⟩;obtain⟨W5,hW5⟩:=Zn (w5.alloc (.cells (zac r5) 26));obtain⟨b13,hb13⟩:=Zn (w5.heap.size);have K5:Hid (Keep w5 W5):=by rw[hW5];exact Keep.one _ _
  have B13:Hid (W5.heap[b13]?=some (.cells (zac r5) 26 (0,0))):=by show _=_;rw[hW5,hb13];exact heap_alloc_new _ _
  have F5:=Zq (F0 W5 K5.out);have q9:=sx5 b9 (Or.inr ⟨by have:=hlt0.out W2 K2.out;have:=hb9;have:=K23.out.size;have:=k3.out.size;omega,lt_of_block B9.out⟩)
  have B95:Hid (W5.heap[b9]?=some (.cells (zac r) 26 (0,0))):=K5.out.block (q9.trans B9.out);have u6:=(zae B95.out).e6;clear d0 d1 d2 d3 d4 d5 d6 d7 d8 g0 t0 t1 u4;obtain⟨d0,d1,d2,d3,d4,d5,d6,d7,d8,g0⟩:=zae F5.out.1;unfold zaf at d0 d1 d2 d3 d4 d5 d6 d7 d8;obtain⟨l0,l1,l2,l3,l4,l5,l6,l7,l8,lg⟩:=zae B13.out;unfold zac at hW5;rw[hW5] at d0 d1 d2 d3 d4 d5 d6 d7 d8 g0;rw[hW5,hb9] at u6;rw[hW5,hb13] at l0 l1 l2 l3 l4 l5 l6 l7 l8 lg;replace hn5:=Zq hn5;replace sx5:=Zq sx5;replace hs5:=Zq hs5;replace q9:=Zq q9;replace hlt:=Zq hlt;replace F0:=Zq F0;unfold zaa.val;go_wp2;rw[<- hW5];obtain⟨_,fb,fi,fr,fc,fx⟩:=F5.out;obtain⟨e0,e1,e2,e3,e4,e5,e6,e7,e8,_⟩:=zae fb;unfold put9 at *;refine bodyPost_ret (v:=.tuple #[.agg #[.int .i64 r5.k,.int .i64 r5.p,.bool r5.f,.int .i64 r5.g,.slice r5.A r5.m r5.c,.int .i64 r5.a,.int .i64 r5.h,.int .i64 r5.d,.int .i64 r5.t],.iface 148 (.agg #[.int .i64 8,.int .i64 0])]) (by simp[results,Tryz.results63,go_sem,e0,e1,e2,e3,e4,e5,e6,e7,e8]) rfl ⟨r5,rfl,fun h=>absurd h hne.out,fun _=>hn5.out,fi,fr,fc,fx⟩
 have hc0:zca L id ev=0:=by
  unfold zca;rw[if_neg (not_not_intro hk),if_neg hx]
 have hc:cgC L id ev=0:=hcg.trans hc0;have hap:zde L id ev (-1) dl=cgL L id ev dl:=(if_pos hc).symm;have hok:Ok d M (cgL L id ev dl):=ztw h.ok
 by_cases h5:ev=5
 ·by_cases hh:(getL L id).h=3\/(getL L id).h=4
  ·subst h5
   have cD:Hid (∀ (r:zaa) W',nm r=getL L id->Calls Tryz.prog 103 #[.int .i64 r.h] W' fun e w'=>e=.returned (.bool true)/\W'=w'):=fun r W' hn=>by
    have e:hdP r.h=true:=by
     have e2:r.h=(getL L id).h:=by rw[<- hn];rfl
     rw[e2];unfold hdP;exact decide_eq_true hh
    have:=zkm r.h W';rw[e] at this;exact this
   obtain⟨hrc,hrd,hru⟩:=h.freed (dl:=dl) hc hh;have hzr:=h.reqs hk;have cA:Hid (∀ W' r base,Keep W W'->W.heap.size<W'.heap.size->nm r=getL L id->zah W' r->Req W' base r->w1.heap.size<=base->Calls Tryz.prog 67 #[.pointer (some ⟨qp,0,none⟩),.int .i64 id,.int .i64 5,.int .i64 (-1),.int .i64 dl] W' fun e w5=>∃ r5,e=.returned (.tuple #[r5.val,.nilIface])/\nm r5=zay (getL L id) 5 (-1) dl/\zbe (fun i=>X i\/zef w1 W' i) W' w5/\W'.heap.size<=w5.heap.size/\(∀ w6,Keep w5 w6->w6.heap[b]?=some (.cells (zac zaf) 26 (0,0)))/\∀ W5,Keep w5 W5->Calls Tryz.prog 104 #[.pointer (some ⟨qn,0,none⟩),.int .i64 r.d,.slice r.A r.m r.c] W5 fun e w6=>e=.returned .nilIface/\zbe (zef w5 W5) W5 w6/\(w6.heap[b]?=some (.cells (zac zaf) 26 (0,0))/\(put9 w6 b r5).heap[b]?=some (.cells (zac r5) 26 (0,0))/\zah (put9 w6 b r5) r5/\Req (put9 w6 b r5) w1.heap.size r5/\CSd w d q M (cgL L id 5 dl) X (put9 w6 b r5)/\zbe X w1 (put9 w6 b r5))):=fun W' r base k hs hn hi hr hbase=>by
    have kk:=KW.out.trans k;have h2:=h.keep kk;have hsz:w1.heap.size<W'.heap.size:=by have:=KW.out.size;omega
    refine(h2.m.apply (zes _ hsz) id 5 (-1) dl hid hev (by unfold I64;omega) hdl h.m1000 (by omega)).mono ?_
    rintro e w5 ⟨r5,he,h3,h4,h5,h6,⟨Yn,h7,hy1,hy2⟩,h8,h9,_⟩;rw[hap] at h7;have h10:=h7.lt;have hb1:zef w1 W' b:=⟨by omega,by have:=k.size;omega⟩
    refine⟨r5,by rw[he];unfold T13.fltC;rw[if_pos hc0],h3 hc0,h8,h9,fun w6 k6=>(Below.block k6 b (h10 b (Or.inr hb1))).trans ((h8 b (Or.inr hb1)).trans (k.block Y.out)),fun W5 k5=>?_⟩
    have hr5:Req w5 base r:=zao hr fun g hg=>by
     have:=World.ownsRow.lt hr g hg;exact h8 g (Or.inr ⟨by omega,this.2⟩)
    have hi5:=hr5.is hi.ok;obtain⟨em,eZ,_,ed,_⟩:=zah.m_of hn;have hv:=(hi5.keep k5).rd;rw[em,hzr.1,eZ] at hv;rw[em,hzr.1,ed];have h11:=h7.keep k5;refine(zuw h11.on (getL L id).d r.A d r.c (getL L id).Z hv).mono ?_;rintro e w6 ⟨he6,o,sx,hs6⟩;have h12:=(h11.nodes o sx hs6).at hrd hru hok;refine⟨by rw[he6,hrc];rfl,fun i hi=>sx i (Or.inr hi),?_⟩
    have sxe:zbe (fun i=>X i\/zef w1 W' i) W' w6:=fun i hi=>by
     rw[sx i (Or.inl (h7.sub i hi).1),Below.block k5 i (h10 i hi),h8 i hi]
    have hr6:Req w6 W'.heap.size r5:=zao (zal h6 k5) fun g hg=>by
     have:=World.ownsRow.lt h6 g hg;exact sx g (Or.inl (hy2 g this))
    exact zgb kk hb1 hw0 (k.block Y.out) (h12.cs.less fun _ h=>Or.inl h) sxe hX (hr6.is h5.ok) hr6 (Nat.le_refl _)
   rw[hc];have e2:zdb 0 0=.nilIface:=rfl;rw[e2];replace hc0:=Zq hc0;replace hx:=Zq hx;have huse:=trivial;clear e2 h hrc hrd hru hzr;replace hk:=Zq hk;replace hcg:=Zq hcg;replace hap:=Zq hap;replace huse:=Zq huse;replace hok:=Zq hok;replace hc:=Zq hc;replace hh:=Zq hh
   go_enter Tryz.func63,Tryz.ntmps63
   go_wp2_with fail;rw[<- hW];try rw[<- hb]
   replace hW:=Zq hW;replace hb:=Zq hb;replace hbW:=Zq hbW;replace hX:=Zq hX;replace hw0:=Zq hw0;refine cB.out.mono ?_;rintro e w2 ⟨rfl,k2⟩;obtain⟨W2,hW2⟩:=Zn (w2.alloc (.cells #[.pointer (some ⟨qn,0,none⟩),.pointer (some ⟨qp,0,none⟩)] 96));obtain⟨b8,hb8⟩:=Zn (w2.heap.size);have K2:Hid (Keep W W2):=by rw[hW2];exact k2.alloc _
   have B8:Hid (W2.heap[b8]?=some (.cells #[.pointer (some ⟨qn,0,none⟩),.pointer (some ⟨qp,0,none⟩)] 96 (0,0))):=by show _=_;rw[hW2,hb8];exact heap_alloc_new _ _
   obtain⟨t0,t1,_⟩:=T12.cel2 B8.out;rw[hW2,hb8] at t0 t1;replace k2:=Zq k2;go_wp2_with fail;rw[<- hW2];try rw[<- hb8]
   replace hW2:=Zq hW2;replace hb8:=Zq hb8;clear t0 t1;refine(cC.out W2 K2.out).mono ?_;rintro e w3 ⟨r,rfl,hn,hi,hr,k3⟩;obtain⟨W3,hW3⟩:=Zn (w3.alloc (.cells (zac r) 26));obtain⟨b9,hb9⟩:=Zn (w3.heap.size);have K23:Hid (Keep W2 W3):=by rw[hW3];exact k3.alloc _
   have KA:Hid (Keep w3 W3):=by rw[hW3];exact Keep.one _ _
   have K3:Hid (Keep W W3):=K2.out.trans K23.out;have B9:Hid (W3.heap[b9]?=some (.cells (zac r) 26 (0,0))):=by show _=_;rw[hW3,hb9];exact heap_alloc_new _ _
   have HI:=Zq (hi.keep KA.out);have u4:=(zae B9.out).e4;obtain⟨t0,t1,_⟩:=T12.cel2 (K23.out.block B8.out);obtain⟨d0,d1,d2,d3,d4,d5,d6,d7,d8,g0⟩:=zae (YC.out W3 K3.out);unfold zaf at d0 d1 d2 d3 d4 d5 d6 d7 d8;unfold zac at hW3;rw[hW3,hb9] at u4;rw[hW3] at t0 t1 d0 d1 d2 d3 d4 d5 d6 d7 d8 g0;replace hn:=Zq hn;replace hi:=Zq hi;replace hr:=Zq hr;replace k3:=Zq k3;unfold zaa.val;go_wp2_with fail;rw[<- hW3];have hlt:W.heap.size<W3.heap.size:=by
    have:=lt_of_block B8.out;have:=k2.out.size;have:=hb8.out;have:=K23.out.size;omega
   refine(cA.out W3 r W2.heap.size K3.out hlt hn.out HI.out (zal hr.out KA.out) (hlt0.out W2 K2.out).1).mono ?_;rintro e w5 ⟨r5,rfl,hn5,sx5,hs5,F0,cR⟩;obtain⟨W5,hW5⟩:=Zn (w5.alloc (.cells (zac r5) 26));obtain⟨b13,hb13⟩:=Zn (w5.heap.size);have K5:Hid (Keep w5 W5):=by rw[hW5];exact Keep.one _ _
   have B13:Hid (W5.heap[b13]?=some (.cells (zac r5) 26 (0,0))):=by show _=_;rw[hW5,hb13];exact heap_alloc_new _ _
   have F5:=Zq (And.intro (F0 W5 K5.out) trivial);have cR:=Zq (cR W5 K5.out);have q8:=sx5 b8 (Or.inr ⟨by have:=hlt0.out W2 K2.out;have:=hb8.out;have:=k2.out.size;have:=hlt0.out w2 k2.out;omega,Nat.lt_of_lt_of_le (lt_of_block B8.out) K23.out.size⟩)
   have B85:Hid (W5.heap[b8]?=some (.cells #[.pointer (some ⟨qn,0,none⟩),.pointer (some ⟨qp,0,none⟩)] 96 (0,0))):=K5.out.block (q8.trans (K23.out.block B8.out));replace q8:=Zq q8;have q9:=sx5 b9 (Or.inr ⟨by have:=hlt0.out W2 K2.out;have:=hb9;have:=K23.out.size;have:=k3.out.size;omega,lt_of_block B9.out⟩)
   have B95:Hid (W5.heap[b9]?=some (.cells (zac r) 26 (0,0))):=K5.out.block (q9.trans B9.out);have u6:=(zae B95.out).e6;clear d0 d1 d2 d3 d4 d5 d6 d7 d8 g0 t0 t1 u4;obtain⟨d0,d1,d2,d3,d4,d5,d6,d7,d8,g0⟩:=zae F5.out.1;unfold zaf at d0 d1 d2 d3 d4 d5 d6 d7 d8;obtain⟨l0,l1,l2,l3,l4,l5,l6,l7,l8,lg⟩:=zae B13.out;unfold zac at hW5;rw[hW5] at d0 d1 d2 d3 d4 d5 d6 d7 d8 g0;rw[hW5,hb9] at u6;rw[hW5,hb13] at l0 l1 l2 l3 l4 l5 l6 l7 l8 lg;replace hn5:=Zq hn5;replace sx5:=Zq sx5;replace hs5:=Zq hs5;replace q9:=Zq q9;replace hlt:=Zq hlt;replace F0:=Zq F0;unfold zaa.val;go_wp2_with fail;refine(cD.out r _ hn.out).mono ?_;rintro e w7 ⟨rfl,rfl⟩;clear d0 d1 d2 d3 d4 d5 d6 d7 d8 g0 u6 l0 l1 l2 l3 l4 l5 l6 l7 l8 lg;obtain⟨t0,t1,_⟩:=T12.cel2 B85.out;have u7:=(zae B95.out).e7;have u4:=(zae B95.out).e4;rw[hW5,hb9] at u7 u4;rw[hW5] at t0 t1;go_wp2_with fail;rw[<- hW5];refine cR.out.mono ?_;rintro e w6 ⟨rfl,sx6,F6⟩;have F5:=Zq F6;clear t0 t1 u7 u4 F6;have q13:=sx6 b13 ⟨by have:=hb13;omega,lt_of_block B13.out⟩
   obtain⟨l0,l1,l2,l3,l4,l5,l6,l7,l8,lg⟩:=zae (q13.trans B13.out);rw[hb13] at l0 l1 l2 l3 l4 l5 l6 l7 l8 lg;obtain⟨d0,d1,d2,d3,d4,d5,d6,d7,d8,g0⟩:=zae F5.out.1;unfold zaf at d0 d1 d2 d3 d4 d5 d6 d7 d8;replace q13:=Zq q13;replace sx6:=Zq sx6;go_wp2;obtain⟨_,fb,fi,fr,fc,fx⟩:=F5.out;obtain⟨e0,e1,e2,e3,e4,e5,e6,e7,e8,_⟩:=zae fb;unfold put9 at *;refine bodyPost_ret (v:=.tuple #[.agg #[.int .i64 r5.k,.int .i64 r5.p,.bool r5.f,.int .i64 r5.g,.slice r5.A r5.m r5.c,.int .i64 r5.a,.int .i64 r5.h,.int .i64 r5.d,.int .i64 r5.t],.nilIface]) (by simp[results,Tryz.results63,go_sem,e0,e1,e2,e3,e4,e5,e6,e7,e8]) rfl ⟨r5,rfl,fun _=>hn5.out,fun h=>absurd rfl h,fi,fr,fc,fx⟩
  ·subst h5
   have huse:∀ x∈N,∀ j,j<d->x.U j=zam (cgL L id 5 dl) x.k j:=fun x hx2 j hj=>by
    rw[zjf h.ok.lok hc,if_pos rfl,zen (fun e=>hh (Or.inl e)) (fun e=>hh (Or.inr e)),h.use x hx2 j hj]
    omega
   have cD:Hid (∀ (r:zaa) W',nm r=getL L id->Calls Tryz.prog 103 #[.int .i64 r.h] W' fun e w'=>e=.returned (.bool false)/\W'=w'):=fun r W' hn=>by
    have e:hdP r.h=false:=by
     have e2:r.h=(getL L id).h:=by rw[<- hn];rfl
     rw[e2];unfold hdP;exact decide_eq_false hh
    have:=zkm r.h W';rw[e] at this;exact this
   have cA:Hid (∀ W',Keep W W'->W.heap.size<W'.heap.size->Calls Tryz.prog 67 #[.pointer (some ⟨qp,0,none⟩),.int .i64 id,.int .i64 5,.int .i64 (-1),.int .i64 dl] W' fun e w5=>∃ r5,e=.returned (.tuple #[r5.val,.nilIface])/\nm r5=zay (getL L id) 5 (-1) dl/\zbe (fun i=>X i\/zef w1 W' i) W' w5/\W'.heap.size<=w5.heap.size/\∀ w6,Keep w5 w6->(w6.heap[b]?=some (.cells (zac zaf) 26 (0,0))/\(put9 w6 b r5).heap[b]?=some (.cells (zac r5) 26 (0,0))/\zah (put9 w6 b r5) r5/\Req (put9 w6 b r5) w1.heap.size r5/\CSd w d q M (cgL L id 5 dl) X (put9 w6 b r5)/\zbe X w1 (put9 w6 b r5))):=fun W' k hs=>by
    have kk:=KW.out.trans k;have h2:=h.keep kk;have hsz:w1.heap.size<W'.heap.size:=by have:=KW.out.size;omega
    refine(h2.m.apply (zes _ hsz) id 5 (-1) dl hid hev (by unfold I64;omega) hdl h.m1000 (by omega)).mono ?_
    rintro e w5 ⟨r5,he,h3,h4,h5,h6,⟨Yn,h7,_⟩,h8,h9,_⟩;rw[hap] at h7;refine⟨r5,by rw[he];unfold T13.fltC;rw[if_pos hc0];try rfl,h3 hc0,h8,h9,fun w6 k6=>?_⟩
    have h10:=h7.lt;exact zgb kk ⟨by omega,by omega⟩ hw0 (k.block Y.out) ((h7.at h.nds huse hok).cs.keep k6) (fun i hi=>(Below.block k6 i (h10 i hi)).trans (h8 i hi)) hX (h5.keep k6) (zal h6 k6) (Nat.le_refl _)
   rw[hc];have e2:zdb 0 0=.nilIface:=rfl;rw[e2];replace hc0:=Zq hc0;replace hx:=Zq hx;clear e2 h;replace hk:=Zq hk;replace hcg:=Zq hcg;replace hap:=Zq hap;replace huse:=Zq huse;replace hok:=Zq hok;replace hc:=Zq hc;replace hh:=Zq hh
   go_enter Tryz.func63,Tryz.ntmps63
   go_wp2_with fail;rw[<- hW];try rw[<- hb]
   replace hW:=Zq hW;replace hb:=Zq hb;replace hbW:=Zq hbW;replace hX:=Zq hX;replace hw0:=Zq hw0;refine cB.out.mono ?_;rintro e w2 ⟨rfl,k2⟩;obtain⟨W2,hW2⟩:=Zn (w2.alloc (.cells #[.pointer (some ⟨qn,0,none⟩),.pointer (some ⟨qp,0,none⟩)] 96));obtain⟨b8,hb8⟩:=Zn (w2.heap.size);have K2:Hid (Keep W W2):=by rw[hW2];exact k2.alloc _
   have B8:Hid (W2.heap[b8]?=some (.cells #[.pointer (some ⟨qn,0,none⟩),.pointer (some ⟨qp,0,none⟩)] 96 (0,0))):=by show _=_;rw[hW2,hb8];exact heap_alloc_new _ _
   obtain⟨t0,t1,_⟩:=T12.cel2 B8.out;rw[hW2,hb8] at t0 t1;replace k2:=Zq k2;go_wp2_with fail;rw[<- hW2];try rw[<- hb8]
   replace hW2:=Zq hW2;replace hb8:=Zq hb8;clear t0 t1;refine(cC.out W2 K2.out).mono ?_;rintro e w3 ⟨r,rfl,hn,hi,hr,k3⟩;obtain⟨W3,hW3⟩:=Zn (w3.alloc (.cells (zac r) 26));obtain⟨b9,hb9⟩:=Zn (w3.heap.size);have K23:Hid (Keep W2 W3):=by rw[hW3];exact k3.alloc _
   have KA:Hid (Keep w3 W3):=by rw[hW3];exact Keep.one _ _
   have K3:Hid (Keep W W3):=K2.out.trans K23.out;have B9:Hid (W3.heap[b9]?=some (.cells (zac r) 26 (0,0))):=by show _=_;rw[hW3,hb9];exact heap_alloc_new _ _
   have HI:=Zq (hi.keep KA.out);have u4:=(zae B9.out).e4;obtain⟨t0,t1,_⟩:=T12.cel2 (K23.out.block B8.out);obtain⟨d0,d1,d2,d3,d4,d5,d6,d7,d8,g0⟩:=zae (YC.out W3 K3.out);unfold zaf at d0 d1 d2 d3 d4 d5 d6 d7 d8;unfold zac at hW3;rw[hW3,hb9] at u4;rw[hW3] at t0 t1 d0 d1 d2 d3 d4 d5 d6 d7 d8 g0;replace hn:=Zq hn;replace hi:=Zq hi;replace hr:=Zq hr;replace k3:=Zq k3;unfold zaa.val;go_wp2_with fail;rw[<- hW3];have hlt:W.heap.size<W3.heap.size:=by
    have:=lt_of_block B8.out;have:=k2.out.size;have:=hb8.out;have:=K23.out.size;omega
   refine(cA.out W3 K3.out hlt).mono ?_;rintro e w5 ⟨r5,rfl,hn5,sx5,hs5,F0⟩;obtain⟨W5,hW5⟩:=Zn (w5.alloc (.cells (zac r5) 26));obtain⟨b13,hb13⟩:=Zn (w5.heap.size);have K5:Hid (Keep w5 W5):=by rw[hW5];exact Keep.one _ _
   have B13:Hid (W5.heap[b13]?=some (.cells (zac r5) 26 (0,0))):=by show _=_;rw[hW5,hb13];exact heap_alloc_new _ _
   have F5:=Zq (F0 W5 K5.out);have q9:=sx5 b9 (Or.inr ⟨by have:=hlt0.out W2 K2.out;have:=hb9;have:=K23.out.size;have:=k3.out.size;omega,lt_of_block B9.out⟩)
   have B95:Hid (W5.heap[b9]?=some (.cells (zac r) 26 (0,0))):=K5.out.block (q9.trans B9.out);have u6:=(zae B95.out).e6;clear d0 d1 d2 d3 d4 d5 d6 d7 d8 g0 t0 t1 u4;obtain⟨d0,d1,d2,d3,d4,d5,d6,d7,d8,g0⟩:=zae F5.out.1;unfold zaf at d0 d1 d2 d3 d4 d5 d6 d7 d8;obtain⟨l0,l1,l2,l3,l4,l5,l6,l7,l8,lg⟩:=zae B13.out;unfold zac at hW5;rw[hW5] at d0 d1 d2 d3 d4 d5 d6 d7 d8 g0;rw[hW5,hb9] at u6;rw[hW5,hb13] at l0 l1 l2 l3 l4 l5 l6 l7 l8 lg;replace hn5:=Zq hn5;replace sx5:=Zq sx5;replace hs5:=Zq hs5;replace q9:=Zq q9;replace hlt:=Zq hlt;replace F0:=Zq F0;unfold zaa.val;go_wp2_with fail;refine(cD.out r _ hn.out).mono ?_;rintro e w7 ⟨rfl,rfl⟩;go_wp2;rw[<- hW5];obtain⟨_,fb,fi,fr,fc,fx⟩:=F5.out;obtain⟨e0,e1,e2,e3,e4,e5,e6,e7,e8,_⟩:=zae fb;unfold put9 at *;refine bodyPost_ret (v:=.tuple #[.agg #[.int .i64 r5.k,.int .i64 r5.p,.bool r5.f,.int .i64 r5.g,.slice r5.A r5.m r5.c,.int .i64 r5.a,.int .i64 r5.h,.int .i64 r5.d,.int .i64 r5.t],.nilIface]) (by simp[results,Tryz.results63,go_sem,e0,e1,e2,e3,e4,e5,e6,e7,e8]) rfl ⟨r5,rfl,fun _=>hn5.out,fun h=>absurd rfl h,fi,fr,fc,fx⟩
 ·have huse:∀ x∈N,∀ j,j<d->x.U j=zam (cgL L id ev dl) x.k j:=fun x hx2 j hj=>by
   rw[zjf h.ok.lok hc,if_neg h5,h.use x hx2 j hj];omega
  have b5:(ev == 5)=false:=by simpa using h5
  have cA:Hid (∀ W',Keep W W'->W.heap.size<W'.heap.size->Calls Tryz.prog 67 #[.pointer (some ⟨qp,0,none⟩),.int .i64 id,.int .i64 ev,.int .i64 (-1),.int .i64 dl] W' fun e w5=>∃ r5,e=.returned (.tuple #[r5.val,.nilIface])/\nm r5=zay (getL L id) ev (-1) dl/\zbe (fun i=>X i\/zef w1 W' i) W' w5/\W'.heap.size<=w5.heap.size/\∀ w6,Keep w5 w6->(w6.heap[b]?=some (.cells (zac zaf) 26 (0,0))/\(put9 w6 b r5).heap[b]?=some (.cells (zac r5) 26 (0,0))/\zah (put9 w6 b r5) r5/\Req (put9 w6 b r5) w1.heap.size r5/\CSd w d q M (cgL L id ev dl) X (put9 w6 b r5)/\zbe X w1 (put9 w6 b r5))):=fun W' k hs=>by
   have kk:=KW.out.trans k;have h2:=h.keep kk;have hsz:w1.heap.size<W'.heap.size:=by have:=KW.out.size;omega
   refine(h2.m.apply (zes _ hsz) id ev (-1) dl hid hev (by unfold I64;omega) hdl h.m1000 (by omega)).mono ?_
   rintro e w5 ⟨r5,he,h3,h4,h5,h6,⟨Yn,h7,_⟩,h8,h9,_⟩;rw[hap] at h7;refine⟨r5,by rw[he];unfold T13.fltC;rw[if_pos hc0];try rfl,h3 hc0,h8,h9,fun w6 k6=>?_⟩
   have h10:=h7.lt;exact zgb kk ⟨by omega,by omega⟩ hw0 (k.block Y.out) ((h7.at h.nds huse hok).cs.keep k6) (fun i hi=>(Below.block k6 i (h10 i hi)).trans (h8 i hi)) hX (h5.keep k6) (zal h6 k6) (Nat.le_refl _)
  rw[hc];have e2:zdb 0 0=.nilIface:=rfl;rw[e2];replace hc0:=Zq hc0;replace hx:=Zq hx;clear e2 h;replace hk:=Zq hk;replace hcg:=Zq hcg;replace hap:=Zq hap;replace huse:=Zq huse;replace hok:=Zq hok;replace hc:=Zq hc;replace h5:=Zq h5
  go_enter Tryz.func63,Tryz.ntmps63
  go_wp2_with fail;rw[<- hW];try rw[<- hb]
  replace hW:=Zq hW;replace hb:=Zq hb;replace hbW:=Zq hbW;replace hX:=Zq hX;replace hw0:=Zq hw0;refine cB.out.mono ?_;rintro e w2 ⟨rfl,k2⟩;obtain⟨W2,hW2⟩:=Zn (w2.alloc (.cells #[.pointer (some ⟨qn,0,none⟩),.pointer (some ⟨qp,0,none⟩)] 96));obtain⟨b8,hb8⟩:=Zn (w2.heap.size);have K2:Hid (Keep W W2):=by rw[hW2];exact k2.alloc _
  have B8:Hid (W2.heap[b8]?=some (.cells #[.pointer (some ⟨qn,0,none⟩),.pointer (some ⟨qp,0,none⟩)] 96 (0,0))):=by show _=_;rw[hW2,hb8];exact heap_alloc_new _ _
  obtain⟨t0,t1,_⟩:=T12.cel2 B8.out;rw[hW2,hb8] at t0 t1;replace k2:=Zq k2;go_wp2_with fail;rw[<- hW2];try rw[<- hb8]
  replace hW2:=Zq hW2;replace hb8:=Zq hb8;clear t0 t1;refine(cC.out W2 K2.out).mono ?_;rintro e w3 ⟨r,rfl,hn,hi,hr,k3⟩;obtain⟨W3,hW3⟩:=Zn (w3.alloc (.cells (zac r) 26));obtain⟨b9,hb9⟩:=Zn (w3.heap.size);have K23:Hid (Keep W2 W3):=by rw[hW3];exact k3.alloc _
  have KA:Hid (Keep w3 W3):=by rw[hW3];exact Keep.one _ _
  have K3:Hid (Keep W W3):=K2.out.trans K23.out;have B9:Hid (W3.heap[b9]?=some (.cells (zac r) 26 (0,0))):=by show _=_;rw[hW3,hb9];exact heap_alloc_new _ _
  have HI:=Zq (hi.keep KA.out);have u4:=(zae B9.out).e4;obtain⟨t0,t1,_⟩:=T12.cel2 (K23.out.block B8.out);obtain⟨d0,d1,d2,d3,d4,d5,d6,d7,d8,g0⟩:=zae (YC.out W3 K3.out);unfold zaf at d0 d1 d2 d3 d4 d5 d6 d7 d8;unfold zac at hW3;rw[hW3,hb9] at u4;rw[hW3] at t0 t1 d0 d1 d2 d3 d4 d5 d6 d7 d8 g0;replace hn:=Zq hn;replace hi:=Zq hi;replace hr:=Zq hr;replace k3:=Zq k3;unfold zaa.val;go_wp2_with fail;rw[<- hW3];have hlt:W.heap.size<W3.heap.size:=by
   have:=lt_of_block B8.out;have:=k2.out.size;have:=hb8.out;have:=K23.out.size;omega
  refine(cA.out W3 K3.out hlt).mono ?_;rintro e w5 ⟨r5,rfl,hn5,sx5,hs5,F0⟩;obtain⟨W5,hW5⟩:=Zn (w5.alloc (.cells (zac r5) 26));obtain⟨b13,hb13⟩:=Zn (w5.heap.size);have K5:Hid (Keep w5 W5):=by rw[hW5];exact Keep.one _ _
  have B13:Hid (W5.heap[b13]?=some (.cells (zac r5) 26 (0,0))):=by show _=_;rw[hW5,hb13];exact heap_alloc_new _ _
  have F5:=Zq (F0 W5 K5.out);have q9:=sx5 b9 (Or.inr ⟨by have:=hlt0.out W2 K2.out;have:=hb9;have:=K23.out.size;have:=k3.out.size;omega,lt_of_block B9.out⟩)
  have B95:Hid (W5.heap[b9]?=some (.cells (zac r) 26 (0,0))):=K5.out.block (q9.trans B9.out);have u6:=(zae B95.out).e6;clear d0 d1 d2 d3 d4 d5 d6 d7 d8 g0 t0 t1 u4;obtain⟨d0,d1,d2,d3,d4,d5,d6,d7,d8,g0⟩:=zae F5.out.1;unfold zaf at d0 d1 d2 d3 d4 d5 d6 d7 d8;obtain⟨l0,l1,l2,l3,l4,l5,l6,l7,l8,lg⟩:=zae B13.out;unfold zac at hW5;rw[hW5] at d0 d1 d2 d3 d4 d5 d6 d7 d8 g0;rw[hW5,hb9] at u6;rw[hW5,hb13] at l0 l1 l2 l3 l4 l5 l6 l7 l8 lg;replace hn5:=Zq hn5;replace sx5:=Zq sx5;replace hs5:=Zq hs5;replace q9:=Zq q9;replace hlt:=Zq hlt;replace F0:=Zq F0;unfold zaa.val;go_wp2;rw[<- hW5];obtain⟨_,fb,fi,fr,fc,fx⟩:=F5.out;obtain⟨e0,e1,e2,e3,e4,e5,e6,e7,e8,_⟩:=zae fb;unfold put9 at *;refine bodyPost_ret (v:=.tuple #[.agg #[.int .i64 r5.k,.int .i64 r5.p,.bool r5.f,.int .i64 r5.g,.slice r5.A r5.m r5.c,.int .i64 r5.a,.int .i64 r5.h,.int .i64 r5.d,.int .i64 r5.t],.nilIface]) (by simp[results,Tryz.results63,go_sem,e0,e1,e2,e3,e4,e5,e6,e7,e8]) rfl ⟨r5,rfl,fun _=>hn5.out,fun h=>absurd rfl h,fi,fr,fc,fx⟩
end
end Go.Proofs.YtcogiogjpbkeaaaGreatDoor.T14
