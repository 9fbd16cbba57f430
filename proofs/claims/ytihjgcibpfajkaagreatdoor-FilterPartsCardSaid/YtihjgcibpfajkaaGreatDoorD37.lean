/-
  The landed cluster: Change. Condition: errors.errorType holds its own.
-/
import Derived.Test.YtihjgcibpfajkaaGreatDoorD36
namespace Go.Proofs.YtihjgcibpfajkaaGreatDoor.T14
open Go.RowKit Go.Sort Go.Lib V12 T13
section
variable{w w1 w2:World}{d q:Nat}{M:List NV}{L:List zaa}{X Z:Nat→Prop}{qn qp:Nat}{N:List T12.NodeV}{Xn Xp:Nat→Prop}
theorem zyf{L:List zaa}{id e nd dl:Int}(h:zbi L id e≠0):zcn L id e nd dl=L:=by
 unfold zcn;rw[if_neg h]
set_option maxRecDepth 100000 in
set_option maxHeartbeats 16000000 in
theorem zoj(h:zbf w d q M L X w1 qn qp N Xn Xp)(id ev dl:Int)(hid:I64 id)(hev:I64 ev)(hdl:I64 dl)(hl:L.length≤100):Calls Tryz.prog 51 #[.pointer (some ⟨q,0,none⟩),.int .i64 id,.int .i64 ev,.int .i64 dl] w1 fun e w'=>∃ r,e=.returned (.tuple #[r.val,zbu (cgC L id ev) (0)])∧(cgC L id ev=0→nm r=zao (zai L id) ev (-1) dl)∧(cgC L id ev≠0→nm r=zad)∧zaf w' r∧Req w' w1.heap.size r∧CSd w d q M (cgL L id ev dl) X w'∧zas X w1 w':=by
 have hw0:=h.kp.size;have hX:=h.lt;obtain⟨W,hW⟩:∃ W,W=w1.alloc (.cells (zab zad) 26):=⟨_,rfl⟩;have KW:Hid (Keep w1 W):=by rw[hW];exact Keep.one _ _
 obtain⟨b,hb⟩:∃ b,b=w1.heap.size:=⟨_,rfl⟩;have Y:Hid (W.heap[b]?=some (.cells (zab zad) 26 (0,0))):=by show _=_;rw[hW,hb];exact heap_alloc_new _ _
 have hbW:b<W.heap.size:=lt_of_block Y.out;have cB:Hid (Calls Tryz.prog 30 #[.pointer (some ⟨q,0,none⟩)] W fun e w'=>e=.returned (.agg #[.pointer (some ⟨qn,0,none⟩),.pointer (some ⟨qp,0,none⟩)])∧Keep W w'):=zdv (h.keep KW.out).c2.1 (h.keep KW.out).c2.2
 have YC:Hid (∀ w',Keep W w'→w'.heap[b]?=some (.cells (zab zad) 26 (0,0))):=fun w' k=>k.block Y.out
 have ZF:Hid (∀ w',Keep W w'→(put9 w' b zad).heap[b]?=some (.cells (zab zad) 26 (0,0))∧CSd w d q M L X (put9 w' b zad)∧zas X w1 (put9 w' b zad)):=fun w' k=>zhi h.cs (KW.out.trans k) (by omega) (k.block Y.out)
 have cC:Hid (∀ W',Keep W W'→Calls Tryz.prog 36 #[.pointer (some ⟨qp,0,none⟩),.int .i64 id] W' fun e w'=>∃ r,e=.returned (.tuple #[r.val,.bool (decide (id∈keys L))])∧nm r=zai L id∧zaf w' r∧Req w' W'.heap.size r∧Keep W' w'):=fun W' k=>zdz.get id (h.keep (KW.out.trans k)).os hid h.m1000
 have cE:Hid (∀ c n W,Calls Tryz.prog 37 #[.int .i64 c,.int .i64 n] W fun e w'=>e=.returned (.iface 124 (.agg #[.int .i64 c,.int .i64 n]))∧W=w'):=fun c n W=>zep c n W
 unfold zab zad at hW
 by_cases hk:id∉keys L
 ·have hc:cgC L id ev=5:=by
   unfold cgC;rw[if_neg fun hh=>hk hh.1]
   exact if_pos hk
  have hne:Hid ((5:Int)≠0):=by show ¬_;decide
  have hL2:cgL L id ev dl=L:=by
   unfold cgL;rw[if_neg (by rw[hc];decide)]
  rw[hL2,hc];have e2:zbu 5 0=.iface 124 (.agg #[.int .i64 5,.int .i64 0]):=rfl;rw[e2];replace hL2:=Lib.hid hL2;replace hc:=Lib.hid hc;rw[decide_eq_false hk] at cC;replace hk:=Lib.hid hk;clear e2 h
  go_enter Tryz.func51,Tryz.ntmps51
  go_wp2_with fail;rw[← hW];try rw[← hb]
  replace hW:=Lib.hid hW;replace hb:=Lib.hid hb;replace hbW:=Lib.hid hbW;replace hX:=Lib.hid hX;replace hw0:=Lib.hid hw0;refine cB.out.mono ?_;rintro e w2 ⟨rfl,k2⟩;obtain⟨W2,hW2⟩:∃ W2,W2=w2.alloc (.cells #[.pointer (some ⟨qn,0,none⟩),.pointer (some ⟨qp,0,none⟩)] 79):=⟨_,rfl⟩;obtain⟨b8,hb8⟩:∃ b8,b8=w2.heap.size:=⟨_,rfl⟩;have K2:Hid (Keep W W2):=by rw[hW2];exact k2.alloc _
  have B8:Hid (W2.heap[b8]?=some (.cells #[.pointer (some ⟨qn,0,none⟩),.pointer (some ⟨qp,0,none⟩)] 79 (0,0))):=by show _=_;rw[hW2,hb8];exact heap_alloc_new _ _
  obtain⟨t0,t1,_⟩:=T12.cel2 B8.out;rw[hW2,hb8] at t0 t1;replace k2:=Lib.hid k2;go_wp2_with fail;rw[← hW2];try rw[← hb8]
  replace hW2:=Lib.hid hW2;replace hb8:=Lib.hid hb8;clear t0 t1;refine(cC.out W2 K2.out).mono ?_;rintro e w3 ⟨r,rfl,hn,hi,hr,k3⟩;obtain⟨W3,hW3⟩:∃ W3,W3=w3.alloc (.cells (zab r) 26):=⟨_,rfl⟩;obtain⟨b9,hb9⟩:∃ b9,b9=w3.heap.size:=⟨_,rfl⟩;have K23:Hid (Keep W2 W3):=by rw[hW3];exact k3.alloc _
  have KA:Hid (Keep w3 W3):=by rw[hW3];exact Keep.one _ _
  have K3:Hid (Keep W W3):=K2.out.trans K23.out;have B9:Hid (W3.heap[b9]?=some (.cells (zab r) 26 (0,0))):=by show _=_;rw[hW3,hb9];exact heap_alloc_new _ _
  have HI:=Lib.hid (hi.keep KA.out);have u4:=(zah B9.out).e4;obtain⟨t0,t1,_⟩:=T12.cel2 (K23.out.block B8.out);obtain⟨d0,d1,d2,d3,d4,d5,d6,d7,d8,g0⟩:=zah (YC.out W3 K3.out);unfold zad at d0 d1 d2 d3 d4 d5 d6 d7 d8;unfold zab at hW3;rw[hW3,hb9] at u4;rw[hW3] at t0 t1 d0 d1 d2 d3 d4 d5 d6 d7 d8 g0;replace hn:=Lib.hid hn;replace hi:=Lib.hid hi;replace hr:=Lib.hid hr;replace k3:=Lib.hid k3;unfold zaa.val;go_wp2_with fail;refine(cE.out 5 0 _).mono ?_;rintro e w8 ⟨rfl,rfl⟩;go_wp2;rw[← hW3];obtain⟨z,cs,sx⟩:=ZF.out W3 K3.out;obtain⟨e0,e1,e2,e3,e4,e5,e6,e7,e8,_⟩:=zah z;unfold put9 zad at *;refine bodyPost_ret (v:=.tuple #[.agg #[.int .i64 0,.int .i64 0,.bool false,.int .i64 0,.slice none 0 0,.int .i64 0,.int .i64 0,.int .i64 0,.int .i64 0],.iface 124 (.agg #[.int .i64 (5),.int .i64 (0)])]) (by simp[results,Tryz.results51,go_sem,e0,e1,e2,e3,e4,e5,e6,e7,e8]) rfl ⟨zad,rfl,fun h=>absurd h (hne.out),fun _=>rfl,zbj _,zbg _ _,cs,sx⟩
 replace hk:=Classical.not_not.1 hk
 by_cases he:ev=1
 ·have hc:cgC L id ev=8:=if_pos ⟨hk,Or.inl he⟩
  have hne:Hid ((8:Int)≠0):=by show ¬_;decide
  have hL2:cgL L id ev dl=L:=by
   unfold cgL;rw[if_neg (by rw[hc];decide)]
  rw[hL2,hc];have e2:zbu 8 0=.iface 124 (.agg #[.int .i64 8,.int .i64 0]):=rfl;rw[e2];replace hL2:=Lib.hid hL2;replace hc:=Lib.hid hc;rw[decide_eq_true hk] at cC;replace hk:=Lib.hid hk;clear e2 h;subst he
  go_enter Tryz.func51,Tryz.ntmps51
  go_wp2_with fail;rw[← hW];try rw[← hb]
  replace hW:=Lib.hid hW;replace hb:=Lib.hid hb;replace hbW:=Lib.hid hbW;replace hX:=Lib.hid hX;replace hw0:=Lib.hid hw0;refine cB.out.mono ?_;rintro e w2 ⟨rfl,k2⟩;obtain⟨W2,hW2⟩:∃ W2,W2=w2.alloc (.cells #[.pointer (some ⟨qn,0,none⟩),.pointer (some ⟨qp,0,none⟩)] 79):=⟨_,rfl⟩;obtain⟨b8,hb8⟩:∃ b8,b8=w2.heap.size:=⟨_,rfl⟩;have K2:Hid (Keep W W2):=by rw[hW2];exact k2.alloc _
  have B8:Hid (W2.heap[b8]?=some (.cells #[.pointer (some ⟨qn,0,none⟩),.pointer (some ⟨qp,0,none⟩)] 79 (0,0))):=by show _=_;rw[hW2,hb8];exact heap_alloc_new _ _
  obtain⟨t0,t1,_⟩:=T12.cel2 B8.out;rw[hW2,hb8] at t0 t1;replace k2:=Lib.hid k2;go_wp2_with fail;rw[← hW2];try rw[← hb8]
  replace hW2:=Lib.hid hW2;replace hb8:=Lib.hid hb8;clear t0 t1;refine(cC.out W2 K2.out).mono ?_;rintro e w3 ⟨r,rfl,hn,hi,hr,k3⟩;obtain⟨W3,hW3⟩:∃ W3,W3=w3.alloc (.cells (zab r) 26):=⟨_,rfl⟩;obtain⟨b9,hb9⟩:∃ b9,b9=w3.heap.size:=⟨_,rfl⟩;have K23:Hid (Keep W2 W3):=by rw[hW3];exact k3.alloc _
  have KA:Hid (Keep w3 W3):=by rw[hW3];exact Keep.one _ _
  have K3:Hid (Keep W W3):=K2.out.trans K23.out;have B9:Hid (W3.heap[b9]?=some (.cells (zab r) 26 (0,0))):=by show _=_;rw[hW3,hb9];exact heap_alloc_new _ _
  have HI:=Lib.hid (hi.keep KA.out);have u4:=(zah B9.out).e4;obtain⟨t0,t1,_⟩:=T12.cel2 (K23.out.block B8.out);obtain⟨d0,d1,d2,d3,d4,d5,d6,d7,d8,g0⟩:=zah (YC.out W3 K3.out);unfold zad at d0 d1 d2 d3 d4 d5 d6 d7 d8;unfold zab at hW3;rw[hW3,hb9] at u4;rw[hW3] at t0 t1 d0 d1 d2 d3 d4 d5 d6 d7 d8 g0;replace hn:=Lib.hid hn;replace hi:=Lib.hid hi;replace hr:=Lib.hid hr;replace k3:=Lib.hid k3;unfold zaa.val;go_wp2_with fail;refine(cE.out 8 0 _).mono ?_;rintro e w8 ⟨rfl,rfl⟩;go_wp2;rw[← hW3];obtain⟨z,cs,sx⟩:=ZF.out W3 K3.out;obtain⟨e0,e1,e2,e3,e4,e5,e6,e7,e8,_⟩:=zah z;unfold put9 zad at *;refine bodyPost_ret (v:=.tuple #[.agg #[.int .i64 0,.int .i64 0,.bool false,.int .i64 0,.slice none 0 0,.int .i64 0,.int .i64 0,.int .i64 0,.int .i64 0],.iface 124 (.agg #[.int .i64 (8),.int .i64 (0)])]) (by simp[results,Tryz.results51,go_sem,e0,e1,e2,e3,e4,e5,e6,e7,e8]) rfl ⟨zad,rfl,fun h=>absurd h (hne.out),fun _=>rfl,zbj _,zbg _ _,cs,sx⟩
 have he1:=he;clear he
 by_cases he:ev=2
 ·have hc:cgC L id ev=8:=if_pos ⟨hk,Or.inr he⟩
  have hne:Hid ((8:Int)≠0):=by show ¬_;decide
  have hL2:cgL L id ev dl=L:=by
   unfold cgL;rw[if_neg (by rw[hc];decide)]
  rw[hL2,hc];have e2:zbu 8 0=.iface 124 (.agg #[.int .i64 8,.int .i64 0]):=rfl;rw[e2];replace hL2:=Lib.hid hL2;replace hc:=Lib.hid hc;rw[decide_eq_true hk] at cC;replace hk:=Lib.hid hk;clear e2 h;subst he
  go_enter Tryz.func51,Tryz.ntmps51
  go_wp2_with fail;rw[← hW];try rw[← hb]
  replace hW:=Lib.hid hW;replace hb:=Lib.hid hb;replace hbW:=Lib.hid hbW;replace hX:=Lib.hid hX;replace hw0:=Lib.hid hw0;refine cB.out.mono ?_;rintro e w2 ⟨rfl,k2⟩;obtain⟨W2,hW2⟩:∃ W2,W2=w2.alloc (.cells #[.pointer (some ⟨qn,0,none⟩),.pointer (some ⟨qp,0,none⟩)] 79):=⟨_,rfl⟩;obtain⟨b8,hb8⟩:∃ b8,b8=w2.heap.size:=⟨_,rfl⟩;have K2:Hid (Keep W W2):=by rw[hW2];exact k2.alloc _
  have B8:Hid (W2.heap[b8]?=some (.cells #[.pointer (some ⟨qn,0,none⟩),.pointer (some ⟨qp,0,none⟩)] 79 (0,0))):=by show _=_;rw[hW2,hb8];exact heap_alloc_new _ _
  obtain⟨t0,t1,_⟩:=T12.cel2 B8.out;rw[hW2,hb8] at t0 t1;replace k2:=Lib.hid k2;go_wp2_with fail;rw[← hW2];try rw[← hb8]
  replace hW2:=Lib.hid hW2;replace hb8:=Lib.hid hb8;clear t0 t1;refine(cC.out W2 K2.out).mono ?_;rintro e w3 ⟨r,rfl,hn,hi,hr,k3⟩;obtain⟨W3,hW3⟩:∃ W3,W3=w3.alloc (.cells (zab r) 26):=⟨_,rfl⟩;obtain⟨b9,hb9⟩:∃ b9,b9=w3.heap.size:=⟨_,rfl⟩;have K23:Hid (Keep W2 W3):=by rw[hW3];exact k3.alloc _
  have KA:Hid (Keep w3 W3):=by rw[hW3];exact Keep.one _ _
  have K3:Hid (Keep W W3):=K2.out.trans K23.out;have B9:Hid (W3.heap[b9]?=some (.cells (zab r) 26 (0,0))):=by show _=_;rw[hW3,hb9];exact heap_alloc_new _ _
  have HI:=Lib.hid (hi.keep KA.out);have u4:=(zah B9.out).e4;obtain⟨t0,t1,_⟩:=T12.cel2 (K23.out.block B8.out);obtain⟨d0,d1,d2,d3,d4,d5,d6,d7,d8,g0⟩:=zah (YC.out W3 K3.out);unfold zad at d0 d1 d2 d3 d4 d5 d6 d7 d8;unfold zab at hW3;rw[hW3,hb9] at u4;rw[hW3] at t0 t1 d0 d1 d2 d3 d4 d5 d6 d7 d8 g0;replace hn:=Lib.hid hn;replace hi:=Lib.hid hi;replace hr:=Lib.hid hr;replace k3:=Lib.hid k3;unfold zaa.val;go_wp2_with fail;refine(cE.out 8 0 _).mono ?_;rintro e w8 ⟨rfl,rfl⟩;go_wp2;rw[← hW3];obtain⟨z,cs,sx⟩:=ZF.out W3 K3.out;obtain⟨e0,e1,e2,e3,e4,e5,e6,e7,e8,_⟩:=zah z;unfold put9 zad at *;refine bodyPost_ret (v:=.tuple #[.agg #[.int .i64 0,.int .i64 0,.bool false,.int .i64 0,.slice none 0 0,.int .i64 0,.int .i64 0,.int .i64 0,.int .i64 0],.iface 124 (.agg #[.int .i64 (8),.int .i64 (0)])]) (by simp[results,Tryz.results51,go_sem,e0,e1,e2,e3,e4,e5,e6,e7,e8]) rfl ⟨zad,rfl,fun h=>absurd h (hne.out),fun _=>rfl,zbj _,zbg _ _,cs,sx⟩
 have he2:=he;clear he;have hcg:cgC L id ev=zbi L id ev:=if_neg fun hh=>hh.2.elim he1 he2
 have b1:(ev == 1)=false:=by simpa using he1
 have b2:(ev == 2)=false:=by simpa using he2
 have hlt0:Hid (∀ W',Keep W W'→w1.heap.size≤W'.heap.size∧w1.heap.size≤W.heap.size):=fun W' k=>⟨Nat.le_trans KW.out.size k.size,KW.out.size⟩
 rw[decide_eq_true hk] at cC
 by_cases hx:nx (zai L id).h ev=0
 ·have hc:cgC L id ev=8:=by
   rw[hcg];unfold zbi;rw[if_neg (not_not_intro hk),if_pos hx]
  have hc8:zbi L id ev=8:=hcg.symm.trans hc;have hL2:cgL L id ev dl=L:=by
   unfold cgL;rw[if_neg (by rw[hc];decide)]
  have hap:zcn L id ev (-1) dl=cgL L id ev dl:=by rw[hL2];exact zyf (by rw[hc8];decide)
  have hok:Ok d M (cgL L id ev dl):=zok h.ok;have huse:∀ x∈N,∀ j,j<d→x.U j=zaj (cgL L id ev dl) x.k j:=by rw[hL2];exact h.use
  have cA:Hid (∀ W',Keep W W'→W.heap.size<W'.heap.size→Calls Tryz.prog 43 #[.pointer (some ⟨qp,0,none⟩),.int .i64 id,.int .i64 ev,.int .i64 (-1),.int .i64 dl] W' fun e w5=>∃ r5,e=.returned (.tuple #[r5.val,.iface 124 (.agg #[.int .i64 8,.int .i64 0])])∧nm r5=zad∧zas (fun i=>X i∨zdd w1 W' i) W' w5∧W'.heap.size≤w5.heap.size∧∀ w6,Keep w5 w6→(w6.heap[b]?=some (.cells (zab zad) 26 (0,0))∧(put9 w6 b r5).heap[b]?=some (.cells (zab r5) 26 (0,0))∧zaf (put9 w6 b r5) r5∧Req (put9 w6 b r5) w1.heap.size r5∧CSd w d q M (cgL L id ev dl) X (put9 w6 b r5)∧zas X w1 (put9 w6 b r5))):=fun W' k hs=>by
   have kk:=KW.out.trans k;have h2:=h.keep kk;have hsz:w1.heap.size<W'.heap.size:=by have:=KW.out.size;omega
   refine(h2.m.apply (zdn _ hsz) id ev (-1) dl hid hev (by unfold I64;omega) hdl h.m1000 (by omega)).mono ?_
   rintro e w5 ⟨r5,he,h3,h4,h5,h6,⟨Yn,h7,_⟩,h8,h9,_⟩;rw[hap] at h7;refine⟨r5,by rw[he];unfold T13.fltC;rw[hc8,if_neg (by decide)];try rfl,h4 (by rw[hc8];decide),h8,h9,fun w6 k6=>?_⟩
   have h10:=h7.lt;exact zen kk ⟨by omega,by omega⟩ hw0 (k.block Y.out) ((h7.at h.nds huse hok).cs.keep k6) (fun i hi=>(Below.block k6 i (h10 i hi)).trans (h8 i hi)) hX (h5.keep k6) (own_keep h6 k6) (Nat.le_refl _)
  rw[hc];have e2:zbu 8 0=.iface 124 (.agg #[.int .i64 8,.int .i64 0]):=rfl;rw[e2];have hne:Hid ((8:Int)≠0):=by show ¬_;decide
  replace hc8:=Lib.hid hc8;replace hL2:=Lib.hid hL2;replace hx:=Lib.hid hx;clear e2 h;replace hk:=Lib.hid hk;replace hcg:=Lib.hid hcg;replace hap:=Lib.hid hap;replace huse:=Lib.hid huse;replace hok:=Lib.hid hok;replace hc:=Lib.hid hc
  go_enter Tryz.func51,Tryz.ntmps51
  go_wp2_with fail;rw[← hW];try rw[← hb]
  replace hW:=Lib.hid hW;replace hb:=Lib.hid hb;replace hbW:=Lib.hid hbW;replace hX:=Lib.hid hX;replace hw0:=Lib.hid hw0;refine cB.out.mono ?_;rintro e w2 ⟨rfl,k2⟩;obtain⟨W2,hW2⟩:∃ W2,W2=w2.alloc (.cells #[.pointer (some ⟨qn,0,none⟩),.pointer (some ⟨qp,0,none⟩)] 79):=⟨_,rfl⟩;obtain⟨b8,hb8⟩:∃ b8,b8=w2.heap.size:=⟨_,rfl⟩;have K2:Hid (Keep W W2):=by rw[hW2];exact k2.alloc _
  have B8:Hid (W2.heap[b8]?=some (.cells #[.pointer (some ⟨qn,0,none⟩),.pointer (some ⟨qp,0,none⟩)] 79 (0,0))):=by show _=_;rw[hW2,hb8];exact heap_alloc_new _ _
  obtain⟨t0,t1,_⟩:=T12.cel2 B8.out;rw[hW2,hb8] at t0 t1;replace k2:=Lib.hid k2;go_wp2_with fail;rw[← hW2];try rw[← hb8]
  replace hW2:=Lib.hid hW2;replace hb8:=Lib.hid hb8;clear t0 t1;refine(cC.out W2 K2.out).mono ?_;rintro e w3 ⟨r,rfl,hn,hi,hr,k3⟩;obtain⟨W3,hW3⟩:∃ W3,W3=w3.alloc (.cells (zab r) 26):=⟨_,rfl⟩;obtain⟨b9,hb9⟩:∃ b9,b9=w3.heap.size:=⟨_,rfl⟩;have K23:Hid (Keep W2 W3):=by rw[hW3];exact k3.alloc _
  have KA:Hid (Keep w3 W3):=by rw[hW3];exact Keep.one _ _
  have K3:Hid (Keep W W3):=K2.out.trans K23.out;have B9:Hid (W3.heap[b9]?=some (.cells (zab r) 26 (0,0))):=by show _=_;rw[hW3,hb9];exact heap_alloc_new _ _
  have HI:=Lib.hid (hi.keep KA.out);have u4:=(zah B9.out).e4;obtain⟨t0,t1,_⟩:=T12.cel2 (K23.out.block B8.out);obtain⟨d0,d1,d2,d3,d4,d5,d6,d7,d8,g0⟩:=zah (YC.out W3 K3.out);unfold zad at d0 d1 d2 d3 d4 d5 d6 d7 d8;unfold zab at hW3;rw[hW3,hb9] at u4;rw[hW3] at t0 t1 d0 d1 d2 d3 d4 d5 d6 d7 d8 g0;replace hn:=Lib.hid hn;replace hi:=Lib.hid hi;replace hr:=Lib.hid hr;replace k3:=Lib.hid k3;unfold zaa.val;go_wp2_with fail;rw[← hW3];have hlt:W.heap.size<W3.heap.size:=by
   have:=lt_of_block B8.out;have:=k2.out.size;have:=hb8.out;have:=K23.out.size;omega
  refine(cA.out W3 K3.out hlt).mono ?_;rintro e w5 ⟨r5,rfl,hn5,sx5,hs5,F0⟩;obtain⟨W5,hW5⟩:∃ W5,W5=w5.alloc (.cells (zab r5) 26):=⟨_,rfl⟩;obtain⟨b13,hb13⟩:∃ b13,b13=w5.heap.size:=⟨_,rfl⟩;have K5:Hid (Keep w5 W5):=by rw[hW5];exact Keep.one _ _
  have B13:Hid (W5.heap[b13]?=some (.cells (zab r5) 26 (0,0))):=by show _=_;rw[hW5,hb13];exact heap_alloc_new _ _
  have F5:=Lib.hid (F0 W5 K5.out);have q9:=sx5 b9 (Or.inr ⟨by have:=hlt0.out W2 K2.out;have:=hb9;have:=K23.out.size;have:=k3.out.size;omega,lt_of_block B9.out⟩)
  have B95:Hid (W5.heap[b9]?=some (.cells (zab r) 26 (0,0))):=K5.out.block (q9.trans B9.out);have u6:=(zah B95.out).e6;clear d0 d1 d2 d3 d4 d5 d6 d7 d8 g0 t0 t1 u4;obtain⟨d0,d1,d2,d3,d4,d5,d6,d7,d8,g0⟩:=zah F5.out.1;unfold zad at d0 d1 d2 d3 d4 d5 d6 d7 d8;obtain⟨l0,l1,l2,l3,l4,l5,l6,l7,l8,lg⟩:=zah B13.out;unfold zab at hW5;rw[hW5] at d0 d1 d2 d3 d4 d5 d6 d7 d8 g0;rw[hW5,hb9] at u6;rw[hW5,hb13] at l0 l1 l2 l3 l4 l5 l6 l7 l8 lg;replace hn5:=Lib.hid hn5;replace sx5:=Lib.hid sx5;replace hs5:=Lib.hid hs5;replace q9:=Lib.hid q9;replace hlt:=Lib.hid hlt;replace F0:=Lib.hid F0;unfold zaa.val;go_wp2;rw[← hW5];obtain⟨_,fb,fi,fr,fc,fx⟩:=F5.out;obtain⟨e0,e1,e2,e3,e4,e5,e6,e7,e8,_⟩:=zah fb;unfold put9 at *;refine bodyPost_ret (v:=.tuple #[.agg #[.int .i64 r5.k,.int .i64 r5.p,.bool r5.f,.int .i64 r5.g,.slice r5.A r5.m r5.c,.int .i64 r5.a,.int .i64 r5.h,.int .i64 r5.d,.int .i64 r5.t],.iface 124 (.agg #[.int .i64 8,.int .i64 0])]) (by simp[results,Tryz.results51,go_sem,e0,e1,e2,e3,e4,e5,e6,e7,e8]) rfl ⟨r5,rfl,fun h=>absurd h hne.out,fun _=>hn5.out,fi,fr,fc,fx⟩
 have hc0:zbi L id ev=0:=by
  unfold zbi;rw[if_neg (not_not_intro hk),if_neg hx]
 have hc:cgC L id ev=0:=hcg.trans hc0;have hap:zcn L id ev (-1) dl=cgL L id ev dl:=(if_pos hc).symm;have hok:Ok d M (cgL L id ev dl):=zok h.ok
 by_cases h5:ev=5
 ·by_cases hh:(zai L id).h=3∨(zai L id).h=4
  ·subst h5
   have cD:Hid (∀ (r:zaa) W',nm r=zai L id→Calls Tryz.prog 84 #[.int .i64 r.h] W' fun e w'=>e=.returned (.bool true)∧W'=w'):=fun r W' hn=>by
    have e:hdP r.h=true:=by
     have e2:r.h=(zai L id).h:=by rw[← hn];rfl
     rw[e2];unfold hdP;exact decide_eq_true hh
    have:=zhn r.h W';rw[e] at this;exact this
   obtain⟨hrc,hrd,hru⟩:=h.freed (dl:=dl) hc hh;have hzr:=h.reqs hk;have cA:Hid (∀ W' r base,Keep W W'→W.heap.size<W'.heap.size→nm r=zai L id→zaf W' r→Req W' base r→w1.heap.size≤base→Calls Tryz.prog 43 #[.pointer (some ⟨qp,0,none⟩),.int .i64 id,.int .i64 5,.int .i64 (-1),.int .i64 dl] W' fun e w5=>∃ r5,e=.returned (.tuple #[r5.val,.nilIface])∧nm r5=zao (zai L id) 5 (-1) dl∧zas (fun i=>X i∨zdd w1 W' i) W' w5∧W'.heap.size≤w5.heap.size∧(∀ w6,Keep w5 w6→w6.heap[b]?=some (.cells (zab zad) 26 (0,0)))∧∀ W5,Keep w5 W5→Calls Tryz.prog 85 #[.pointer (some ⟨qn,0,none⟩),.int .i64 r.d,.slice r.A r.m r.c] W5 fun e w6=>e=.returned .nilIface∧zas (zdd w5 W5) W5 w6∧(w6.heap[b]?=some (.cells (zab zad) 26 (0,0))∧(put9 w6 b r5).heap[b]?=some (.cells (zab r5) 26 (0,0))∧zaf (put9 w6 b r5) r5∧Req (put9 w6 b r5) w1.heap.size r5∧CSd w d q M (cgL L id 5 dl) X (put9 w6 b r5)∧zas X w1 (put9 w6 b r5))):=fun W' r base k hs hn hi hr hbase=>by
    have kk:=KW.out.trans k;have h2:=h.keep kk;have hsz:w1.heap.size<W'.heap.size:=by have:=KW.out.size;omega
    refine(h2.m.apply (zdn _ hsz) id 5 (-1) dl hid hev (by unfold I64;omega) hdl h.m1000 (by omega)).mono ?_
    rintro e w5 ⟨r5,he,h3,h4,h5,h6,⟨Yn,h7,hy1,hy2⟩,h8,h9,_⟩;rw[hap] at h7;have h10:=h7.lt;have hb1:zdd w1 W' b:=⟨by omega,by have:=k.size;omega⟩
    refine⟨r5,by rw[he];unfold T13.fltC;rw[if_pos hc0],h3 hc0,h8,h9,fun w6 k6=>(Below.block k6 b (h10 b (Or.inr hb1))).trans ((h8 b (Or.inr hb1)).trans (k.block Y.out)),fun W5 k5=>?_⟩
    have hr5:Req w5 base r:=zal hr fun g hg=>by
     have:=World.ownsRow.lt hr g hg;exact h8 g (Or.inr ⟨by omega,this.2⟩)
    have hi5:=hr5.is hi.ok;obtain⟨em,eZ,_,ed,_⟩:=zaf.m_of hn;have hv:=(hi5.keep k5).rd;rw[em,hzr.1,eZ] at hv;rw[em,hzr.1,ed];have h11:=h7.keep k5;refine(zpg h11.on (zai L id).d r.A d r.c (zai L id).Z hv).mono ?_;rintro e w6 ⟨he6,o,sx,hs6⟩;have h12:=(h11.nodes o sx hs6).at hrd hru hok;refine⟨by rw[he6,hrc];rfl,fun i hi=>sx i (Or.inr hi),?_⟩
    have sxe:zas (fun i=>X i∨zdd w1 W' i) W' w6:=fun i hi=>by
     rw[sx i (Or.inl (h7.sub i hi).1),Below.block k5 i (h10 i hi),h8 i hi]
    have hr6:Req w6 W'.heap.size r5:=zal (own_keep h6 k5) fun g hg=>by
     have:=World.ownsRow.lt h6 g hg;exact sx g (Or.inl (hy2 g this))
    exact zen kk hb1 hw0 (k.block Y.out) (h12.cs.less fun _ h=>Or.inl h) sxe hX (hr6.is h5.ok) hr6 (Nat.le_refl _)
   rw[hc];have e2:zbu 0 0=.nilIface:=rfl;rw[e2];replace hc0:=Lib.hid hc0;replace hx:=Lib.hid hx;have huse:=trivial;clear e2 h hrc hrd hru hzr;replace hk:=Lib.hid hk;replace hcg:=Lib.hid hcg;replace hap:=Lib.hid hap;replace huse:=Lib.hid huse;replace hok:=Lib.hid hok;replace hc:=Lib.hid hc;replace hh:=Lib.hid hh
   go_enter Tryz.func51,Tryz.ntmps51
   go_wp2_with fail;rw[← hW];try rw[← hb]
   replace hW:=Lib.hid hW;replace hb:=Lib.hid hb;replace hbW:=Lib.hid hbW;replace hX:=Lib.hid hX;replace hw0:=Lib.hid hw0;refine cB.out.mono ?_;rintro e w2 ⟨rfl,k2⟩;obtain⟨W2,hW2⟩:∃ W2,W2=w2.alloc (.cells #[.pointer (some ⟨qn,0,none⟩),.pointer (some ⟨qp,0,none⟩)] 79):=⟨_,rfl⟩;obtain⟨b8,hb8⟩:∃ b8,b8=w2.heap.size:=⟨_,rfl⟩;have K2:Hid (Keep W W2):=by rw[hW2];exact k2.alloc _
   have B8:Hid (W2.heap[b8]?=some (.cells #[.pointer (some ⟨qn,0,none⟩),.pointer (some ⟨qp,0,none⟩)] 79 (0,0))):=by show _=_;rw[hW2,hb8];exact heap_alloc_new _ _
   obtain⟨t0,t1,_⟩:=T12.cel2 B8.out;rw[hW2,hb8] at t0 t1;replace k2:=Lib.hid k2;go_wp2_with fail;rw[← hW2];try rw[← hb8]
   replace hW2:=Lib.hid hW2;replace hb8:=Lib.hid hb8;clear t0 t1;refine(cC.out W2 K2.out).mono ?_;rintro e w3 ⟨r,rfl,hn,hi,hr,k3⟩;obtain⟨W3,hW3⟩:∃ W3,W3=w3.alloc (.cells (zab r) 26):=⟨_,rfl⟩;obtain⟨b9,hb9⟩:∃ b9,b9=w3.heap.size:=⟨_,rfl⟩;have K23:Hid (Keep W2 W3):=by rw[hW3];exact k3.alloc _
   have KA:Hid (Keep w3 W3):=by rw[hW3];exact Keep.one _ _
   have K3:Hid (Keep W W3):=K2.out.trans K23.out;have B9:Hid (W3.heap[b9]?=some (.cells (zab r) 26 (0,0))):=by show _=_;rw[hW3,hb9];exact heap_alloc_new _ _
   have HI:=Lib.hid (hi.keep KA.out);have u4:=(zah B9.out).e4;obtain⟨t0,t1,_⟩:=T12.cel2 (K23.out.block B8.out);obtain⟨d0,d1,d2,d3,d4,d5,d6,d7,d8,g0⟩:=zah (YC.out W3 K3.out);unfold zad at d0 d1 d2 d3 d4 d5 d6 d7 d8;unfold zab at hW3;rw[hW3,hb9] at u4;rw[hW3] at t0 t1 d0 d1 d2 d3 d4 d5 d6 d7 d8 g0;replace hn:=Lib.hid hn;replace hi:=Lib.hid hi;replace hr:=Lib.hid hr;replace k3:=Lib.hid k3;unfold zaa.val;go_wp2_with fail;rw[← hW3];have hlt:W.heap.size<W3.heap.size:=by
    have:=lt_of_block B8.out;have:=k2.out.size;have:=hb8.out;have:=K23.out.size;omega
   refine(cA.out W3 r W2.heap.size K3.out hlt hn.out HI.out (own_keep hr.out KA.out) (hlt0.out W2 K2.out).1).mono ?_;rintro e w5 ⟨r5,rfl,hn5,sx5,hs5,F0,cR⟩;obtain⟨W5,hW5⟩:∃ W5,W5=w5.alloc (.cells (zab r5) 26):=⟨_,rfl⟩;obtain⟨b13,hb13⟩:∃ b13,b13=w5.heap.size:=⟨_,rfl⟩;have K5:Hid (Keep w5 W5):=by rw[hW5];exact Keep.one _ _
   have B13:Hid (W5.heap[b13]?=some (.cells (zab r5) 26 (0,0))):=by show _=_;rw[hW5,hb13];exact heap_alloc_new _ _
   have F5:=Lib.hid (And.intro (F0 W5 K5.out) trivial);have cR:=Lib.hid (cR W5 K5.out);have q8:=sx5 b8 (Or.inr ⟨by have:=hlt0.out W2 K2.out;have:=hb8.out;have:=k2.out.size;have:=hlt0.out w2 k2.out;omega,Nat.lt_of_lt_of_le (lt_of_block B8.out) K23.out.size⟩)
   have B85:Hid (W5.heap[b8]?=some (.cells #[.pointer (some ⟨qn,0,none⟩),.pointer (some ⟨qp,0,none⟩)] 79 (0,0))):=K5.out.block (q8.trans (K23.out.block B8.out));replace q8:=Lib.hid q8;have q9:=sx5 b9 (Or.inr ⟨by have:=hlt0.out W2 K2.out;have:=hb9;have:=K23.out.size;have:=k3.out.size;omega,lt_of_block B9.out⟩)
   have B95:Hid (W5.heap[b9]?=some (.cells (zab r) 26 (0,0))):=K5.out.block (q9.trans B9.out);have u6:=(zah B95.out).e6;clear d0 d1 d2 d3 d4 d5 d6 d7 d8 g0 t0 t1 u4;obtain⟨d0,d1,d2,d3,d4,d5,d6,d7,d8,g0⟩:=zah F5.out.1;unfold zad at d0 d1 d2 d3 d4 d5 d6 d7 d8;obtain⟨l0,l1,l2,l3,l4,l5,l6,l7,l8,lg⟩:=zah B13.out;unfold zab at hW5;rw[hW5] at d0 d1 d2 d3 d4 d5 d6 d7 d8 g0;rw[hW5,hb9] at u6;rw[hW5,hb13] at l0 l1 l2 l3 l4 l5 l6 l7 l8 lg;replace hn5:=Lib.hid hn5;replace sx5:=Lib.hid sx5;replace hs5:=Lib.hid hs5;replace q9:=Lib.hid q9;replace hlt:=Lib.hid hlt;replace F0:=Lib.hid F0;unfold zaa.val;go_wp2_with fail;refine(cD.out r _ hn.out).mono ?_;rintro e w7 ⟨rfl,rfl⟩;clear d0 d1 d2 d3 d4 d5 d6 d7 d8 g0 u6 l0 l1 l2 l3 l4 l5 l6 l7 l8 lg;obtain⟨t0,t1,_⟩:=T12.cel2 B85.out;have u7:=(zah B95.out).e7;have u4:=(zah B95.out).e4;rw[hW5,hb9] at u7 u4;rw[hW5] at t0 t1;go_wp2_with fail;rw[← hW5];refine cR.out.mono ?_;rintro e w6 ⟨rfl,sx6,F6⟩;have F5:=Lib.hid F6;clear t0 t1 u7 u4 F6;have q13:=sx6 b13 ⟨by have:=hb13;omega,lt_of_block B13.out⟩
   obtain⟨l0,l1,l2,l3,l4,l5,l6,l7,l8,lg⟩:=zah (q13.trans B13.out);rw[hb13] at l0 l1 l2 l3 l4 l5 l6 l7 l8 lg;obtain⟨d0,d1,d2,d3,d4,d5,d6,d7,d8,g0⟩:=zah F5.out.1;unfold zad at d0 d1 d2 d3 d4 d5 d6 d7 d8;replace q13:=Lib.hid q13;replace sx6:=Lib.hid sx6;go_wp2;obtain⟨_,fb,fi,fr,fc,fx⟩:=F5.out;obtain⟨e0,e1,e2,e3,e4,e5,e6,e7,e8,_⟩:=zah fb;unfold put9 at *;refine bodyPost_ret (v:=.tuple #[.agg #[.int .i64 r5.k,.int .i64 r5.p,.bool r5.f,.int .i64 r5.g,.slice r5.A r5.m r5.c,.int .i64 r5.a,.int .i64 r5.h,.int .i64 r5.d,.int .i64 r5.t],.nilIface]) (by simp[results,Tryz.results51,go_sem,e0,e1,e2,e3,e4,e5,e6,e7,e8]) rfl ⟨r5,rfl,fun _=>hn5.out,fun h=>absurd rfl h,fi,fr,fc,fx⟩
  ·subst h5
   have huse:∀ x∈N,∀ j,j<d→x.U j=zaj (cgL L id 5 dl) x.k j:=fun x hx2 j hj=>by
    rw[zgo h.ok.lok hc,if_pos rfl,zdj (fun e=>hh (Or.inl e)) (fun e=>hh (Or.inr e)),h.use x hx2 j hj]
    omega
   have cD:Hid (∀ (r:zaa) W',nm r=zai L id→Calls Tryz.prog 84 #[.int .i64 r.h] W' fun e w'=>e=.returned (.bool false)∧W'=w'):=fun r W' hn=>by
    have e:hdP r.h=false:=by
     have e2:r.h=(zai L id).h:=by rw[← hn];rfl
     rw[e2];unfold hdP;exact decide_eq_false hh
    have:=zhn r.h W';rw[e] at this;exact this
   have cA:Hid (∀ W',Keep W W'→W.heap.size<W'.heap.size→Calls Tryz.prog 43 #[.pointer (some ⟨qp,0,none⟩),.int .i64 id,.int .i64 5,.int .i64 (-1),.int .i64 dl] W' fun e w5=>∃ r5,e=.returned (.tuple #[r5.val,.nilIface])∧nm r5=zao (zai L id) 5 (-1) dl∧zas (fun i=>X i∨zdd w1 W' i) W' w5∧W'.heap.size≤w5.heap.size∧∀ w6,Keep w5 w6→(w6.heap[b]?=some (.cells (zab zad) 26 (0,0))∧(put9 w6 b r5).heap[b]?=some (.cells (zab r5) 26 (0,0))∧zaf (put9 w6 b r5) r5∧Req (put9 w6 b r5) w1.heap.size r5∧CSd w d q M (cgL L id 5 dl) X (put9 w6 b r5)∧zas X w1 (put9 w6 b r5))):=fun W' k hs=>by
    have kk:=KW.out.trans k;have h2:=h.keep kk;have hsz:w1.heap.size<W'.heap.size:=by have:=KW.out.size;omega
    refine(h2.m.apply (zdn _ hsz) id 5 (-1) dl hid hev (by unfold I64;omega) hdl h.m1000 (by omega)).mono ?_
    rintro e w5 ⟨r5,he,h3,h4,h5,h6,⟨Yn,h7,_⟩,h8,h9,_⟩;rw[hap] at h7;refine⟨r5,by rw[he];unfold T13.fltC;rw[if_pos hc0];try rfl,h3 hc0,h8,h9,fun w6 k6=>?_⟩
    have h10:=h7.lt;exact zen kk ⟨by omega,by omega⟩ hw0 (k.block Y.out) ((h7.at h.nds huse hok).cs.keep k6) (fun i hi=>(Below.block k6 i (h10 i hi)).trans (h8 i hi)) hX (h5.keep k6) (own_keep h6 k6) (Nat.le_refl _)
   rw[hc];have e2:zbu 0 0=.nilIface:=rfl;rw[e2];replace hc0:=Lib.hid hc0;replace hx:=Lib.hid hx;clear e2 h;replace hk:=Lib.hid hk;replace hcg:=Lib.hid hcg;replace hap:=Lib.hid hap;replace huse:=Lib.hid huse;replace hok:=Lib.hid hok;replace hc:=Lib.hid hc;replace hh:=Lib.hid hh
   go_enter Tryz.func51,Tryz.ntmps51
   go_wp2_with fail;rw[← hW];try rw[← hb]
   replace hW:=Lib.hid hW;replace hb:=Lib.hid hb;replace hbW:=Lib.hid hbW;replace hX:=Lib.hid hX;replace hw0:=Lib.hid hw0;refine cB.out.mono ?_;rintro e w2 ⟨rfl,k2⟩;obtain⟨W2,hW2⟩:∃ W2,W2=w2.alloc (.cells #[.pointer (some ⟨qn,0,none⟩),.pointer (some ⟨qp,0,none⟩)] 79):=⟨_,rfl⟩;obtain⟨b8,hb8⟩:∃ b8,b8=w2.heap.size:=⟨_,rfl⟩;have K2:Hid (Keep W W2):=by rw[hW2];exact k2.alloc _
   have B8:Hid (W2.heap[b8]?=some (.cells #[.pointer (some ⟨qn,0,none⟩),.pointer (some ⟨qp,0,none⟩)] 79 (0,0))):=by show _=_;rw[hW2,hb8];exact heap_alloc_new _ _
   obtain⟨t0,t1,_⟩:=T12.cel2 B8.out;rw[hW2,hb8] at t0 t1;replace k2:=Lib.hid k2;go_wp2_with fail;rw[← hW2];try rw[← hb8]
   replace hW2:=Lib.hid hW2;replace hb8:=Lib.hid hb8;clear t0 t1;refine(cC.out W2 K2.out).mono ?_;rintro e w3 ⟨r,rfl,hn,hi,hr,k3⟩;obtain⟨W3,hW3⟩:∃ W3,W3=w3.alloc (.cells (zab r) 26):=⟨_,rfl⟩;obtain⟨b9,hb9⟩:∃ b9,b9=w3.heap.size:=⟨_,rfl⟩;have K23:Hid (Keep W2 W3):=by rw[hW3];exact k3.alloc _
   have KA:Hid (Keep w3 W3):=by rw[hW3];exact Keep.one _ _
   have K3:Hid (Keep W W3):=K2.out.trans K23.out;have B9:Hid (W3.heap[b9]?=some (.cells (zab r) 26 (0,0))):=by show _=_;rw[hW3,hb9];exact heap_alloc_new _ _
   have HI:=Lib.hid (hi.keep KA.out);have u4:=(zah B9.out).e4;obtain⟨t0,t1,_⟩:=T12.cel2 (K23.out.block B8.out);obtain⟨d0,d1,d2,d3,d4,d5,d6,d7,d8,g0⟩:=zah (YC.out W3 K3.out);unfold zad at d0 d1 d2 d3 d4 d5 d6 d7 d8;unfold zab at hW3;rw[hW3,hb9] at u4;rw[hW3] at t0 t1 d0 d1 d2 d3 d4 d5 d6 d7 d8 g0;replace hn:=Lib.hid hn;replace hi:=Lib.hid hi;replace hr:=Lib.hid hr;replace k3:=Lib.hid k3;unfold zaa.val;go_wp2_with fail;rw[← hW3];have hlt:W.heap.size<W3.heap.size:=by
    have:=lt_of_block B8.out;have:=k2.out.size;have:=hb8.out;have:=K23.out.size;omega
   refine(cA.out W3 K3.out hlt).mono ?_;rintro e w5 ⟨r5,rfl,hn5,sx5,hs5,F0⟩;obtain⟨W5,hW5⟩:∃ W5,W5=w5.alloc (.cells (zab r5) 26):=⟨_,rfl⟩;obtain⟨b13,hb13⟩:∃ b13,b13=w5.heap.size:=⟨_,rfl⟩;have K5:Hid (Keep w5 W5):=by rw[hW5];exact Keep.one _ _
   have B13:Hid (W5.heap[b13]?=some (.cells (zab r5) 26 (0,0))):=by show _=_;rw[hW5,hb13];exact heap_alloc_new _ _
   have F5:=Lib.hid (F0 W5 K5.out);have q9:=sx5 b9 (Or.inr ⟨by have:=hlt0.out W2 K2.out;have:=hb9;have:=K23.out.size;have:=k3.out.size;omega,lt_of_block B9.out⟩)
   have B95:Hid (W5.heap[b9]?=some (.cells (zab r) 26 (0,0))):=K5.out.block (q9.trans B9.out);have u6:=(zah B95.out).e6;clear d0 d1 d2 d3 d4 d5 d6 d7 d8 g0 t0 t1 u4;obtain⟨d0,d1,d2,d3,d4,d5,d6,d7,d8,g0⟩:=zah F5.out.1;unfold zad at d0 d1 d2 d3 d4 d5 d6 d7 d8;obtain⟨l0,l1,l2,l3,l4,l5,l6,l7,l8,lg⟩:=zah B13.out;unfold zab at hW5;rw[hW5] at d0 d1 d2 d3 d4 d5 d6 d7 d8 g0;rw[hW5,hb9] at u6;rw[hW5,hb13] at l0 l1 l2 l3 l4 l5 l6 l7 l8 lg;replace hn5:=Lib.hid hn5;replace sx5:=Lib.hid sx5;replace hs5:=Lib.hid hs5;replace q9:=Lib.hid q9;replace hlt:=Lib.hid hlt;replace F0:=Lib.hid F0;unfold zaa.val;go_wp2_with fail;refine(cD.out r _ hn.out).mono ?_;rintro e w7 ⟨rfl,rfl⟩;go_wp2;rw[← hW5];obtain⟨_,fb,fi,fr,fc,fx⟩:=F5.out;obtain⟨e0,e1,e2,e3,e4,e5,e6,e7,e8,_⟩:=zah fb;unfold put9 at *;refine bodyPost_ret (v:=.tuple #[.agg #[.int .i64 r5.k,.int .i64 r5.p,.bool r5.f,.int .i64 r5.g,.slice r5.A r5.m r5.c,.int .i64 r5.a,.int .i64 r5.h,.int .i64 r5.d,.int .i64 r5.t],.nilIface]) (by simp[results,Tryz.results51,go_sem,e0,e1,e2,e3,e4,e5,e6,e7,e8]) rfl ⟨r5,rfl,fun _=>hn5.out,fun h=>absurd rfl h,fi,fr,fc,fx⟩
 ·have huse:∀ x∈N,∀ j,j<d→x.U j=zaj (cgL L id ev dl) x.k j:=fun x hx2 j hj=>by
   rw[zgo h.ok.lok hc,if_neg h5,h.use x hx2 j hj];omega
  have b5:(ev == 5)=false:=by simpa using h5
  have cA:Hid (∀ W',Keep W W'→W.heap.size<W'.heap.size→Calls Tryz.prog 43 #[.pointer (some ⟨qp,0,none⟩),.int .i64 id,.int .i64 ev,.int .i64 (-1),.int .i64 dl] W' fun e w5=>∃ r5,e=.returned (.tuple #[r5.val,.nilIface])∧nm r5=zao (zai L id) ev (-1) dl∧zas (fun i=>X i∨zdd w1 W' i) W' w5∧W'.heap.size≤w5.heap.size∧∀ w6,Keep w5 w6→(w6.heap[b]?=some (.cells (zab zad) 26 (0,0))∧(put9 w6 b r5).heap[b]?=some (.cells (zab r5) 26 (0,0))∧zaf (put9 w6 b r5) r5∧Req (put9 w6 b r5) w1.heap.size r5∧CSd w d q M (cgL L id ev dl) X (put9 w6 b r5)∧zas X w1 (put9 w6 b r5))):=fun W' k hs=>by
   have kk:=KW.out.trans k;have h2:=h.keep kk;have hsz:w1.heap.size<W'.heap.size:=by have:=KW.out.size;omega
   refine(h2.m.apply (zdn _ hsz) id ev (-1) dl hid hev (by unfold I64;omega) hdl h.m1000 (by omega)).mono ?_
   rintro e w5 ⟨r5,he,h3,h4,h5,h6,⟨Yn,h7,_⟩,h8,h9,_⟩;rw[hap] at h7;refine⟨r5,by rw[he];unfold T13.fltC;rw[if_pos hc0];try rfl,h3 hc0,h8,h9,fun w6 k6=>?_⟩
   have h10:=h7.lt;exact zen kk ⟨by omega,by omega⟩ hw0 (k.block Y.out) ((h7.at h.nds huse hok).cs.keep k6) (fun i hi=>(Below.block k6 i (h10 i hi)).trans (h8 i hi)) hX (h5.keep k6) (own_keep h6 k6) (Nat.le_refl _)
  rw[hc];have e2:zbu 0 0=.nilIface:=rfl;rw[e2];replace hc0:=Lib.hid hc0;replace hx:=Lib.hid hx;clear e2 h;replace hk:=Lib.hid hk;replace hcg:=Lib.hid hcg;replace hap:=Lib.hid hap;replace huse:=Lib.hid huse;replace hok:=Lib.hid hok;replace hc:=Lib.hid hc;replace h5:=Lib.hid h5
  go_enter Tryz.func51,Tryz.ntmps51
  go_wp2_with fail;rw[← hW];try rw[← hb]
  replace hW:=Lib.hid hW;replace hb:=Lib.hid hb;replace hbW:=Lib.hid hbW;replace hX:=Lib.hid hX;replace hw0:=Lib.hid hw0;refine cB.out.mono ?_;rintro e w2 ⟨rfl,k2⟩;obtain⟨W2,hW2⟩:∃ W2,W2=w2.alloc (.cells #[.pointer (some ⟨qn,0,none⟩),.pointer (some ⟨qp,0,none⟩)] 79):=⟨_,rfl⟩;obtain⟨b8,hb8⟩:∃ b8,b8=w2.heap.size:=⟨_,rfl⟩;have K2:Hid (Keep W W2):=by rw[hW2];exact k2.alloc _
  have B8:Hid (W2.heap[b8]?=some (.cells #[.pointer (some ⟨qn,0,none⟩),.pointer (some ⟨qp,0,none⟩)] 79 (0,0))):=by show _=_;rw[hW2,hb8];exact heap_alloc_new _ _
  obtain⟨t0,t1,_⟩:=T12.cel2 B8.out;rw[hW2,hb8] at t0 t1;replace k2:=Lib.hid k2;go_wp2_with fail;rw[← hW2];try rw[← hb8]
  replace hW2:=Lib.hid hW2;replace hb8:=Lib.hid hb8;clear t0 t1;refine(cC.out W2 K2.out).mono ?_;rintro e w3 ⟨r,rfl,hn,hi,hr,k3⟩;obtain⟨W3,hW3⟩:∃ W3,W3=w3.alloc (.cells (zab r) 26):=⟨_,rfl⟩;obtain⟨b9,hb9⟩:∃ b9,b9=w3.heap.size:=⟨_,rfl⟩;have K23:Hid (Keep W2 W3):=by rw[hW3];exact k3.alloc _
  have KA:Hid (Keep w3 W3):=by rw[hW3];exact Keep.one _ _
  have K3:Hid (Keep W W3):=K2.out.trans K23.out;have B9:Hid (W3.heap[b9]?=some (.cells (zab r) 26 (0,0))):=by show _=_;rw[hW3,hb9];exact heap_alloc_new _ _
  have HI:=Lib.hid (hi.keep KA.out);have u4:=(zah B9.out).e4;obtain⟨t0,t1,_⟩:=T12.cel2 (K23.out.block B8.out);obtain⟨d0,d1,d2,d3,d4,d5,d6,d7,d8,g0⟩:=zah (YC.out W3 K3.out);unfold zad at d0 d1 d2 d3 d4 d5 d6 d7 d8;unfold zab at hW3;rw[hW3,hb9] at u4;rw[hW3] at t0 t1 d0 d1 d2 d3 d4 d5 d6 d7 d8 g0;replace hn:=Lib.hid hn;replace hi:=Lib.hid hi;replace hr:=Lib.hid hr;replace k3:=Lib.hid k3;unfold zaa.val;go_wp2_with fail;rw[← hW3];have hlt:W.heap.size<W3.heap.size:=by
   have:=lt_of_block B8.out;have:=k2.out.size;have:=hb8.out;have:=K23.out.size;omega
  refine(cA.out W3 K3.out hlt).mono ?_;rintro e w5 ⟨r5,rfl,hn5,sx5,hs5,F0⟩;obtain⟨W5,hW5⟩:∃ W5,W5=w5.alloc (.cells (zab r5) 26):=⟨_,rfl⟩;obtain⟨b13,hb13⟩:∃ b13,b13=w5.heap.size:=⟨_,rfl⟩;have K5:Hid (Keep w5 W5):=by rw[hW5];exact Keep.one _ _
  have B13:Hid (W5.heap[b13]?=some (.cells (zab r5) 26 (0,0))):=by show _=_;rw[hW5,hb13];exact heap_alloc_new _ _
  have F5:=Lib.hid (F0 W5 K5.out);have q9:=sx5 b9 (Or.inr ⟨by have:=hlt0.out W2 K2.out;have:=hb9;have:=K23.out.size;have:=k3.out.size;omega,lt_of_block B9.out⟩)
  have B95:Hid (W5.heap[b9]?=some (.cells (zab r) 26 (0,0))):=K5.out.block (q9.trans B9.out);have u6:=(zah B95.out).e6;clear d0 d1 d2 d3 d4 d5 d6 d7 d8 g0 t0 t1 u4;obtain⟨d0,d1,d2,d3,d4,d5,d6,d7,d8,g0⟩:=zah F5.out.1;unfold zad at d0 d1 d2 d3 d4 d5 d6 d7 d8;obtain⟨l0,l1,l2,l3,l4,l5,l6,l7,l8,lg⟩:=zah B13.out;unfold zab at hW5;rw[hW5] at d0 d1 d2 d3 d4 d5 d6 d7 d8 g0;rw[hW5,hb9] at u6;rw[hW5,hb13] at l0 l1 l2 l3 l4 l5 l6 l7 l8 lg;replace hn5:=Lib.hid hn5;replace sx5:=Lib.hid sx5;replace hs5:=Lib.hid hs5;replace q9:=Lib.hid q9;replace hlt:=Lib.hid hlt;replace F0:=Lib.hid F0;unfold zaa.val;go_wp2;rw[← hW5];obtain⟨_,fb,fi,fr,fc,fx⟩:=F5.out;obtain⟨e0,e1,e2,e3,e4,e5,e6,e7,e8,_⟩:=zah fb;unfold put9 at *;refine bodyPost_ret (v:=.tuple #[.agg #[.int .i64 r5.k,.int .i64 r5.p,.bool r5.f,.int .i64 r5.g,.slice r5.A r5.m r5.c,.int .i64 r5.a,.int .i64 r5.h,.int .i64 r5.d,.int .i64 r5.t],.nilIface]) (by simp[results,Tryz.results51,go_sem,e0,e1,e2,e3,e4,e5,e6,e7,e8]) rfl ⟨r5,rfl,fun _=>hn5.out,fun h=>absurd rfl h,fi,fr,fc,fx⟩
end
end Go.Proofs.YtihjgcibpfajkaaGreatDoor.T14
