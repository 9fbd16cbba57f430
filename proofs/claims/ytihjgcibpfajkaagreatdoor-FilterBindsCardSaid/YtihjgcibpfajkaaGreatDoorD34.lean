/-
  The landed cluster: check: the pod to which an event with a node applies, or the first error. No condition.
  The landed store's Apply. No condition.
  The landed cluster: what Bind, Claim and Change leave, between their calls. No walk.
-/
import Derived.Test.YtihjgcibpfajkaaGreatDoorD33
import Derived.Test.YtihjgcibpfajkaaGreatDoorD32
namespace Go.Proofs.YtihjgcibpfajkaaGreatDoor.T14
open Go.RowKit Go.Sort Go.Lib V12 T13
def ckC(M:List NV)(L:List zaa)(id nd ev:Int):Int:=if id∉keys L then 5 else if nd∉nk M then 5 else if nx (zai L id).h ev=0 then 8 else 0
section
variable{w w1 w2:World}{d q:Nat}{M:List NV}{L:List zaa}{X Z:Nat→Prop}{qn qp:Nat}{N:List T12.NodeV}{Xn Xp:Nat→Prop}
set_option maxRecDepth 100000 in
set_option maxHeartbeats 8000000 in
theorem zms(h:zbf w d q M L X w1 qn qp N Xn Xp)(id nd ev:Int)(hid:I64 id):Calls Tryz.prog 41 #[.agg #[.pointer (some ⟨qn,0,none⟩),.pointer (some ⟨qp,0,none⟩)],.int .i64 id,.int .i64 nd,.int .i64 ev] w1 fun e w'=>∃ r,e=.returned (.tuple #[r.val,zbu (ckC M L id nd ev) (plI M L id nd)])∧(ckC M L id nd ev=0→nm r=zai L id)∧(ckC M L id nd ev≠0→nm r=zad)∧zaf w' r∧Req w' w1.heap.size r∧Keep w1 w':=by
 obtain⟨W0,hW0⟩:∃ W0,W0=w1.alloc (.cells #[.pointer (some ⟨qn,0,none⟩),.pointer (some ⟨qp,0,none⟩)] 79):=⟨_,rfl⟩;obtain⟨W,hW⟩:∃ W,W=W0.alloc (.cells (zab zad) 26):=⟨_,rfl⟩;obtain⟨bx,hbx⟩:∃ bx,bx=w1.heap.size:=⟨_,rfl⟩;obtain⟨b,hb⟩:∃ b,b=w1.heap.size+1:=⟨_,rfl⟩;have s0:W0.heap.size=b:=by rw[hW0,World.size_alloc,hb]
 have KW:Hid (Keep w1 W):=by rw[hW,hW0];exact(Keep.one _ _:Keep w1 _).alloc _
 have BX:Hid (W.heap[bx]?=some (.cells #[.pointer (some ⟨qn,0,none⟩),.pointer (some ⟨qp,0,none⟩)] 79 (0,0))):=by show _=_;rw[hW,hW0,hbx];exact(Keep.one _ _).block (heap_alloc_new _ _)
 have Y:Hid (W.heap[b]?=some (.cells (zab zad) 26 (0,0))):=by show _=_;rw[hW,← s0];exact heap_alloc_new _ _
 have h1:=h.keep KW.out;have cG:Hid (Calls Tryz.prog 36 #[.pointer (some ⟨qp,0,none⟩),.int .i64 id] W fun e w'=>∃ r,e=.returned (.tuple #[r.val,.bool (decide (id∈keys L))])∧nm r=zai L id∧zaf w' r∧Req w' W.heap.size r∧Keep W w'):=zdz.get id h1.os hid h1.m1000
 have cN:Hid (∀ W',Keep W W'→Calls Tryz.prog 32 #[.pointer (some ⟨qn,0,none⟩),.int .i64 nd] W' fun e w'=>∃ k A n c,e=.returned (.tuple #[.agg #[.int .i64 k,.slice A n c],.bool (decide (nd∈nk M))])∧Keep W w'∧Keep W' w'):=fun W' k2=>by
  have h2:=h1.keep k2
  by_cases hk:nd∈nk M
  ·rw[decide_eq_true hk]
   refine(zhq h2.on nd (by rw[h2.keys];exact hk)).mono ?_
   rintro e w' ⟨A,c,he,r,k3⟩;exact⟨nd,A,d,c,he,k2.trans k3,k3⟩
  ·rw[decide_eq_false hk]
   refine(zjs h2.on nd (by rw[h2.keys];exact hk)).mono ?_
   rintro e w' ⟨he,k3⟩;exact⟨0,none,0,0,he,k2.trans k3,k3⟩
 have cE:Hid (∀ c n W,Calls Tryz.prog 37 #[.int .i64 c,.int .i64 n] W fun e w'=>e=.returned (.iface 124 (.agg #[.int .i64 c,.int .i64 n]))∧W=w'):=fun c n W=>zep c n W
 have cFin:Hid (∀ W',Keep W W'→(put9 W' b zad).heap[b]?=some (.cells (zab zad) 26 (0,0))∧Keep w1 (put9 W' b zad)):=fun W' k2=>⟨zbs _ zad (k2.block Y.out),zcc _ (KW.out.trans k2) (by omega)⟩
 have FIN:Hid (∀ w' r,Keep W w'→zaf w' r→Req w' W.heap.size r→(put9 w' b r).heap[b]?=some (.cells (zab r) 26 (0,0))∧zaf (put9 w' b r) r∧Req (put9 w' b r) w1.heap.size r∧Keep w1 (put9 w' b r)):=fun w' r k2 hi hr=>by
  have h3:=zmd hr (lt_of_block Y.out) r;exact⟨zbs _ zad (k2.block Y.out),h3.is hi.ok,own_base' h3 KW.out.size,zcc _ (KW.out.trans k2) (by omega)⟩
 have YC:Hid (∀ w',Keep W w'→w'.heap[b]?=some (.cells (zab zad) 26 (0,0))):=fun w' k=>k.block Y.out
 obtain⟨cx0,cx1,_⟩:=T12.cel2 BX.out;have hbW:b<W.heap.size:=lt_of_block Y.out;unfold zab zad at hW;clear h;replace h1:=Lib.hid h1;have cx0':=Lib.hid cx0
 by_cases hk:id∉keys L
 ·have hc:ckC M L id nd ev=5:=by
   unfold ckC;rw[if_pos hk]
  have hi1:plI M L id nd=0:=if_neg fun hh=>hk hh.1
  rw[hc,hi1];replace hc:=Lib.hid hc;replace hi1:=Lib.hid hi1;unfold zbu;rw[if_neg (by decide)]
  unfold flt Base.val;rw[decide_eq_false hk] at cG;replace hk:=Lib.hid hk
  go_enter Tryz.func41,Tryz.ntmps41
  go_wp2_with fail;rw[← hW0,← hW];try rw[← hb]
  try rw[← hbx]
  replace hW0:=Lib.hid hW0;replace hW:=Lib.hid hW;replace hb:=Lib.hid hb;replace hbx:=Lib.hid hbx;replace s0:=Lib.hid s0;replace hbW:=Lib.hid hbW;refine cG.out.mono ?_;rintro e w2 ⟨r,rfl,hn,hi,hr,k2⟩;obtain⟨W2,hW2⟩:∃ W2,W2=w2.alloc (.cells (zab r) 26):=⟨_,rfl⟩;have K2:Hid (Keep W W2):=by rw[hW2];exact k2.alloc _
  have KA:Hid (Keep w2 W2):=by rw[hW2];exact Keep.one _ _
  have YP:Hid (W2.heap[w2.heap.size]?=some (.cells (zab r) 26 (0,0))):=by show _=_;rw[hW2];exact heap_alloc_new _ _
  have HI:=Lib.hid (hi.keep KA.out);have HR:Hid (Req W2 W.heap.size r):=own_keep hr KA.out;have x0:=K2.out.cell cx0'.out;obtain⟨d0,d1,d2,d3,d4,d5,d6,d7,d8,g0⟩:=zah (YC.out W2 K2.out);unfold zad at d0 d1 d2 d3 d4 d5 d6 d7 d8;unfold zab at hW2;rw[hW2] at x0 d0 d1 d2 d3 d4 d5 d6 d7 d8 g0;replace hn:=Lib.hid hn;replace hi:=Lib.hid hi;replace hr:=Lib.hid hr;replace k2:=Lib.hid k2;clear cx0 cx1;unfold zaa.val;go_wp2_with fail;rw[← hW2] at *;refine(cE.out 5 0 _).mono ?_;rintro e w8 ⟨rfl,rfl⟩;go_wp2;obtain⟨z,kz⟩:=cFin.out W2 K2.out;obtain⟨e0,e1,e2,e3,e4,e5,e6,e7,e8,_⟩:=zah z;unfold put9 zad at *;refine bodyPost_ret (v:=.tuple #[.agg #[.int .i64 0,.int .i64 0,.bool false,.int .i64 0,.slice none 0 0,.int .i64 0,.int .i64 0,.int .i64 0,.int .i64 0],.iface 124 (.agg #[.int .i64 5,.int .i64 0])]) (by simp[results,Tryz.results41,go_sem,e0,e1,e2,e3,e4,e5,e6,e7,e8]) rfl ⟨zad,rfl,fun h=>absurd h (by decide),fun _=>rfl,zbj _,zbg _ _,kz⟩
 replace hk:=Classical.not_not.1 hk
 by_cases hn0:nd∉nk M
 ·have hc:ckC M L id nd ev=5:=by
   unfold ckC;rw[if_neg (not_not_intro hk),if_pos hn0]
  have hi1:plI M L id nd=1:=if_pos ⟨hk,hn0⟩;rw[hc,hi1];replace hc:=Lib.hid hc;replace hi1:=Lib.hid hi1;unfold zbu;rw[if_neg (by decide)]
  unfold flt Base.val;rw[decide_eq_true hk] at cG;rw[decide_eq_false hn0] at cN;replace hk:=Lib.hid hk;replace hn0:=Lib.hid hn0
  go_enter Tryz.func41,Tryz.ntmps41
  go_wp2_with fail;rw[← hW0,← hW];try rw[← hb]
  try rw[← hbx]
  replace hW0:=Lib.hid hW0;replace hW:=Lib.hid hW;replace hb:=Lib.hid hb;replace hbx:=Lib.hid hbx;replace s0:=Lib.hid s0;replace hbW:=Lib.hid hbW;refine cG.out.mono ?_;rintro e w2 ⟨r,rfl,hn,hi,hr,k2⟩;obtain⟨W2,hW2⟩:∃ W2,W2=w2.alloc (.cells (zab r) 26):=⟨_,rfl⟩;have K2:Hid (Keep W W2):=by rw[hW2];exact k2.alloc _
  have KA:Hid (Keep w2 W2):=by rw[hW2];exact Keep.one _ _
  have YP:Hid (W2.heap[w2.heap.size]?=some (.cells (zab r) 26 (0,0))):=by show _=_;rw[hW2];exact heap_alloc_new _ _
  have HI:=Lib.hid (hi.keep KA.out);have HR:Hid (Req W2 W.heap.size r):=own_keep hr KA.out;have x0:=K2.out.cell cx0'.out;obtain⟨d0,d1,d2,d3,d4,d5,d6,d7,d8,g0⟩:=zah (YC.out W2 K2.out);unfold zad at d0 d1 d2 d3 d4 d5 d6 d7 d8;unfold zab at hW2;rw[hW2] at x0 d0 d1 d2 d3 d4 d5 d6 d7 d8 g0;replace hn:=Lib.hid hn;replace hi:=Lib.hid hi;replace hr:=Lib.hid hr;replace k2:=Lib.hid k2;clear cx0 cx1;unfold zaa.val;go_wp2_with fail;rw[← hW2] at *;refine(cN.out W2 K2.out).mono ?_;rintro e w3 ⟨nk3,nA3,nn3,nc3,rfl,k3,k23⟩;obtain⟨W3,hW3⟩:∃ W3,W3=w3.alloc (.cells #[.int .i64 nk3,.slice nA3 nn3 nc3] 55):=⟨_,rfl⟩;have K3:Hid (Keep W W3):=by rw[hW3];exact k3.alloc _
  have K23:Hid (Keep W2 W3):=by rw[hW3];exact k23.alloc _
  clear d0 d1 d2 d3 d4 d5 d6 d7 d8 g0 x0;obtain⟨d0,d1,d2,d3,d4,d5,d6,d7,d8,g0⟩:=zah (YC.out W3 K3.out);unfold zad at d0 d1 d2 d3 d4 d5 d6 d7 d8;have x6:=(zah (K23.out.block YP.out)).e6;rw[hW3] at x6 d0 d1 d2 d3 d4 d5 d6 d7 d8 g0;replace k3:=Lib.hid k3;replace k23:=Lib.hid k23;go_wp2_with fail;rw[← hW3] at *;refine(cE.out 5 1 _).mono ?_;rintro e w8 ⟨rfl,rfl⟩;go_wp2;obtain⟨z,kz⟩:=cFin.out W3 K3.out;obtain⟨e0,e1,e2,e3,e4,e5,e6,e7,e8,_⟩:=zah z;unfold put9 zad at *;refine bodyPost_ret (v:=.tuple #[.agg #[.int .i64 0,.int .i64 0,.bool false,.int .i64 0,.slice none 0 0,.int .i64 0,.int .i64 0,.int .i64 0,.int .i64 0],.iface 124 (.agg #[.int .i64 5,.int .i64 1])]) (by simp[results,Tryz.results41,go_sem,e0,e1,e2,e3,e4,e5,e6,e7,e8]) rfl ⟨zad,rfl,fun h=>absurd h (by decide),fun _=>rfl,zbj _,zbg _ _,kz⟩
 replace hn0:=Classical.not_not.1 hn0
 by_cases hx:nx (zai L id).h ev=0
 ·have hc:ckC M L id nd ev=8:=by
   unfold ckC;rw[if_neg (not_not_intro hk),if_neg (not_not_intro hn0),if_pos hx]
  have hi1:plI M L id nd=0:=if_neg fun hh=>hh.2 hn0
  rw[hc,hi1];replace hc:=Lib.hid hc;replace hi1:=Lib.hid hi1;unfold zbu;rw[if_neg (by decide)]
  unfold flt Base.val;rw[decide_eq_true hk] at cG;rw[decide_eq_true hn0] at cN;replace hk:=Lib.hid hk;replace hn0:=Lib.hid hn0;have cX:Hid (∀ (r:zaa) W',nm r=zai L id→Calls Tryz.prog 69 #[.int .i64 r.h,.int .i64 ev] W' fun e w'=>e=.returned (.tuple #[.int .i64 0,.bool false])∧Keep W' w'):=fun r W' hn=>by
   have e:nx r.h ev=0:=by rw[← hx,← hn];rfl
   have:=zfu r.h ev W';rw[e] at this;exact this
  replace hx:=Lib.hid hx
  go_enter Tryz.func41,Tryz.ntmps41
  go_wp2_with fail;rw[← hW0,← hW];try rw[← hb]
  try rw[← hbx]
  replace hW0:=Lib.hid hW0;replace hW:=Lib.hid hW;replace hb:=Lib.hid hb;replace hbx:=Lib.hid hbx;replace s0:=Lib.hid s0;replace hbW:=Lib.hid hbW;refine cG.out.mono ?_;rintro e w2 ⟨r,rfl,hn,hi,hr,k2⟩;obtain⟨W2,hW2⟩:∃ W2,W2=w2.alloc (.cells (zab r) 26):=⟨_,rfl⟩;have K2:Hid (Keep W W2):=by rw[hW2];exact k2.alloc _
  have KA:Hid (Keep w2 W2):=by rw[hW2];exact Keep.one _ _
  have YP:Hid (W2.heap[w2.heap.size]?=some (.cells (zab r) 26 (0,0))):=by show _=_;rw[hW2];exact heap_alloc_new _ _
  have HI:=Lib.hid (hi.keep KA.out);have HR:Hid (Req W2 W.heap.size r):=own_keep hr KA.out;have x0:=K2.out.cell cx0'.out;obtain⟨d0,d1,d2,d3,d4,d5,d6,d7,d8,g0⟩:=zah (YC.out W2 K2.out);unfold zad at d0 d1 d2 d3 d4 d5 d6 d7 d8;unfold zab at hW2;rw[hW2] at x0 d0 d1 d2 d3 d4 d5 d6 d7 d8 g0;replace hn:=Lib.hid hn;replace hi:=Lib.hid hi;replace hr:=Lib.hid hr;replace k2:=Lib.hid k2;clear cx0 cx1;unfold zaa.val;go_wp2_with fail;rw[← hW2] at *;refine(cN.out W2 K2.out).mono ?_;rintro e w3 ⟨nk3,nA3,nn3,nc3,rfl,k3,k23⟩;obtain⟨W3,hW3⟩:∃ W3,W3=w3.alloc (.cells #[.int .i64 nk3,.slice nA3 nn3 nc3] 55):=⟨_,rfl⟩;have K3:Hid (Keep W W3):=by rw[hW3];exact k3.alloc _
  have K23:Hid (Keep W2 W3):=by rw[hW3];exact k23.alloc _
  clear d0 d1 d2 d3 d4 d5 d6 d7 d8 g0 x0;obtain⟨d0,d1,d2,d3,d4,d5,d6,d7,d8,g0⟩:=zah (YC.out W3 K3.out);unfold zad at d0 d1 d2 d3 d4 d5 d6 d7 d8;have x6:=(zah (K23.out.block YP.out)).e6;rw[hW3] at x6 d0 d1 d2 d3 d4 d5 d6 d7 d8 g0;replace k3:=Lib.hid k3;replace k23:=Lib.hid k23;go_wp2_with fail;rw[← hW3] at *;refine(cX.out r W3 hn.out).mono ?_;rintro e w4 ⟨rfl,k4⟩;have K4:Hid (Keep W w4):=K3.out.trans k4;replace k4:=Lib.hid k4;clear d0 d1 d2 d3 d4 d5 d6 d7 d8 g0 x6;obtain⟨d0,d1,d2,d3,d4,d5,d6,d7,d8,g0⟩:=zah (YC.out w4 K4.out);unfold zad at d0 d1 d2 d3 d4 d5 d6 d7 d8;go_wp2_with fail;refine(cE.out 8 0 _).mono ?_;rintro e w8 ⟨rfl,rfl⟩;go_wp2;obtain⟨z,kz⟩:=cFin.out w4 K4.out;obtain⟨e0,e1,e2,e3,e4,e5,e6,e7,e8,_⟩:=zah z;unfold put9 zad at *;refine bodyPost_ret (v:=.tuple #[.agg #[.int .i64 0,.int .i64 0,.bool false,.int .i64 0,.slice none 0 0,.int .i64 0,.int .i64 0,.int .i64 0,.int .i64 0],.iface 124 (.agg #[.int .i64 8,.int .i64 0])]) (by simp[results,Tryz.results41,go_sem,e0,e1,e2,e3,e4,e5,e6,e7,e8]) rfl ⟨zad,rfl,fun h=>absurd h (by decide),fun _=>rfl,zbj _,zbg _ _,kz⟩
 ·have hc:ckC M L id nd ev=0:=by
   unfold ckC;rw[if_neg (not_not_intro hk),if_neg (not_not_intro hn0),if_neg hx]
  have hi1:plI M L id nd=0:=if_neg fun hh=>hh.2 hn0
  rw[hc,hi1];replace hc:=Lib.hid hc;replace hi1:=Lib.hid hi1;unfold zbu;rw[if_pos rfl];rw[decide_eq_true hk] at cG;rw[decide_eq_true hn0] at cN;replace hk:=Lib.hid hk;replace hn0:=Lib.hid hn0;have cX:Hid (∀ (r:zaa) W',nm r=zai L id→Calls Tryz.prog 69 #[.int .i64 r.h,.int .i64 ev] W' fun e w'=>∃ z,e=.returned (.tuple #[.int .i64 z,.bool true])∧Keep W' w'):=fun r W' hn=>by
   have e:¬nx r.h ev=0:=by
    have e2:r.h=(zai L id).h:=by rw[← hn];rfl
    rw[e2];exact hx
   have:=zfu r.h ev W';rw[decide_eq_true e] at this;exact this.mono fun _ _ h=>⟨_,h⟩
  replace hx:=Lib.hid hx
  go_enter Tryz.func41,Tryz.ntmps41
  go_wp2_with fail;rw[← hW0,← hW];try rw[← hb]
  try rw[← hbx]
  replace hW0:=Lib.hid hW0;replace hW:=Lib.hid hW;replace hb:=Lib.hid hb;replace hbx:=Lib.hid hbx;replace s0:=Lib.hid s0;replace hbW:=Lib.hid hbW;refine cG.out.mono ?_;rintro e w2 ⟨r,rfl,hn,hi,hr,k2⟩;obtain⟨W2,hW2⟩:∃ W2,W2=w2.alloc (.cells (zab r) 26):=⟨_,rfl⟩;have K2:Hid (Keep W W2):=by rw[hW2];exact k2.alloc _
  have KA:Hid (Keep w2 W2):=by rw[hW2];exact Keep.one _ _
  have YP:Hid (W2.heap[w2.heap.size]?=some (.cells (zab r) 26 (0,0))):=by show _=_;rw[hW2];exact heap_alloc_new _ _
  have HI:=Lib.hid (hi.keep KA.out);have HR:Hid (Req W2 W.heap.size r):=own_keep hr KA.out;have x0:=K2.out.cell cx0'.out;obtain⟨d0,d1,d2,d3,d4,d5,d6,d7,d8,g0⟩:=zah (YC.out W2 K2.out);unfold zad at d0 d1 d2 d3 d4 d5 d6 d7 d8;unfold zab at hW2;rw[hW2] at x0 d0 d1 d2 d3 d4 d5 d6 d7 d8 g0;replace hn:=Lib.hid hn;replace hi:=Lib.hid hi;replace hr:=Lib.hid hr;replace k2:=Lib.hid k2;clear cx0 cx1;unfold zaa.val;go_wp2_with fail;rw[← hW2] at *;refine(cN.out W2 K2.out).mono ?_;rintro e w3 ⟨nk3,nA3,nn3,nc3,rfl,k3,k23⟩;obtain⟨W3,hW3⟩:∃ W3,W3=w3.alloc (.cells #[.int .i64 nk3,.slice nA3 nn3 nc3] 55):=⟨_,rfl⟩;have K3:Hid (Keep W W3):=by rw[hW3];exact k3.alloc _
  have K23:Hid (Keep W2 W3):=by rw[hW3];exact k23.alloc _
  clear d0 d1 d2 d3 d4 d5 d6 d7 d8 g0 x0;obtain⟨d0,d1,d2,d3,d4,d5,d6,d7,d8,g0⟩:=zah (YC.out W3 K3.out);unfold zad at d0 d1 d2 d3 d4 d5 d6 d7 d8;have x6:=(zah (K23.out.block YP.out)).e6;rw[hW3] at x6 d0 d1 d2 d3 d4 d5 d6 d7 d8 g0;replace k3:=Lib.hid k3;replace k23:=Lib.hid k23;go_wp2_with fail;rw[← hW3] at *;refine(cX.out r W3 hn.out).mono ?_;rintro e w4 ⟨z,rfl,k4⟩;have K4:Hid (Keep W w4):=K3.out.trans k4;have K24:Hid (Keep W2 w4):=K23.out.trans k4;replace k4:=Lib.hid k4;clear d0 d1 d2 d3 d4 d5 d6 d7 d8 g0 x6;obtain⟨d0,d1,d2,d3,d4,d5,d6,d7,d8,g0⟩:=zah (YC.out w4 K4.out);unfold zad at d0 d1 d2 d3 d4 d5 d6 d7 d8;obtain⟨x0,x1,x2,x3,x4,x5,x6,x7,x8,xg⟩:=zah (K24.out.block YP.out);go_wp2;obtain⟨zb,zi,zr,kz⟩:=FIN.out w4 r K4.out (HI.out.keep K24.out) (own_keep HR.out K24.out);obtain⟨e0,e1,e2,e3,e4,e5,e6,e7,e8,_⟩:=zah zb;unfold put9 at *;refine bodyPost_ret (v:=.tuple #[.agg #[.int .i64 r.k,.int .i64 r.p,.bool r.f,.int .i64 r.g,.slice r.A r.m r.c,.int .i64 r.a,.int .i64 r.h,.int .i64 r.d,.int .i64 r.t],.nilIface]) (by simp[results,Tryz.results41,go_sem,e0,e1,e2,e3,e4,e5,e6,e7,e8]) rfl ⟨r,rfl,fun _=>hn.out,fun h=>absurd rfl h,zi,zr,kz⟩
end
end Go.Proofs.YtihjgcibpfajkaaGreatDoor.T14
namespace Go.Proofs.YtihjgcibpfajkaaGreatDoor.T13
open Go.RowKit Go.Sort Go.Lib V12
def ownB(r:zaa)(i:Nat):Prop:=(Value.slice r.A r.m r.c).ownBlock=some i
theorem abr:∀ {w s q L X w1} (id e nd dl:Int),OSd w s q L X w1→I64 id→I64 e→I64 nd→I64 dl→(∀ y∈L,y.m≤1000)→L.length≤1000 →
  Calls Tryz.prog 43 #[.pointer (some ⟨q,0,none⟩),.int .i64 id,.int .i64 e,.int .i64 nd,.int .i64 dl] w1 fun e' w'=>∃ r,e'=.returned (.tuple #[r.val,fltC (zbi L id e)])∧(zbi L id e=0→nm r=zao (zai L id) e nd dl)∧(zbi L id e≠0→nm r=zad)∧zaf w' r∧Req w' w1.heap.size r∧OSd w s q (zcn L id e nd dl) (fun i=>X i∨ownB r i) w'∧∀ i,X i→w'.heap[i]?=w1.heap[i]?:=by
 rintro w s q L X w1 id e nd dl ⟨t,m,A,c,P,h,hL,k0,hX⟩ hid he hnd hdl hm hl;have hk:=zis hL
 by_cases h1:id∈keys L
 ·obtain⟨j,hj,rfl⟩:=zlp (by rw[← hk];exact h1)
  have eg:(zai L (P j).k).h=(P j).h:=by
   rw[← hL,← zfl,h.get hj];rfl
  by_cases h2:nx (P j).h e=0
  ·have e8:zbi L (P j).k e=8:=by unfold zbi;rw[if_neg (not_not_intro h1),eg,if_pos h2]
   refine(zib h hj e nd dl h2).mono ?_;rintro e' w' ⟨rfl,k⟩;rw[e8];refine⟨zad,rfl,fun h=>absurd h (by decide),fun _=>rfl,zbj _,zbg _ _,?_,fun i hi=>Below.block k i (hX i hi).1⟩
   unfold zcn;rw[e8,if_neg (by decide)]
   refine OSd.more ⟨t,m,A,c,P,h,hL,k0,hX⟩ k ?_;intro i h0;exact absurd h0 (by simp[ownB,zad,Value.ownBlock])
  ·have e0:zbi L (P j).k e=0:=by unfold zbi;rw[if_neg (not_not_intro h1),eg,if_neg h2]
   have ea:=zlu h hj (nd:=nd) (dl:=dl) h2;rw[hL] at ea;refine(zju h hj e nd dl hnd hdl h2 (m_of hL hm j hj)).mono ?_;rintro e' w' ⟨B,d,rfl,R,ok,S,f⟩;rw[e0];refine⟨(zao (P j) e nd dl).at B d,rfl,fun _=>?_,fun h=>absurd rfl h,R.is ok,R,?_,fun i hi=>f.block i (hX i hi).1 fun h3=>(hX i hi).2 (Or.inr (Or.inr (Or.inr (Or.inl h3))))⟩
   ·rw[← hL,← zfl,h.get hj]
    rfl
   ·have hFE:∀ i,FE q t m A c L.length (put P j (zao (P j) e nd dl)) i→FE q t m A c L.length P i:=by
     rintro i (h3 | h3 | h3 | h3 | ⟨i2,hi2,h3⟩)
     ·exact Or.inl h3
     ·exact Or.inr (Or.inl h3)
     ·exact Or.inr (Or.inr (Or.inl h3))
     ·exact Or.inr (Or.inr (Or.inr (Or.inl h3)))
     ·refine Or.inr (Or.inr (Or.inr (Or.inr ⟨i2,hi2,?_⟩)))
      by_cases e3:i2=j
      ·rw[e3,put_at] at h3
       rw[e3];exact h3
      ·rw[put_ne _ _ _ e3] at h3
       exact h3
    refine⟨t,m,A,c,put P j (zao (P j) e nd dl),by rw[zde];exact S,by rw[zde];exact ea.1,Fr.low k0 f fun i hi=>(h.lt i (Or.inr (Or.inr (Or.inr (Or.inl hi))))).1,?_⟩
    rw[zde];rintro i (hi | hi)
    ·exact⟨Nat.lt_of_lt_of_le (hX i hi).1 f.size,fun hf=>(hX i hi).2 (hFE i hf)⟩
    ·have h3:=R.lt i hi
     exact⟨h3.2,fun hf=>by have:=(h.lt i (hFE i hf)).2;omega⟩
 ·have e5:zbi L id e=5:=if_pos h1
  refine(zic h (by rw[← hk];exact h1) e nd dl).mono ?_
  rintro e' w' ⟨rfl,k⟩;rw[e5];refine⟨zad,rfl,fun h=>absurd h (by decide),fun _=>rfl,zbj _,zbg _ _,?_,fun i hi=>Below.block k i (hX i hi).1⟩
  unfold zcn;rw[e5,if_neg (by decide)]
  refine OSd.more ⟨t,m,A,c,P,h,hL,k0,hX⟩ k ?_;intro i h0;exact absurd h0 (by simp[ownB,zad,Value.ownBlock])
end Go.Proofs.YtihjgcibpfajkaaGreatDoor.T13
namespace Go.Proofs.YtihjgcibpfajkaaGreatDoor.T14
open Go.RowKit Go.Sort Go.Lib V12 T13
theorem zqa{n:Nat}{Z:Nat→Int}(h:∀ j,j<n→Amt (Z j)):¬0≤zae n Z (n:Int):=by
 rw[zdc fun j hj=>?_,if_pos rfl]
 ·decide
 ·unfold zat
  have:=h j hj;unfold Amt at this;exact decide_eq_false (by omega)
structure CsM(w:World)(d q:Nat)(L:List zaa)(X:Nat→Prop)(w1:World)(qn qp:Nat)(N:List T12.NodeV)(Xn Xp:Nat→Prop):Prop where
 blk:w1.heap[q]?=some (.cells #[.pointer (some ⟨qn,0,none⟩),.pointer (some ⟨qp,0,none⟩)] 92 (0,0))
 low:w.heap.size≤q
 on:ON w d 1024 qn N Xn w1
 os:OSd w 65536 qp L Xp w1
 qn':Xn q
 qp':Xp q
 qx:¬X q
 sub:∀ i,X i→Xn i∧Xp i
 cov:∀ i,i<w1.heap.size→Xn i∨Xp i
section
variable{w w1 w2 w3:World}{d q:Nat}{M:List NV}{L:List zaa}{X Z:Nat→Prop}{qn qp:Nat}{N:List T12.NodeV}{Xn Xp:Nat→Prop}
theorem zbf.m(h:zbf w d q M L X w1 qn qp N Xn Xp):CsM w d q L X w1 qn qp N Xn Xp:=⟨h.blk,h.low,h.on,h.os,h.qn',h.qp',h.qx,h.sub,h.cov⟩
theorem CsM.at(h:CsM w d q L X w1 qn qp N Xn Xp)(nds:N.map nvn=M)(use:∀ x∈N,∀ j,j<d→x.U j=zaj L x.k j)(ok:Ok d M L):zbf w d q M L X w1 qn qp N Xn Xp:=⟨h.blk,h.low,h.on,h.os,h.qn',h.qp',h.qx,h.sub,h.cov,nds,use,ok⟩
theorem CsM.lt(h:CsM w d q L X w1 qn qp N Xn Xp):∀ i,X i→i<w1.heap.size:=fun i hi=>h.on.lt i (h.sub i hi).1
theorem CsM.keep(h:CsM w d q L X w1 qn qp N Xn Xp)(k:Keep w1 w2):CsM w d q L (fun i=>X i∨zdd w1 w2 i) w2 qn qp N (fun i=>Xn i∨zdd w1 w2 i) (fun i=>Xp i∨zdd w1 w2 i):=by
 have hq:q<w1.heap.size:=lt_of_block h.blk;have kw:=h.on.kp.trans k;refine⟨k.block h.blk,h.low,h.on.grow kw k.size (fun i hi _=>Below.block k i hi) fun _ h=>h,zdz.grow h.os kw k.size (fun i hi _=>Below.block k i hi) fun _ h=>h,Or.inl h.qn',Or.inl h.qp',?_,?_,?_⟩
 ·rintro(h1 | h1)
  ·exact h.qx h1
  ·have:=h1.1
   omega
 ·rintro i (h1 | h1)
  ·exact⟨Or.inl (h.sub i h1).1,Or.inl (h.sub i h1).2⟩
  ·exact⟨Or.inr h1,Or.inr h1⟩
 ·intro i hi
  by_cases h1:i<w1.heap.size
  ·exact(h.cov i h1).imp Or.inl Or.inl
  ·exact Or.inl (Or.inr ⟨by omega,hi⟩)
theorem CsM.nodes{N2:List T12.NodeV}(h:CsM w d q L X w1 qn qp N Xn Xp)(o:ON w d 1024 qn N2 Xn w2)(sx:zas Xn w1 w2)(hs:w1.heap.size≤w2.heap.size):CsM w d q L X w2 qn qp N2 Xn (fun i=>Xp i∨zdd w1 w2 i):=by
 refine⟨(sx q h.qn').trans h.blk,h.low,o,zdz.grow h.os o.kp hs (fun k hk hn=>sx k ((h.cov k hk).resolve_right hn)) fun _ h=>h,h.qn',Or.inl h.qp',h.qx,fun i hi=>⟨(h.sub i hi).1,Or.inl (h.sub i hi).2⟩,fun i hi=>?_⟩
 by_cases h1:i<w1.heap.size
 ·exact(h.cov i h1).imp id Or.inl
 ·exact Or.inr (Or.inr ⟨by omega,hi⟩)
theorem CsM.pods{L2:List zaa}(h:CsM w d q L X w1 qn qp N Xn Xp)(o:OSd w 65536 qp L2 (fun i=>Xp i∨Z i) w2)(sx:zas Xp w1 w2)(hs:w1.heap.size≤w2.heap.size):CsM w d q L2 X w2 qn qp N (fun i=>Xn i∨zdd w1 w2 i) (fun i=>Xp i∨Z i):=by
 refine⟨(sx q h.qp').trans h.blk,h.low,h.on.grow (zdz.kp o) hs (fun k hk hn=>sx k ((h.cov k hk).resolve_left hn)) fun _ h=>h,o,Or.inl h.qn',Or.inl h.qp',h.qx,fun i hi=>⟨Or.inl (h.sub i hi).1,Or.inl (h.sub i hi).2⟩,fun i hi=>?_⟩
 by_cases h1:i<w1.heap.size
 ·exact(h.cov i h1).imp Or.inl Or.inl
 ·exact Or.inl (Or.inr ⟨by omega,hi⟩)
theorem zdn(Y:Nat→Prop)(hs:w1.heap.size<w2.heap.size):∃ i,(Y i∨zdd w1 w2 i)∧w2.heap.size≤i+1:=⟨w2.heap.size - 1,Or.inr ⟨by omega,by omega⟩,by omega⟩
theorem zsd{Y:Nat→Prop}(h:∃ i,Y i∧w1.heap.size≤i+1)(hs:w1.heap.size≤w2.heap.size):∃ i,(Y i∨zdd w1 w2 i)∧w2.heap.size≤i+1:=by
 by_cases h1:w1.heap.size<w2.heap.size
 ·exact zdn Y h1
 ·obtain⟨i,h2,h3⟩:=h
  exact⟨i,Or.inl h2,by omega⟩
theorem zpp{L2:List zaa}{s:Int}(o:OSd w s qp L2 (fun i=>Xp i∨Z i) w2)(hl:∃ i,Xp i∧w1.heap.size≤i+1):w1.heap.size≤w2.heap.size:=by
 obtain⟨i,h1,h2⟩:=hl;have:=zdz.lt o i (Or.inl h1);omega
theorem CsM.apply(h:CsM w d q L X w1 qn qp N Xn Xp)(hl:∃ i,Xp i∧w1.heap.size≤i+1)(id e nd dl:Int)(hid:I64 id)(he:I64 e)(hnd:I64 nd)(hdl:I64 dl)(hm:∀ y∈L,y.m≤1000)(hn:L.length≤1000):
  Calls Tryz.prog 43 #[.pointer (some ⟨qp,0,none⟩),.int .i64 id,.int .i64 e,.int .i64 nd,.int .i64 dl] w1 fun e' w'=>∃ r,e'=.returned (.tuple #[r.val,T13.fltC (zbi L id e)])∧(zbi L id e=0→nm r=zao (zai L id) e nd dl)∧(zbi L id e≠0→nm r=zad)∧zaf w' r∧Req w' w1.heap.size r∧(∃ Yn,CsM w d q (zcn L id e nd dl) X w' qn qp N Yn (fun i=>Xp i∨ownB r i)∧(∀ i,Xn i→Yn i)∧∀ i,zdd w1 w' i→Yn i)∧zas X w1 w'∧w1.heap.size≤w'.heap.size∧w.heap.size≤w'.heap.size:=by
 refine(abr id e nd dl h.os hid he hnd hdl hm hn).mono ?_;rintro e' w' ⟨r,h1,h2,h3,h4,h5,o,sx⟩;have hs:=zpp o hl;exact⟨r,h1,h2,h3,h4,h5,⟨_,h.pods o sx hs,fun _ h=>Or.inl h,fun _ h=>Or.inr h⟩,fun i hi=>sx i (h.sub i hi).2,hs,(zdz.kp o).size⟩
theorem zqq{x:T12.NodeV}(hs:T12.NSrt N)(hx:x∈N){U:Nat→Int}:(G.rep T12.NodeV.k N ⟨x.k,x.C,U⟩).map nvn=N.map nvn:=by
 unfold G.rep;rw[List.map_map];refine List.map_congr_left fun y hy=>?_
 show nvn (if y.k=x.k then _ else y)=nvn y
 split
 ·rename_i e
  have e2:y=x:=by
   have a:=G.get_at (z:=T12.zn) hs hy;have b:=G.get_at (z:=T12.zn) hs hx;rw[show T12.NodeV.k y=T12.NodeV.k x from e] at a
   exact a.symm.trans b
  rw[e2];rfl
 ·rfl
theorem zrh{x:T12.NodeV}{U:Nat→Int}{f:Int→Nat→Int}(hu:∀ y∈N,y.k≠x.k→∀ j,j<d→y.U j=f y.k j)(h0:∀ j,j<d→U j=f x.k j):∀ y∈G.rep T12.NodeV.k N ⟨x.k,x.C,U⟩,∀ j,j<d→y.U j=f y.k j:=by
 intro y hy j hj;unfold G.rep at hy;obtain⟨z,hz,rfl⟩:=List.mem_map.1 hy
 by_cases e:z.k=x.k
 ·rw[if_pos (show T12.NodeV.k z=T12.NodeV.k ⟨x.k,x.C,U⟩ from e)]
  exact h0 j hj
 ·rw[if_neg (show ¬T12.NodeV.k z=T12.NodeV.k ⟨x.k,x.C,U⟩ from e)]
  exact hu z hz e j hj
theorem zaf.m_of{r:zaa}{y:zaa}(h:nm r=y):r.m=y.m∧r.Z=y.Z∧r.h=y.h∧r.d=y.d∧r.k=y.k:=by rw[← h];exact⟨rfl,rfl,rfl,rfl,rfl⟩
end
end Go.Proofs.YtihjgcibpfajkaaGreatDoor.T14
