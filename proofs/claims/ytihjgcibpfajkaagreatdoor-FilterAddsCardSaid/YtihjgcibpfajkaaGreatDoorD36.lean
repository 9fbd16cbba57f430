/-
  The landed cluster: Bind. Condition: errors.errorType holds its own.
  Which phases hold resources. No condition.
-/
import Derived.Test.YtihjgcibpfajkaaGreatDoorD35
namespace Go.Proofs.YtihjgcibpfajkaaGreatDoor.T14
open Go.RowKit Go.Sort Go.Lib V12 T13
section
variable{w w1 w2:World}{d q:Nat}{M:List NV}{L:List zaa}{X Z:Nat→Prop}{qn qp:Nat}{N:List T12.NodeV}{Xn Xp:Nat→Prop}
set_option maxRecDepth 100000 in
set_option maxHeartbeats 8000000 in
theorem ztx(h:zbf w d q M L X w1 qn qp N Xn Xp)(id nd:Int)(hid:I64 id)(hnd:I64 nd)(hl:L.length≤100):Calls Tryz.prog 19 #[.pointer (some ⟨q,0,none⟩),.int .i64 id,.int .i64 nd] w1 fun e w'=>∃ r,e=.returned (.tuple #[r.val,zbu (plC M L d id nd 1) (plI M L id nd)])∧(plC M L d id nd 1=0→nm r=zao (zai L id) 1 nd (-1))∧(plC M L d id nd 1≠0→nm r=zad)∧zaf w' r∧Req w' w1.heap.size r∧CSd w d q M (plL M L d id nd 1) X w'∧zas X w1 w':=by
 have hw0:=h.kp.size;have hX:=h.lt;obtain⟨W,hW⟩:∃ W,W=w1.alloc (.cells (zab zad) 26):=⟨_,rfl⟩;have KW:Hid (Keep w1 W):=by rw[hW];exact Keep.one _ _
 obtain⟨b,hb⟩:∃ b,b=w1.heap.size:=⟨_,rfl⟩;have Y:Hid (W.heap[b]?=some (.cells (zab zad) 26 (0,0))):=by show _=_;rw[hW,hb];exact heap_alloc_new _ _
 have hbW:b<W.heap.size:=lt_of_block Y.out;have cB:Hid (Calls Tryz.prog 30 #[.pointer (some ⟨q,0,none⟩)] W fun e w'=>e=.returned (.agg #[.pointer (some ⟨qn,0,none⟩),.pointer (some ⟨qp,0,none⟩)])∧Keep W w'):=zdv (h.keep KW.out).c2.1 (h.keep KW.out).c2.2
 have YC:Hid (∀ w',Keep W w'→w'.heap[b]?=some (.cells (zab zad) 26 (0,0))):=fun w' k=>k.block Y.out
 have ZF:Hid (∀ w',Keep W w'→(put9 w' b zad).heap[b]?=some (.cells (zab zad) 26 (0,0))∧CSd w d q M L X (put9 w' b zad)∧zas X w1 (put9 w' b zad)):=fun w' k=>zhi h.cs (KW.out.trans k) (by omega) (k.block Y.out)
 unfold zab zad at hW;have cC:Hid (∀ W',Keep W W'→Calls Tryz.prog 41 #[(.agg #[.pointer (some ⟨qn,0,none⟩),.pointer (some ⟨qp,0,none⟩)]),.int .i64 id,.int .i64 nd,.int .i64 1] W' fun e w'=>∃ r,e=.returned (.tuple #[r.val,zbu (ckC M L id nd 1) (plI M L id nd)])∧(ckC M L id nd 1=0→nm r=zai L id)∧zaf w' r∧Req w' W'.heap.size r∧Keep W' w'):=fun W' k=>(zms (h.keep (KW.out.trans k)) id nd 1 hid).mono fun _ _ ⟨r,he,h1,_,h3,h4,h5⟩=>⟨r,he,h1,h3,h4,h5⟩
 obtain⟨cc,hcc⟩:∃ cc,cc=ckC M L id nd 1:=⟨_,rfl⟩;obtain⟨ci,hci⟩:∃ ci,ci=plI M L id nd:=⟨_,rfl⟩;rw[← hcc,← hci] at cC;have hpc:=zvi (M:=M) (L:=L) (d:=d) id nd 1;rw[← hcc] at hpc;rw[← hci]
 by_cases hz:cc=0
 ·have HZ:Hid (cc=0):=hz
  by_cases hf:zgs M L d id nd=false
  ·obtain⟨hk,hnk,hx⟩:=zlf (hcc.symm.trans hz)
   have hzr:=h.reqs hk;rw[if_pos hz] at hpc;have e1:zbu cc ci=.nilIface:=if_pos hz;rw[e1] at cC;have h100:=h.m1000;have hci0:ci=0:=by rw[hci];exact if_neg fun hh=>hh.2 hnk
   rw[if_pos ⟨rfl,hf⟩] at hpc;have hL2:plL M L d id nd 1=L:=by
    unfold plL;rw[if_neg (by rw[hpc];decide)]
   rw[hL2,hpc,hci0];have e2:zbu 10 0=.iface 124 (.agg #[.int .i64 10,.int .i64 0]):=rfl;rw[e2];have hne:Hid ((10:Int)≠0):=by show ¬_;decide
   have cH:Hid (∀ W' r,Keep W W'→nm r=zai L id→zaf W' r→Calls Tryz.prog 42 #[.pointer (some ⟨qn,0,none⟩),.int .i64 nd,.slice r.A r.m r.c] W' fun e w4=>e=.returned (.iface 124 (.agg #[.int .i64 10,.int .i64 0]))∧(w4.heap[b]?=some (.cells (zab zad) 26 (0,0))∧(put9 w4 b zad).heap[b]?=some (.cells (zab zad) 26 (0,0))∧zaf (put9 w4 b zad) zad∧Req (put9 w4 b zad) w1.heap.size zad∧CSd w d q M L X (put9 w4 b zad)∧zas X w1 (put9 w4 b zad))):=fun W' r k hn hi=>by
    have kk:=KW.out.trans k;have h2:=h.keep kk;obtain⟨em,eZ,_⟩:=zaf.m_of hn;have hv:=hi.rd;rw[em,hzr.1,eZ] at hv;rw[em,hzr.1];have fc:=h2.fits hk hnk;rw[if_pos hf] at fc;refine(zqw h2.on nd r.A d r.c (zai L id).Z hv).mono ?_;rintro e w4 ⟨he,o,sx,hs⟩;have el:T12.chL N d nd d (zai L id).Z false=N:=by
     unfold T12.chL;rw[if_neg (by rw[fc];decide)]
    rw[el] at o;have h4:=((h2.m.nodes o sx hs).at h.nds h.use h.ok).cs;have:=k.size;refine⟨by rw[he,fc];rfl,zen (base:=w4.heap.size) kk ⟨by omega,by omega⟩ hw0 (k.block Y.out) h4 (fun i hi=>sx i (h2.sub i hi).1) hX (zbj _) (zbg _ _) hs⟩
   replace hpc:=Lib.hid hpc;replace hL2:=Lib.hid hL2;replace hcc:=Lib.hid hcc;replace hci:=Lib.hid hci;replace hz:=Lib.hid hz;replace hx:=Lib.hid hx;replace hnk:=Lib.hid hnk;replace hk:=Lib.hid hk;replace hf:=Lib.hid hf;clear e1 e2 h hzr h100 hci0
   go_enter Tryz.func19,Tryz.ntmps19
   go_wp2_with fail;rw[← hW];try rw[← hb]
   replace hW:=Lib.hid hW;replace hb:=Lib.hid hb;replace hbW:=Lib.hid hbW;replace hX:=Lib.hid hX;replace hw0:=Lib.hid hw0;refine cB.out.mono ?_;rintro e w2 ⟨rfl,k2⟩;obtain⟨W2,hW2⟩:∃ W2,W2=w2.alloc (.cells #[.pointer (some ⟨qn,0,none⟩),.pointer (some ⟨qp,0,none⟩)] 79):=⟨_,rfl⟩;obtain⟨b8,hb8⟩:∃ b8,b8=w2.heap.size:=⟨_,rfl⟩;have K2:Hid (Keep W W2):=by rw[hW2];exact k2.alloc _
   have B8:Hid (W2.heap[b8]?=some (.cells #[.pointer (some ⟨qn,0,none⟩),.pointer (some ⟨qp,0,none⟩)] 79 (0,0))):=by show _=_;rw[hW2,hb8];exact heap_alloc_new _ _
   obtain⟨t0,t1,_⟩:=T12.cel2 B8.out;rw[hW2,hb8] at t0 t1;replace k2:=Lib.hid k2;go_wp2_with fail;rw[← hW2];try rw[← hb8]
   replace hW2:=Lib.hid hW2;replace hb8:=Lib.hid hb8;clear t0 t1;refine(cC.out W2 K2.out).mono ?_;rintro e w3 ⟨r,rfl,hn,hi,hr,k3⟩;obtain⟨W3,hW3⟩:∃ W3,W3=w3.alloc (.cells (zab r) 26):=⟨_,rfl⟩;obtain⟨b9,hb9⟩:∃ b9,b9=w3.heap.size:=⟨_,rfl⟩;have K23:Hid (Keep W2 W3):=by rw[hW3];exact k3.alloc _
   have KA:Hid (Keep w3 W3):=by rw[hW3];exact Keep.one _ _
   have K3:Hid (Keep W W3):=K2.out.trans K23.out;have B9:Hid (W3.heap[b9]?=some (.cells (zab r) 26 (0,0))):=by show _=_;rw[hW3,hb9];exact heap_alloc_new _ _
   have HI:=Lib.hid (hi.keep KA.out);have u4:=(zah B9.out).e4;obtain⟨t0,t1,_⟩:=T12.cel2 (K23.out.block B8.out);obtain⟨d0,d1,d2,d3,d4,d5,d6,d7,d8,g0⟩:=zah (YC.out W3 K3.out);unfold zad at d0 d1 d2 d3 d4 d5 d6 d7 d8;unfold zab at hW3;rw[hW3,hb9] at u4;rw[hW3] at t0 t1 d0 d1 d2 d3 d4 d5 d6 d7 d8 g0;replace hn:=Lib.hid hn;replace hi:=Lib.hid hi;replace hr:=Lib.hid hr;replace k3:=Lib.hid k3;unfold zaa.val;go_wp2_with fail;rw[← hW3];refine(cH.out W3 r K3.out (hn.out HZ.out) HI.out).mono ?_;rintro e w4 ⟨rfl,F5⟩;replace F5:=Lib.hid F5;clear d0 d1 d2 d3 d4 d5 d6 d7 d8 g0 t0 t1 u4;obtain⟨d0,d1,d2,d3,d4,d5,d6,d7,d8,g0⟩:=zah F5.out.1;unfold zad at d0 d1 d2 d3 d4 d5 d6 d7 d8;go_wp2;obtain⟨_,fb,fi,fr,fc,fx⟩:=F5.out;obtain⟨e0,e1,e2,e3,e4,e5,e6,e7,e8,_⟩:=zah fb;unfold put9 zad at *;refine bodyPost_ret (v:=.tuple #[.agg #[.int .i64 0,.int .i64 0,.bool false,.int .i64 0,.slice none 0 0,.int .i64 0,.int .i64 0,.int .i64 0,.int .i64 0],.iface 124 (.agg #[.int .i64 10,.int .i64 0])]) (by simp[results,Tryz.results19,go_sem,e0,e1,e2,e3,e4,e5,e6,e7,e8]) rfl ⟨zad,rfl,fun h=>absurd h hne.out,fun _=>rfl,fi,fr,fc,fx⟩
  ·obtain⟨hk,hnk,hx⟩:=zlf (hcc.symm.trans hz)
   have hzr:=h.reqs hk;rw[if_pos hz] at hpc;have e1:zbu cc ci=.nilIface:=if_pos hz;rw[e1] at cC;have h100:=h.m1000;rw[if_neg fun hh=>hf hh.2] at hpc
   have happ:zbi L id 1=0:=ziu hpc;have hL2:plL M L d id nd 1=zcn L id 1 nd (-1):=if_pos hpc;have hok:Ok d M (plL M L d id nd 1):=zvk h.ok (Or.inl rfl);have hci0:ci=0:=by rw[hci];exact if_neg fun hh=>hh.2 hnk
   obtain⟨hds,hus⟩:=h.held hpc;have cH:Hid (∀ W' r,Keep W W'→W.heap.size<W'.heap.size→nm r=zai L id→zaf W' r→Calls Tryz.prog 42 #[.pointer (some ⟨qn,0,none⟩),.int .i64 nd,.slice r.A r.m r.c] W' fun e w4=>e=.returned .nilIface∧zas (fun i=>X i∨zdd w1 W' i) W' w4∧(Calls Tryz.prog 43 #[.pointer (some ⟨qp,0,none⟩),.int .i64 id,.int .i64 1,.int .i64 nd,.int .i64 (-1)] w4 fun e w5=>∃ r5,e=.returned (.tuple #[r5.val,.nilIface])∧nm r5=zao (zai L id) 1 nd (-1)∧(w5.heap[b]?=some (.cells (zab zad) 26 (0,0))∧(put9 w5 b r5).heap[b]?=some (.cells (zab r5) 26 (0,0))∧zaf (put9 w5 b r5) r5∧Req (put9 w5 b r5) w1.heap.size r5∧CSd w d q M (plL M L d id nd 1) X (put9 w5 b r5)∧zas X w1 (put9 w5 b r5)))):=fun W' r k hlt hn hi=>by
    have kk:=KW.out.trans k;have h2:=h.keep kk;obtain⟨em,eZ,_⟩:=zaf.m_of hn;have hv:=hi.rd;rw[em,hzr.1,eZ] at hv;rw[em,hzr.1];have fc:=h2.fits hk hnk;rw[if_neg hf] at fc;have hsz:w1.heap.size<W'.heap.size:=by have:=KW.out.size;omega
    refine(zqw h2.on nd r.A d r.c (zai L id).Z hv).mono ?_;rintro e w4 ⟨he,o,sx,hs⟩;have h4:=h2.m.nodes o sx hs;refine⟨by rw[he,fc];rfl,fun i hi=>sx i (h2.sub i hi).1,?_⟩
    refine(h4.apply (zsd (zdn _ hsz) hs) id 1 nd (-1) hid (by unfold I64;omega) hnd (by unfold I64;omega) h100 (by omega)).mono ?_
    rintro e w5 ⟨r5,he,h3,_,h5,h6,⟨Yn,h7,_⟩,h8,h9,_⟩;rw[← hL2] at h7;have:=k.size;exact⟨r5,by rw[he];unfold T13.fltC;rw[if_pos happ],h3 happ,zen kk ⟨by omega,by omega⟩ hw0 (k.block Y.out) (h7.at hds hus hok).cs (fun i hi=>(h8 i hi).trans (sx i (h2.sub i hi).1)) hX h5 h6 hs⟩
   rw[hpc,hci0];have e2:zbu 0 0=.nilIface:=rfl;rw[e2];have hwb:Hid (∀ W',Keep W W'→w1.heap.size≤W'.heap.size∧w1.heap.size≤W.heap.size):=fun W' k=>⟨Nat.le_trans KW.out.size k.size,KW.out.size⟩
   replace hpc:=Lib.hid hpc;replace hL2:=Lib.hid hL2;replace hcc:=Lib.hid hcc;replace hci:=Lib.hid hci;replace hz:=Lib.hid hz;replace hx:=Lib.hid hx;replace hnk:=Lib.hid hnk;replace hk:=Lib.hid hk;replace hf:=Lib.hid hf;clear e1 e2 h happ hok hzr h100 hci0 hds hus
   go_enter Tryz.func19,Tryz.ntmps19
   go_wp2_with fail;rw[← hW];try rw[← hb]
   replace hW:=Lib.hid hW;replace hb:=Lib.hid hb;replace hbW:=Lib.hid hbW;replace hX:=Lib.hid hX;replace hw0:=Lib.hid hw0;refine cB.out.mono ?_;rintro e w2 ⟨rfl,k2⟩;obtain⟨W2,hW2⟩:∃ W2,W2=w2.alloc (.cells #[.pointer (some ⟨qn,0,none⟩),.pointer (some ⟨qp,0,none⟩)] 79):=⟨_,rfl⟩;obtain⟨b8,hb8⟩:∃ b8,b8=w2.heap.size:=⟨_,rfl⟩;have K2:Hid (Keep W W2):=by rw[hW2];exact k2.alloc _
   have B8:Hid (W2.heap[b8]?=some (.cells #[.pointer (some ⟨qn,0,none⟩),.pointer (some ⟨qp,0,none⟩)] 79 (0,0))):=by show _=_;rw[hW2,hb8];exact heap_alloc_new _ _
   obtain⟨t0,t1,_⟩:=T12.cel2 B8.out;rw[hW2,hb8] at t0 t1;replace k2:=Lib.hid k2;go_wp2_with fail;rw[← hW2];try rw[← hb8]
   replace hW2:=Lib.hid hW2;replace hb8:=Lib.hid hb8;clear t0 t1;refine(cC.out W2 K2.out).mono ?_;rintro e w3 ⟨r,rfl,hn,hi,hr,k3⟩;obtain⟨W3,hW3⟩:∃ W3,W3=w3.alloc (.cells (zab r) 26):=⟨_,rfl⟩;obtain⟨b9,hb9⟩:∃ b9,b9=w3.heap.size:=⟨_,rfl⟩;have K23:Hid (Keep W2 W3):=by rw[hW3];exact k3.alloc _
   have KA:Hid (Keep w3 W3):=by rw[hW3];exact Keep.one _ _
   have K3:Hid (Keep W W3):=K2.out.trans K23.out;have B9:Hid (W3.heap[b9]?=some (.cells (zab r) 26 (0,0))):=by show _=_;rw[hW3,hb9];exact heap_alloc_new _ _
   have HI:=Lib.hid (hi.keep KA.out);have u4:=(zah B9.out).e4;obtain⟨t0,t1,_⟩:=T12.cel2 (K23.out.block B8.out);obtain⟨d0,d1,d2,d3,d4,d5,d6,d7,d8,g0⟩:=zah (YC.out W3 K3.out);unfold zad at d0 d1 d2 d3 d4 d5 d6 d7 d8;unfold zab at hW3;rw[hW3,hb9] at u4;rw[hW3] at t0 t1 d0 d1 d2 d3 d4 d5 d6 d7 d8 g0;replace hn:=Lib.hid hn;replace hi:=Lib.hid hi;replace hr:=Lib.hid hr;replace k3:=Lib.hid k3;unfold zaa.val;go_wp2_with fail;rw[← hW3];have hlt:W.heap.size<W3.heap.size:=by
    have:=lt_of_block B8.out;have:=k2.out.size;have:=hb8.out;have:=K23.out.size;omega
   refine(cH.out W3 r K3.out hlt (hn.out HZ.out) HI.out).mono ?_;rintro e w4 ⟨rfl,sx4,cA⟩;have q8:=sx4 b8 (Or.inr ⟨by have:=hwb.out W2 K2.out;have:=hb8.out;have:=k2.out.size;omega,Nat.lt_of_lt_of_le (lt_of_block B8.out) K23.out.size⟩)
   have qb:=sx4 b (Or.inr ⟨by have:=hb.out;omega,Nat.lt_of_lt_of_le hbW.out K3.out.size⟩)
   clear d0 d1 d2 d3 d4 d5 d6 d7 d8 g0 t0 t1 u4;obtain⟨t0,t1,_⟩:=T12.cel2 (q8.trans (K23.out.block B8.out));replace sx4:=Lib.hid sx4;replace q8:=Lib.hid q8;replace qb:=Lib.hid qb;replace cA:=Lib.hid cA;go_wp2_with fail;refine cA.out.mono ?_;rintro e w5 ⟨r5,rfl,hn5,F5⟩;replace hn5:=Lib.hid hn5;replace F5:=Lib.hid F5;clear t0 t1;obtain⟨d0,d1,d2,d3,d4,d5,d6,d7,d8,g0⟩:=zah F5.out.1;unfold zad at d0 d1 d2 d3 d4 d5 d6 d7 d8;unfold zaa.val;go_wp2;obtain⟨_,fb,fi,fr,fc,fx⟩:=F5.out;obtain⟨e0,e1,e2,e3,e4,e5,e6,e7,e8,_⟩:=zah fb;unfold put9 at *;refine bodyPost_ret (v:=.tuple #[.agg #[.int .i64 r5.k,.int .i64 r5.p,.bool r5.f,.int .i64 r5.g,.slice r5.A r5.m r5.c,.int .i64 r5.a,.int .i64 r5.h,.int .i64 r5.d,.int .i64 r5.t],.nilIface]) (by simp[results,Tryz.results19,go_sem,e0,e1,e2,e3,e4,e5,e6,e7,e8]) rfl ⟨r5,rfl,fun _=>hn5.out,fun h=>absurd rfl h,fi,fr,fc,fx⟩
 ·have hne:Hid (cc≠0):=hz
  rw[if_neg hz] at hpc;rw[hpc];have hL2:plL M L d id nd 1=L:=by
   unfold plL;rw[if_neg (by rw[hpc];exact hz)]
  rw[hL2];have e1:zbu cc ci=.iface 124 (.agg #[.int .i64 cc,.int .i64 ci]):=if_neg hz;rw[e1] at cC ⊢;replace hpc:=Lib.hid hpc;replace hL2:=Lib.hid hL2;replace hcc:=Lib.hid hcc;replace hci:=Lib.hid hci;replace hz:=Lib.hid hz;clear e1 h
  go_enter Tryz.func19,Tryz.ntmps19
  go_wp2_with fail;rw[← hW];try rw[← hb]
  replace hW:=Lib.hid hW;replace hb:=Lib.hid hb;replace hbW:=Lib.hid hbW;replace hX:=Lib.hid hX;replace hw0:=Lib.hid hw0;refine cB.out.mono ?_;rintro e w2 ⟨rfl,k2⟩;obtain⟨W2,hW2⟩:∃ W2,W2=w2.alloc (.cells #[.pointer (some ⟨qn,0,none⟩),.pointer (some ⟨qp,0,none⟩)] 79):=⟨_,rfl⟩;obtain⟨b8,hb8⟩:∃ b8,b8=w2.heap.size:=⟨_,rfl⟩;have K2:Hid (Keep W W2):=by rw[hW2];exact k2.alloc _
  have B8:Hid (W2.heap[b8]?=some (.cells #[.pointer (some ⟨qn,0,none⟩),.pointer (some ⟨qp,0,none⟩)] 79 (0,0))):=by show _=_;rw[hW2,hb8];exact heap_alloc_new _ _
  obtain⟨t0,t1,_⟩:=T12.cel2 B8.out;rw[hW2,hb8] at t0 t1;replace k2:=Lib.hid k2;go_wp2_with fail;rw[← hW2];try rw[← hb8]
  replace hW2:=Lib.hid hW2;replace hb8:=Lib.hid hb8;clear t0 t1;refine(cC.out W2 K2.out).mono ?_;rintro e w3 ⟨r,rfl,hn,hi,hr,k3⟩;obtain⟨W3,hW3⟩:∃ W3,W3=w3.alloc (.cells (zab r) 26):=⟨_,rfl⟩;obtain⟨b9,hb9⟩:∃ b9,b9=w3.heap.size:=⟨_,rfl⟩;have K23:Hid (Keep W2 W3):=by rw[hW3];exact k3.alloc _
  have KA:Hid (Keep w3 W3):=by rw[hW3];exact Keep.one _ _
  have K3:Hid (Keep W W3):=K2.out.trans K23.out;have B9:Hid (W3.heap[b9]?=some (.cells (zab r) 26 (0,0))):=by show _=_;rw[hW3,hb9];exact heap_alloc_new _ _
  have HI:=Lib.hid (hi.keep KA.out);have u4:=(zah B9.out).e4;obtain⟨t0,t1,_⟩:=T12.cel2 (K23.out.block B8.out);obtain⟨d0,d1,d2,d3,d4,d5,d6,d7,d8,g0⟩:=zah (YC.out W3 K3.out);unfold zad at d0 d1 d2 d3 d4 d5 d6 d7 d8;unfold zab at hW3;rw[hW3,hb9] at u4;rw[hW3] at t0 t1 d0 d1 d2 d3 d4 d5 d6 d7 d8 g0;replace hn:=Lib.hid hn;replace hi:=Lib.hid hi;replace hr:=Lib.hid hr;replace k3:=Lib.hid k3;unfold zaa.val;go_wp2;rw[← hW3];obtain⟨z,cs,sx⟩:=ZF.out W3 K3.out;obtain⟨e0,e1,e2,e3,e4,e5,e6,e7,e8,_⟩:=zah z;unfold put9 zad at *;refine bodyPost_ret (v:=.tuple #[.agg #[.int .i64 0,.int .i64 0,.bool false,.int .i64 0,.slice none 0 0,.int .i64 0,.int .i64 0,.int .i64 0,.int .i64 0],.iface 124 (.agg #[.int .i64 (cc),.int .i64 (ci)])]) (by simp[results,Tryz.results19,go_sem,e0,e1,e2,e3,e4,e5,e6,e7,e8]) rfl ⟨zad,rfl,fun h=>absurd h (hne.out),fun _=>rfl,zbj _,zbg _ _,cs,sx⟩
end
end Go.Proofs.YtihjgcibpfajkaaGreatDoor.T14
namespace Go.Proofs.YtihjgcibpfajkaaGreatDoor.T14
open Go.RowKit Go.Sort Go.Lib V12 T13
def hdP(p:Int):Bool:=decide (p=3∨p=4)
theorem zpx(p:Int)(w:World):Calls Tryz.prog 106 #[.int .i64 p] w fun e w'=>(∃ a b,e=.returned (.tuple #[.bool a,.bool (hdP p),.bool b]))∧w=w':=by
 by_cases h2:p=2
 ·subst h2
  go_enter Tryz.func106,Tryz.ntmps106
  go_wp2;go_ret3
  exact⟨⟨_,_,rfl⟩,rfl⟩
 by_cases h1:p=1
 ·subst h1
  go_enter Tryz.func106,Tryz.ntmps106
  go_wp2;go_ret3
  exact⟨⟨_,_,rfl⟩,rfl⟩
 by_cases h3:p=3
 ·subst h3
  go_enter Tryz.func106,Tryz.ntmps106
  go_wp2;go_ret3
  exact⟨⟨_,_,rfl⟩,rfl⟩
 by_cases h4:p=4
 ·subst h4
  go_enter Tryz.func106,Tryz.ntmps106
  go_wp2;go_ret3
  exact⟨⟨_,_,rfl⟩,rfl⟩
 have e3:hdP p=false:=decide_eq_false (by omega)
 rw[e3]
 go_enter Tryz.func106,Tryz.ntmps106
 go_wp2;go_ret3
 exact⟨⟨_,_,rfl⟩,rfl⟩
theorem zhn(p:Int)(w:World):Calls Tryz.prog 84 #[.int .i64 p] w fun e w'=>e=.returned (.bool (hdP p))∧w=w':=by
 have hT:=zpx p w;generalize hdP p=z at *
 go_enter Tryz.func84,Tryz.ntmps84
 go_wp2_with fail;refine hT.mono ?_;rintro e w1 ⟨⟨a,b,rfl⟩,rfl⟩;go_wp2;go_ret
 exact⟨rfl,rfl⟩
end Go.Proofs.YtihjgcibpfajkaaGreatDoor.T14
