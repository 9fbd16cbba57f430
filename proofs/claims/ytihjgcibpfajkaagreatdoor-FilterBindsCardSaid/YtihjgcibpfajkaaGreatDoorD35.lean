/-
  The landed cluster: the usages behind Bind, Claim, Change; a pod as the result. No walk.
  The landed cluster: Claim. Condition: errors.errorType holds its own.
-/
import Derived.Test.YtihjgcibpfajkaaGreatDoorD34
namespace Go.Proofs.YtihjgcibpfajkaaGreatDoor.T14
open Go.RowKit Go.Sort Go.Lib V12 T13
section
variable{w w1 wc w5:World}{d q:Nat}{M:List NV}{L:List zaa}{X Z:Nat→Prop}{qn qp:Nat}{N:List T12.NodeV}{Xn Xp:Nat→Prop}
theorem zvi(id nd e:Int):plC M L d id nd e=if ckC M L id nd e=0 then(if e=1∧zgs M L d id nd=false then 10 else 0) else ckC M L id nd e:=by
 unfold plC ckC
 by_cases h1:id∉keys L
 ·rw[if_pos h1,if_pos h1,if_neg (by decide)]
 ·rw[if_neg h1,if_neg h1]
  by_cases h2:nd∉nk M
  ·rw[if_pos h2,if_pos h2,if_neg (by decide)]
  ·rw[if_neg h2,if_neg h2]
   by_cases h3:nx (zai L id).h e=0
   ·rw[if_pos h3,if_pos h3,if_neg (by decide)]
   ·rw[if_neg h3,if_neg h3,if_pos rfl]
theorem zlf{id nd e:Int}(h:ckC M L id nd e=0):id∈keys L∧nd∈nk M∧nx (zai L id).h e≠0:=by
 unfold ckC at h
 by_cases h1:id∉keys L
 ·rw[if_pos h1] at h
  exact absurd h (by decide)
 ·rw[if_neg h1] at h
  by_cases h2:nd∉nk M
  ·rw[if_pos h2] at h
   exact absurd h (by decide)
  ·rw[if_neg h2] at h
   by_cases h3:nx (zai L id).h e=0
   ·rw[if_pos h3] at h
    exact absurd h (by decide)
   ·exact⟨Classical.not_not.1 h1,Classical.not_not.1 h2,h3⟩
theorem zbf.reqs(h:zbf w d q M L X w1 qn qp N Xn Xp){id:Int}(hk:id∈T13.keys L):(zai L id).m=d∧∀ j,j<d→Amt ((zai L id).Z j):=h.ok.req _ (get_some hk).1
theorem zbf.fits(h:zbf w d q M L X w1 qn qp N Xn Xp){id nd:Int}(hk:id∈T13.keys L)(hn:nd∈nk M):T12.chC N d nd d (zai L id).Z false=if zgs M L d id nd=false then 10 else 0:=by
 obtain⟨g1,g2,g3⟩:=h.nget hn;have hr:=h.reqs hk;unfold T12.chC;rw[if_neg (not_not_intro (by rw[h.keys];exact hn)),if_neg (zqa hr.2)]
 have e:T12.chOk d (G.get T12.NodeV.k T12.zn N nd) false (zai L id).Z=zgs M L d id nd:=by
  have e0:G.get T12.NodeV.k T12.zn N nd=T12.nget N nd:=rfl;rw[e0];unfold T12.chOk zgs;rw[Bool.eq_iff_iff,List.all_eq_true,List.all_eq_true];have ee:∀ j,j<d→T12.chU false (T12.nget N nd).U (zai L id).Z j=zaj L nd j+(zai L id).Z j∧0≤zaj L nd j+(zai L id).Z j∧(T14.nget M nd).C j=(T12.nget N nd).C j:=fun j hj=>by
   have u:=h.use _ g1 j hj;rw[g2] at u;have a:=hr.2 j hj;have l:=zfb (id:=nd) (h.ok.amtL hj);unfold Amt at a;refine⟨?_,by omega,by rw[g3];rfl⟩
   unfold T12.chU;rw[if_neg (by decide),u]
  constructor
  ·intro hh j hj
   have hj2:=List.mem_range.1 hj;have h1:=hh j hj;obtain⟨e1,e2,e3⟩:=ee j hj2;rw[e1,← e3] at h1;simp only[Bool.and_eq_true,decide_eq_true_eq] at h1;exact decide_eq_true h1.2
  ·intro hh j hj
   have hj2:=List.mem_range.1 hj;have h1:=of_decide_eq_true (hh j hj);obtain⟨e1,e2,e3⟩:=ee j hj2;rw[e1,← e3];simp only[Bool.and_eq_true,decide_eq_true_eq];exact⟨e2,h1⟩
 rw[e]
 by_cases hf:zgs M L d id nd=false
 ·rw[if_pos hf,hf]
  rfl
 ·rw[if_neg hf,if_pos (by simpa using hf)]
theorem zbf.held(h:zbf w d q M L X w1 qn qp N Xn Xp){id nd:Int}(h0:plC M L d id nd 1=0):(T12.chL N d nd d (zai L id).Z false).map nvn=M∧∀ x∈T12.chL N d nd d (zai L id).Z false,∀ j,j<d→x.U j=zaj (plL M L d id nd 1) x.k j:=by
 obtain⟨hk,hn,_,hf⟩:=zgw h0;obtain⟨g1,g2,g3⟩:=h.nget hn;have hc:=h.fits hk hn;rw[if_neg (by rw[hf rfl];decide)] at hc
 unfold T12.chL;rw[if_pos hc];have e0:G.get T12.NodeV.k T12.zn N nd=T12.nget N nd:=rfl;rw[e0];obtain⟨x,hx⟩:∃ x,x=T12.nget N nd:=⟨_,rfl⟩;rw[← hx] at g1 g2 ⊢;subst g2;refine⟨(zqq h.on.srt g1).trans h.nds,zrh (fun y hy hne j hj=>?_) fun j hj=>?_⟩
 ·rw[zgx h.ok.lok (Or.inl rfl) h0,if_neg (fun hh=>hne hh.2.symm),h.use y hy j hj]
  omega
 ·rw[zgx h.ok.lok (Or.inl rfl) h0,if_pos ⟨rfl,rfl⟩,← h.use x g1 j hj]
  rfl
theorem zbf.freed(h:zbf w d q M L X w1 qn qp N Xn Xp){id dl:Int}(h0:cgC L id 5=0)(hh:(zai L id).h=3∨(zai L id).h=4):T12.chC N d (zai L id).d d (zai L id).Z true=0∧(T12.chL N d (zai L id).d d (zai L id).Z true).map nvn=M∧∀ x∈T12.chL N d (zai L id).d d (zai L id).Z true,∀ j,j<d→x.U j=zaj (cgL L id 5 dl) x.k j:=by
 obtain⟨h1,h2,hk⟩:=zje h0;obtain⟨nd,hnd⟩:∃ nd,nd=(zai L id).d:=⟨_,rfl⟩;have hn:nd∈nk M:=by rw[hnd];exact h.ok.plc _ (get_some hk).1 (by omega) (by omega)
 rw[← hnd];obtain⟨g1,g2,g3⟩:=h.nget hn;have hr:=h.reqs hk;have hz:∀ i j,zaz i j (zai L id)=if nd=i then(zai L id).Z j else 0:=fun i j=>by rw[zgv hh,← hnd]
 have hu:∀ i j,zaj (cgL L id 5 dl) i j=zaj L i j - if nd=i then(zai L id).Z j else 0:=fun i j=>by rw[zgo h.ok.lok h0,if_pos rfl,hz]
 have hok:=zok (h.ok) (id:=id) (e:=5) (dl:=dl);have hc:T12.chC N d nd d (zai L id).Z true=0:=by
  unfold T12.chC;rw[if_neg (not_not_intro (by rw[h.keys];exact hn)),if_neg (zqa hr.2),if_pos]
  have e0:G.get T12.NodeV.k T12.zn N nd=T12.nget N nd:=rfl;rw[e0];unfold T12.chOk;rw[List.all_eq_true];intro j hj;have hj2:=List.mem_range.1 hj;have u:=h.use _ g1 j hj2;rw[g2] at u;have a:=hr.2 j hj2;unfold Amt at a;have l:=zfb (id:=nd) (hok.amtL hj2);rw[hu,if_pos rfl] at l;have f:=h.ok.fit _ (zrz hn).1 j hj2;rw[(zrz hn).2,g3] at f;have f2:zaj L nd j≤(T12.nget N nd).C j:=f;unfold T12.chU;rw[if_pos rfl,u];simp only[Bool.and_eq_true,decide_eq_true_eq];omega
 refine⟨hc,?_⟩;unfold T12.chL;rw[if_pos hc];have e0:G.get T12.NodeV.k T12.zn N nd=T12.nget N nd:=rfl;rw[e0];obtain⟨x,hx⟩:∃ x,x=T12.nget N nd:=⟨_,rfl⟩;rw[← hx] at g1 g2 ⊢;replace hnd:=Lib.hid hnd;subst g2;refine⟨(zqq h.on.srt g1).trans h.nds,zrh (fun y hy hne j hj=>?_) fun j hj=>?_⟩
 ·rw[hu,if_neg (fun hh=>hne hh.symm),h.use y hy j hj]
  omega
 ·rw[hu,if_pos rfl,← h.use x g1 j hj]
  rfl
theorem zen{L2:List zaa}{b base:Nat}{r:zaa}(KW:Keep w1 wc)(hb:zdd w1 wc b)(hw:w.heap.size≤w1.heap.size)(Yb:wc.heap[b]?=some (.cells (zab zad) 26 (0,0)))(cs:CSd w d q M L2 (fun i=>X i∨zdd w1 wc i) w5)(sx:zas (fun i=>X i∨zdd w1 wc i) wc w5)(hX:∀ i,X i→i<w1.heap.size)(hi:zaf w5 r)(hr:Req w5 base r)(h1:wc.heap.size≤base):
  w5.heap[b]?=some (.cells (zab zad) 26 (0,0))∧(put9 w5 b r).heap[b]?=some (.cells (zab r) 26 (0,0))∧zaf (put9 w5 b r) r∧Req (put9 w5 b r) w1.heap.size r∧CSd w d q M L2 X (put9 w5 b r)∧zas X w1 (put9 w5 b r):=by
 have Y5:=(sx b (Or.inr hb)).trans Yb;have hr2:=zmd hr (b:=b) (Nat.lt_of_lt_of_le hb.2 h1) r;refine⟨Y5,zbs _ zad Y5,hr2.is hi.ok,own_base' hr2 (Nat.le_trans KW.size h1),(cs.put (Or.inr hb) (Nat.le_trans hw hb.1) r).less fun _ h=>Or.inl h,fun i h=>?_⟩
 have h2:=hX i h;have h3:=hb.1;rw[zce r (by omega),sx i (Or.inl h),Below.block KW i h2]
theorem zhi{b:Nat}(cs:CSd w d q M L X w1)(KW:Keep w1 w5)(hb:w1.heap.size≤b)(Yb:w5.heap[b]?=some (.cells (zab zad) 26 (0,0))):(put9 w5 b zad).heap[b]?=some (.cells (zab zad) 26 (0,0))∧CSd w d q M L X (put9 w5 b zad)∧zas X w1 (put9 w5 b zad):=
 have k:=zcc zad KW hb
 ⟨zbs _ zad Yb,cs.keep k,fun i hi=>Below.block k i (cs.lt i hi)⟩
end
end Go.Proofs.YtihjgcibpfajkaaGreatDoor.T14
namespace Go.Proofs.YtihjgcibpfajkaaGreatDoor.T14
open Go.RowKit Go.Sort Go.Lib V12 T13
section
variable{w w1 w2:World}{d q:Nat}{M:List NV}{L:List zaa}{X Z:Nat→Prop}{qn qp:Nat}{N:List T12.NodeV}{Xn Xp:Nat→Prop}
set_option maxRecDepth 100000 in
set_option maxHeartbeats 8000000 in
theorem zrq(h:zbf w d q M L X w1 qn qp N Xn Xp)(id nd:Int)(hid:I64 id)(hnd:I64 nd)(hl:L.length≤100):Calls Tryz.prog 50 #[.pointer (some ⟨q,0,none⟩),.int .i64 id,.int .i64 nd] w1 fun e w'=>∃ r,e=.returned (.tuple #[r.val,zbu (plC M L d id nd 2) (plI M L id nd)])∧(plC M L d id nd 2=0→nm r=zao (zai L id) 2 nd (-1))∧(plC M L d id nd 2≠0→nm r=zad)∧zaf w' r∧Req w' w1.heap.size r∧CSd w d q M (plL M L d id nd 2) X w'∧zas X w1 w':=by
 have hw0:=h.kp.size;have hX:=h.lt;obtain⟨W,hW⟩:∃ W,W=w1.alloc (.cells (zab zad) 26):=⟨_,rfl⟩;have KW:Hid (Keep w1 W):=by rw[hW];exact Keep.one _ _
 obtain⟨b,hb⟩:∃ b,b=w1.heap.size:=⟨_,rfl⟩;have Y:Hid (W.heap[b]?=some (.cells (zab zad) 26 (0,0))):=by show _=_;rw[hW,hb];exact heap_alloc_new _ _
 have hbW:b<W.heap.size:=lt_of_block Y.out;have cB:Hid (Calls Tryz.prog 30 #[.pointer (some ⟨q,0,none⟩)] W fun e w'=>e=.returned (.agg #[.pointer (some ⟨qn,0,none⟩),.pointer (some ⟨qp,0,none⟩)])∧Keep W w'):=zdv (h.keep KW.out).c2.1 (h.keep KW.out).c2.2
 have YC:Hid (∀ w',Keep W w'→w'.heap[b]?=some (.cells (zab zad) 26 (0,0))):=fun w' k=>k.block Y.out
 have ZF:Hid (∀ w',Keep W w'→(put9 w' b zad).heap[b]?=some (.cells (zab zad) 26 (0,0))∧CSd w d q M L X (put9 w' b zad)∧zas X w1 (put9 w' b zad)):=fun w' k=>zhi h.cs (KW.out.trans k) (by omega) (k.block Y.out)
 unfold zab zad at hW;have cC:Hid (∀ W',Keep W W'→Calls Tryz.prog 41 #[(.agg #[.pointer (some ⟨qn,0,none⟩),.pointer (some ⟨qp,0,none⟩)]),.int .i64 id,.int .i64 nd,.int .i64 2] W' fun e w'=>∃ r,e=.returned (.tuple #[r.val,zbu (ckC M L id nd 2) (plI M L id nd)])∧(ckC M L id nd 2=0→nm r=zai L id)∧zaf w' r∧Req w' W'.heap.size r∧Keep W' w'):=fun W' k=>(zms (h.keep (KW.out.trans k)) id nd 2 hid).mono fun _ _ ⟨r,he,h1,_,h3,h4,h5⟩=>⟨r,he,h1,h3,h4,h5⟩
 obtain⟨cc,hcc⟩:∃ cc,cc=ckC M L id nd 2:=⟨_,rfl⟩;obtain⟨ci,hci⟩:∃ ci,ci=plI M L id nd:=⟨_,rfl⟩;rw[← hcc,← hci] at cC;have hpc:=zvi (M:=M) (L:=L) (d:=d) id nd 2;rw[← hcc] at hpc;rw[← hci]
 by_cases hz:cc=0
 ·obtain⟨hk,hnk,hx⟩:=zlf (hcc.symm.trans hz)
  have hzr:=h.reqs hk;rw[if_pos hz] at hpc;have e1:zbu cc ci=.nilIface:=if_pos hz;rw[e1] at cC;have h100:=h.m1000;rw[if_neg fun hh=>absurd hh.1 (by decide)] at hpc
  have happ:zbi L id 2=0:=ziu hpc;have hL2:plL M L d id nd 2=zcn L id 2 nd (-1):=if_pos hpc;have hok:Ok d M (plL M L d id nd 2):=zvk h.ok (Or.inr rfl);have hci0:ci=0:=by rw[hci];exact if_neg fun hh=>hh.2 hnk
  have huse:∀ x∈N,∀ j,j<d→x.U j=zaj (plL M L d id nd 2) x.k j:=fun x hx j hj=>by
   rw[zgx h.ok.lok (Or.inr rfl) hpc,if_neg (fun hh=>absurd hh.1 (by decide)),h.use x hx j hj]
   omega
  have cA:Hid (∀ W',Keep W W'→W.heap.size<W'.heap.size→Calls Tryz.prog 43 #[.pointer (some ⟨qp,0,none⟩),.int .i64 id,.int .i64 2,.int .i64 nd,.int .i64 (-1)] W' fun e w5=>∃ r5,e=.returned (.tuple #[r5.val,.nilIface])∧nm r5=zao (zai L id) 2 nd (-1)∧(w5.heap[b]?=some (.cells (zab zad) 26 (0,0))∧(put9 w5 b r5).heap[b]?=some (.cells (zab r5) 26 (0,0))∧zaf (put9 w5 b r5) r5∧Req (put9 w5 b r5) w1.heap.size r5∧CSd w d q M (plL M L d id nd 2) X (put9 w5 b r5)∧zas X w1 (put9 w5 b r5))):=fun W' k hs=>by
   have kk:=KW.out.trans k;have h2:=h.keep kk;have hsz:w1.heap.size<W'.heap.size:=by have:=KW.out.size;omega
   refine(h2.m.apply (zdn _ hsz) id 2 nd (-1) hid (by unfold I64;omega) hnd (by unfold I64;omega) h100 (by omega)).mono ?_
   rintro e w5 ⟨r5,he,h3,_,h5,h6,⟨Yn,h7,_⟩,h8,h9,_⟩;rw[← hL2] at h7;refine⟨r5,by rw[he];unfold T13.fltC;rw[if_pos happ],h3 happ,zen kk ⟨by omega,by omega⟩ hw0 (k.block Y.out) (h7.at h.nds huse hok).cs h8 hX h5 h6 (Nat.le_refl _)⟩
  rw[hpc,hci0];have e2:zbu 0 0=.nilIface:=rfl;rw[e2];replace hpc:=Lib.hid hpc;replace hL2:=Lib.hid hL2;replace hcc:=Lib.hid hcc;replace hci:=Lib.hid hci;replace hz:=Lib.hid hz;replace hx:=Lib.hid hx;replace hnk:=Lib.hid hnk;replace hk:=Lib.hid hk;clear e1 e2 h happ huse hok hzr h100 hci0
  go_enter Tryz.func50,Tryz.ntmps50
  go_wp2_with fail;rw[← hW];try rw[← hb]
  replace hW:=Lib.hid hW;replace hb:=Lib.hid hb;replace hbW:=Lib.hid hbW;replace hX:=Lib.hid hX;replace hw0:=Lib.hid hw0;refine cB.out.mono ?_;rintro e w2 ⟨rfl,k2⟩;obtain⟨W2,hW2⟩:∃ W2,W2=w2.alloc (.cells #[.pointer (some ⟨qn,0,none⟩),.pointer (some ⟨qp,0,none⟩)] 79):=⟨_,rfl⟩;obtain⟨b8,hb8⟩:∃ b8,b8=w2.heap.size:=⟨_,rfl⟩;have K2:Hid (Keep W W2):=by rw[hW2];exact k2.alloc _
  have B8:Hid (W2.heap[b8]?=some (.cells #[.pointer (some ⟨qn,0,none⟩),.pointer (some ⟨qp,0,none⟩)] 79 (0,0))):=by show _=_;rw[hW2,hb8];exact heap_alloc_new _ _
  obtain⟨t0,t1,_⟩:=T12.cel2 B8.out;rw[hW2,hb8] at t0 t1;replace k2:=Lib.hid k2;go_wp2_with fail;rw[← hW2];try rw[← hb8]
  replace hW2:=Lib.hid hW2;replace hb8:=Lib.hid hb8;clear t0 t1;refine(cC.out W2 K2.out).mono ?_;rintro e w3 ⟨r,rfl,hn,hi,hr,k3⟩;obtain⟨W3,hW3⟩:∃ W3,W3=w3.alloc (.cells (zab r) 26):=⟨_,rfl⟩;obtain⟨b9,hb9⟩:∃ b9,b9=w3.heap.size:=⟨_,rfl⟩;have K23:Hid (Keep W2 W3):=by rw[hW3];exact k3.alloc _
  have KA:Hid (Keep w3 W3):=by rw[hW3];exact Keep.one _ _
  have K3:Hid (Keep W W3):=K2.out.trans K23.out;have B9:Hid (W3.heap[b9]?=some (.cells (zab r) 26 (0,0))):=by show _=_;rw[hW3,hb9];exact heap_alloc_new _ _
  have HI:=Lib.hid (hi.keep KA.out);have u4:=(zah B9.out).e4;obtain⟨t0,t1,_⟩:=T12.cel2 (K23.out.block B8.out);obtain⟨d0,d1,d2,d3,d4,d5,d6,d7,d8,g0⟩:=zah (YC.out W3 K3.out);unfold zad at d0 d1 d2 d3 d4 d5 d6 d7 d8;unfold zab at hW3;rw[hW3,hb9] at u4;rw[hW3] at t0 t1 d0 d1 d2 d3 d4 d5 d6 d7 d8 g0;replace hn:=Lib.hid hn;replace hi:=Lib.hid hi;replace hr:=Lib.hid hr;replace k3:=Lib.hid k3;unfold zaa.val;go_wp2_with fail;rw[← hW3];refine(cA.out W3 K3.out (Nat.lt_of_lt_of_le (lt_of_block B9.out |> fun _=>by have:=lt_of_block B8.out;have:=k2.out.size;have:=hb8.out;omega) K23.out.size)).mono ?_
  rintro e w5 ⟨r5,rfl,hn5,F5⟩;replace hn5:=Lib.hid hn5;replace F5:=Lib.hid F5;clear d0 d1 d2 d3 d4 d5 d6 d7 d8 g0 t0 t1 u4;obtain⟨d0,d1,d2,d3,d4,d5,d6,d7,d8,g0⟩:=zah F5.out.1;unfold zad at d0 d1 d2 d3 d4 d5 d6 d7 d8;unfold zaa.val;go_wp2;obtain⟨_,fb,fi,fr,fc,fx⟩:=F5.out;obtain⟨e0,e1,e2,e3,e4,e5,e6,e7,e8,_⟩:=zah fb;unfold put9 at *;refine bodyPost_ret (v:=.tuple #[.agg #[.int .i64 r5.k,.int .i64 r5.p,.bool r5.f,.int .i64 r5.g,.slice r5.A r5.m r5.c,.int .i64 r5.a,.int .i64 r5.h,.int .i64 r5.d,.int .i64 r5.t],.nilIface]) (by simp[results,Tryz.results50,go_sem,e0,e1,e2,e3,e4,e5,e6,e7,e8]) rfl ⟨r5,rfl,fun _=>hn5.out,fun h=>absurd rfl h,fi,fr,fc,fx⟩
 ·have hne:Hid (cc≠0):=hz
  rw[if_neg hz] at hpc;rw[hpc];have hL2:plL M L d id nd 2=L:=by
   unfold plL;rw[if_neg (by rw[hpc];exact hz)]
  rw[hL2];have e1:zbu cc ci=.iface 124 (.agg #[.int .i64 cc,.int .i64 ci]):=if_neg hz;rw[e1] at cC ⊢;replace hpc:=Lib.hid hpc;replace hL2:=Lib.hid hL2;replace hcc:=Lib.hid hcc;replace hci:=Lib.hid hci;replace hz:=Lib.hid hz;clear e1 h
  go_enter Tryz.func50,Tryz.ntmps50
  go_wp2_with fail;rw[← hW];try rw[← hb]
  replace hW:=Lib.hid hW;replace hb:=Lib.hid hb;replace hbW:=Lib.hid hbW;replace hX:=Lib.hid hX;replace hw0:=Lib.hid hw0;refine cB.out.mono ?_;rintro e w2 ⟨rfl,k2⟩;obtain⟨W2,hW2⟩:∃ W2,W2=w2.alloc (.cells #[.pointer (some ⟨qn,0,none⟩),.pointer (some ⟨qp,0,none⟩)] 79):=⟨_,rfl⟩;obtain⟨b8,hb8⟩:∃ b8,b8=w2.heap.size:=⟨_,rfl⟩;have K2:Hid (Keep W W2):=by rw[hW2];exact k2.alloc _
  have B8:Hid (W2.heap[b8]?=some (.cells #[.pointer (some ⟨qn,0,none⟩),.pointer (some ⟨qp,0,none⟩)] 79 (0,0))):=by show _=_;rw[hW2,hb8];exact heap_alloc_new _ _
  obtain⟨t0,t1,_⟩:=T12.cel2 B8.out;rw[hW2,hb8] at t0 t1;replace k2:=Lib.hid k2;go_wp2_with fail;rw[← hW2];try rw[← hb8]
  replace hW2:=Lib.hid hW2;replace hb8:=Lib.hid hb8;clear t0 t1;refine(cC.out W2 K2.out).mono ?_;rintro e w3 ⟨r,rfl,hn,hi,hr,k3⟩;obtain⟨W3,hW3⟩:∃ W3,W3=w3.alloc (.cells (zab r) 26):=⟨_,rfl⟩;obtain⟨b9,hb9⟩:∃ b9,b9=w3.heap.size:=⟨_,rfl⟩;have K23:Hid (Keep W2 W3):=by rw[hW3];exact k3.alloc _
  have KA:Hid (Keep w3 W3):=by rw[hW3];exact Keep.one _ _
  have K3:Hid (Keep W W3):=K2.out.trans K23.out;have B9:Hid (W3.heap[b9]?=some (.cells (zab r) 26 (0,0))):=by show _=_;rw[hW3,hb9];exact heap_alloc_new _ _
  have HI:=Lib.hid (hi.keep KA.out);have u4:=(zah B9.out).e4;obtain⟨t0,t1,_⟩:=T12.cel2 (K23.out.block B8.out);obtain⟨d0,d1,d2,d3,d4,d5,d6,d7,d8,g0⟩:=zah (YC.out W3 K3.out);unfold zad at d0 d1 d2 d3 d4 d5 d6 d7 d8;unfold zab at hW3;rw[hW3,hb9] at u4;rw[hW3] at t0 t1 d0 d1 d2 d3 d4 d5 d6 d7 d8 g0;replace hn:=Lib.hid hn;replace hi:=Lib.hid hi;replace hr:=Lib.hid hr;replace k3:=Lib.hid k3;unfold zaa.val;go_wp2;rw[← hW3];obtain⟨z,cs,sx⟩:=ZF.out W3 K3.out;obtain⟨e0,e1,e2,e3,e4,e5,e6,e7,e8,_⟩:=zah z;unfold put9 zad at *;refine bodyPost_ret (v:=.tuple #[.agg #[.int .i64 0,.int .i64 0,.bool false,.int .i64 0,.slice none 0 0,.int .i64 0,.int .i64 0,.int .i64 0,.int .i64 0],.iface 124 (.agg #[.int .i64 (cc),.int .i64 (ci)])]) (by simp[results,Tryz.results50,go_sem,e0,e1,e2,e3,e4,e5,e6,e7,e8]) rfl ⟨zad,rfl,fun h=>absurd h (hne.out),fun _=>rfl,zbj _,zbg _ _,cs,sx⟩
end
end Go.Proofs.YtihjgcibpfajkaaGreatDoor.T14
