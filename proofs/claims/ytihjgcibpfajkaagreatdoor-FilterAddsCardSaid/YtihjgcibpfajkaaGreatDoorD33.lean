/-
  The landed cluster: AddNode. Condition: errors.errorType holds its own.
  The landed cluster: Node, Pod. No condition.
-/
import Derived.Test.YtihjgcibpfajkaaGreatDoorD32
namespace Go.Proofs.YtihjgcibpfajkaaGreatDoor.T14
open Go.RowKit Go.Sort Go.Lib V12 T13
section
variable{w w1 w2:World}{d q:Nat}{M:List NV}{L:List zaa}{X Z:Nat→Prop}{qn qp:Nat}{N:List T12.NodeV}{Xn Xp:Nat→Prop}
set_option maxRecDepth 100000 in
set_option maxHeartbeats 4000000 in
theorem zyi(h:zbf w d q M L X w1 qn qp N Xn Xp)(hg:zaw w1)(k:Int)(A:Option Addr)(n c:Nat)(Y:Nat→Int)(hv:Rd w1 A n Y)(nilA:A=none→n=0∧c=0)(hk:I64 k):Calls Tryz.prog 20 #[.pointer (some ⟨q,0,none⟩),.agg #[.int .i64 k,.slice A n c]] w1 fun e w'=>e=.returned (zbu (adC M d k n Y) (wrI d n Y))∧CSd w d q (adL M d k n Y) L X w'∧zas X w1 w':=by
 have mixed:Tryz.prog.follows .mixedOrders=true:=by kernel_rfl
 obtain⟨W,hW⟩:∃ W,W=w1.alloc (.cells #[.int .i64 k,.slice A n c] 55):=⟨_,rfl⟩;have KW:Hid (Keep w1 W):=by rw[hW];exact Keep.one _ _
 obtain⟨b,hb⟩:∃ b,b=w1.heap.size:=⟨_,rfl⟩;have Y0:W.heap[b]?=some (.cells #[.int .i64 k,.slice A n c] 55 (0,0)):=by rw[hW,hb];exact heap_alloc_new _ _
 obtain⟨y0,y1,yf⟩:=T12.cel2 Y0;obtain⟨fv,hfv⟩:∃ fv,fv=zbu (adC M d k n Y) (wrI d n Y):=⟨_,rfl⟩;have h1:=h.keep KW.out;have hb1:zdd w1 W b:=⟨by omega,lt_of_block Y0⟩
 have cA:Hid (∀ W',Keep W W'→Calls Tryz.prog 44 #[.pointer (some ⟨qn,0,none⟩),.agg #[.int .i64 k,.slice A n c]] W' fun e w'=>e=.returned fv∧(∀ w2,Keep w' w2→CSd w d q (adL M d k n Y) L X w2∧zas X w1 w2)∧∀ w2,Keep w' w2→w2.cell? ⟨b,0,none⟩=some (.int .i64 k)∧w2.cell? ⟨b,1,none⟩=some (.slice A n c)):=fun W' k2=>by
  have h2:=h1.keep k2;refine(zvf h2.on (hg.keep (KW.out.trans k2)) k A n c Y (hv.keep (KW.out.trans k2)) nilA hk).mono ?_;rintro e w' ⟨he,o,sx,hs⟩;obtain⟨a1,a2⟩:=h2.added k n Y;have h3:=h2.nodes o sx hs a1 a2 (abp h2.ok);have hq:w'.heap[b]?=W.heap[b]?:=(sx b (Or.inl (Or.inr hb1))).trans (Below.block k2 b hb1.2);refine⟨by rw[he,hfv,h2.adc];rfl,fun w2 k3=>⟨((h3.less fun i hi=>Or.inl (Or.inl hi)).cs).keep k3,fun i hi=>?_⟩,fun w2 k3=>⟨k3.cell (zay y0 hq),k3.cell (zay y1 hq)⟩⟩
  have h4:=h.lt i hi;have h5:=h3.lt i (Or.inl (Or.inl hi));rw[Below.block k3 i h5,sx i (Or.inl (Or.inl (h.sub i hi).1)),Below.block k2 i (Nat.lt_of_lt_of_le h4 KW.out.size),Below.block KW.out i h4]
 have HC:Hid (∀ W',Keep W W'→W'.cell? ⟨q,0,none⟩=some (.pointer (some ⟨qn,0,none⟩))∧W'.cell? ⟨q,1,none⟩=some (.pointer (some ⟨qp,0,none⟩))):=fun W' k2=>(h1.keep k2).c2
 rw[← hfv];replace hfv:=Lib.hid hfv;replace h1:=Lib.hid h1;replace Y0:=Lib.hid Y0;replace hb1:=Lib.hid hb1;clear h hg hv nilA hk;have fs0:∀ W,(Instr.field 79 (.agg #[.pointer (some ⟨qn,0,none⟩),.pointer (some ⟨qp,0,none⟩)]) 0).run Tryz.prog W=.ok (.agg #[.pointer (some ⟨qn,0,none⟩)]) W:=fun _=>by kernel_rfl
 have fs1:∀ W,(Instr.field 79 (.agg #[.pointer (some ⟨qn,0,none⟩),.pointer (some ⟨qp,0,none⟩)]) 1).run Tryz.prog W=.ok (.agg #[.pointer (some ⟨qp,0,none⟩)]) W:=fun _=>by kernel_rfl
 have fn0:∀ W,(Instr.field 74 (.agg #[.pointer (some ⟨qn,0,none⟩)]) 0).run Tryz.prog W=.ok (.pointer (some ⟨qn,0,none⟩)) W:=fun _=>by kernel_rfl
 have fp0:∀ W,(Instr.field 77 (.agg #[.pointer (some ⟨qp,0,none⟩)]) 0).run Tryz.prog W=.ok (.pointer (some ⟨qp,0,none⟩)) W:=fun _=>by kernel_rfl
 go_enter Tryz.func20,Tryz.ntmps20
 go_wp2_with fail;rw[← hW,← hb];replace hW:=Lib.hid hW;replace hb:=Lib.hid hb;have HELD:∀ Wz,Keep W Wz→(Wz.cell? ⟨b,0,none⟩=some (.int .i64 k)∧Wz.cell? ⟨b,1,none⟩=some (.slice A n c)):=fun Wz KK=>⟨KK.cell y0,KK.cell y1⟩
 refine wp_region_held_drew (S:=fun w'=>w'.cell? ⟨b,0,none⟩=some (.int .i64 k)∧w'.cell? ⟨b,1,none⟩=some (.slice A n c)) (by kernel_rfl) ?_ (fun hHeld=>?_)
 ·exact HELD _ (by repeat (with_reducible first | exact Keep.refl W | apply Keep.alloc | apply Keep.drew | apply Keep.drewN))
 refine wpAnyH_take (i:=0) (v:=.pointer (some ⟨q,0,none⟩)) rfl (by kernel_rfl) (by kernel_rfl) (by kernel_rfl) (fun _ _ _ h=>h) (Or.inl ⟨by rfl,fun Wz hW=>by obtain⟨p0,p1⟩:=hW;go_simp⟩) hHeld ?_
 simp only[Act.put,List.getElem_toArray,List.getElem_cons_zero,List.setIfInBounds_toArray,List.set_cons_zero,List.set_cons_succ];refine wpAnyH_take (i:=4) (v:=.agg #[.int .i64 k,.slice A n c]) rfl (by kernel_rfl) (by kernel_rfl) (by kernel_rfl) (fun _ _ _ h=>h) (Or.inl ⟨by rfl,fun Wz hW=>by obtain⟨p0,p1⟩:=hW;go_simp⟩) hHeld ?_
 simp only[Act.put,List.getElem_toArray,List.getElem_cons_succ,List.getElem_cons_zero,List.setIfInBounds_toArray,List.set_cons_zero,List.set_cons_succ];refine wpAnyH_ready (rs:=[1]) (by kernel_rfl) (by simp) ?_
 refine AllReadyH.cons rfl (fun K hK=>?_) AllReadyH.nil
 simp only[List.getElem_toArray,List.getElem_cons_succ,List.getElem_cons_zero];rw[if_pos (by rfl)]
 go_simp
 refine((zdv (HC.out _ (by repeat (with_reducible first | exact Keep.refl W | apply Keep.alloc | apply Keep.drew | apply Keep.drewN))).1 (HC.out _ (by repeat (with_reducible first | exact Keep.refl W | apply Keep.alloc | apply Keep.drew | apply Keep.drewN))).2)).mono ?_
 rintro e w2 ⟨rfl,k2⟩;have K2:Hid (Keep W w2):=((Keep.refl _).drew:Keep W _).trans k2;replace k2:=Lib.hid k2;go_wp2_with fail;refine hK.out _ _ ?_ (fun hHeld=>?_)
 ·exact HELD _ K2.out
 clear hK K;try simp only[Act.put,List.getElem_toArray,List.getElem_cons_succ,List.getElem_cons_zero,List.setIfInBounds_toArray,List.set_cons_zero,List.set_cons_succ]
 refine wpAnyH_take (i:=2) (v:=.agg #[.pointer (some ⟨qn,0,none⟩)]) rfl (by kernel_rfl) (by kernel_rfl) (by kernel_rfl) (fun _ _ _ h=>h) (Or.inl ⟨by rfl,fun Wz hW=>by obtain⟨p0,p1⟩:=hW;go_simp⟩) hHeld ?_
 simp only[Act.put,List.getElem_toArray,List.getElem_cons_succ,List.getElem_cons_zero,List.setIfInBounds_toArray,List.set_cons_zero,List.set_cons_succ];refine wpAnyH_take (i:=3) (v:=.pointer (some ⟨qn,0,none⟩)) rfl (by kernel_rfl) (by kernel_rfl) (by kernel_rfl) (fun _ _ _ h=>h) (Or.inl ⟨by rfl,fun Wz hW=>by obtain⟨p0,p1⟩:=hW;go_simp⟩) hHeld ?_
 simp only[Act.put,List.getElem_toArray,List.getElem_cons_succ,List.getElem_cons_zero,List.setIfInBounds_toArray,List.set_cons_zero,List.set_cons_succ];refine wpAnyH_ready (rs:=[5]) (by kernel_rfl) (by simp) ?_
 refine AllReadyH.cons rfl (fun K hK=>?_) AllReadyH.nil
 simp only[List.getElem_toArray,List.getElem_cons_succ,List.getElem_cons_zero];rw[if_pos (by rfl)]
 go_simp
 refine(cA.out w2 K2.out).mono ?_;rintro e w3 ⟨rfl,F3,H3⟩;replace F3:=Lib.hid F3;replace H3:=Lib.hid H3;go_wp2_with fail;refine hK.out _ _ ?_ (fun hHeld=>?_)
 ·exact H3.out _ (Keep.refl _)
 clear hK K;try simp only[Act.put,List.getElem_toArray,List.getElem_cons_succ,List.getElem_cons_zero,List.setIfInBounds_toArray,List.set_cons_zero,List.set_cons_succ]
 refine wpAnyH_take (i:=6) (v:=fv) rfl (by kernel_rfl) (by kernel_rfl) (by kernel_rfl) (fun _ _ _ h=>h) (Or.inl ⟨by rfl,fun Wz hW=>by obtain⟨p0,p1⟩:=hW;go_simp⟩) hHeld ?_
 simp only[Act.put,List.getElem_toArray,List.getElem_cons_succ,List.getElem_cons_zero,List.setIfInBounds_toArray,List.set_cons_zero,List.set_cons_succ];refine wpAnyH_done (by kernel_rfl) ?_ _
 go_wp2;go_ret
 exact⟨rfl,F3.out _ (by repeat (with_reducible first | exact Keep.refl _ | apply Keep.drew | apply Keep.drewN))⟩
end
end Go.Proofs.YtihjgcibpfajkaaGreatDoor.T14
namespace Go.Proofs.YtihjgcibpfajkaaGreatDoor.T14
open Go.RowKit Go.Sort Go.Lib V12 T13
theorem aag{w w':World}{base b:Nat}{r:zaa}(h:Req w base r)(hb:b<base)(f:∀ k,k≠b→w'.heap[k]?=w.heap[k]?):Req w' base r :=
 zal h fun g hg=>f g (by have:=(World.ownsRow.lt h g hg).1;omega)
theorem zmd{w:World}{base b:Nat}{r:zaa}(h:Req w base r)(hb:b<base)(x:zaa):Req (put9 w b x) base r:=aag h hb fun _ hk=>zce x hk
theorem adw{w w':World}{base b n:Nat}{A:Option Addr}{Z:Nat→Int}(h:Rd w A n Z)(hA:∀ b o,0<n→A=some ⟨b,o,none⟩→base≤b)(hb:b<base)(f:∀ k,k≠b→w'.heap[k]?=w.heap[k]?):Rd w' A n Z :=
 ⟨h.small,h.range,fun hn=>by
  obtain⟨b2,off,e,hc⟩:=h.adr hn;have h2:=hA b2 off hn e
  exact⟨b2,off,e,fun j hj=>zay (hc j hj) (f b2 (by omega))⟩⟩
section
variable{w w1 w2:World}{d q:Nat}{M:List NV}{L:List zaa}{X Z:Nat→Prop}{qn qp:Nat}{N:List T12.NodeV}{Xn Xp:Nat→Prop}
set_option maxRecDepth 100000 in
set_option maxHeartbeats 4000000 in
theorem zuf(h:zbf w d q M L X w1 qn qp N Xn Xp)(id:Int):Calls Tryz.prog 108 #[.pointer (some ⟨q,0,none⟩),.int .i64 id] w1 fun e w'=>∃ k A n c,e=.returned (.tuple #[.agg #[.int .i64 k,.slice A n c],.bool (decide (id∈nk M))])∧(id∈nk M→k=id∧n=d∧Rd w' A d (nget M id).C∧∀ b o,0<n→A=some ⟨b,o,none⟩→w1.heap.size≤b)∧(A=none→n=0∧c=0)∧Keep w1 w':=by
 obtain⟨W,hW⟩:∃ W,W=w1.alloc (.cells #[.int .i64 0,.slice none 0 0] 55):=⟨_,rfl⟩;have KW:Hid (Keep w1 W):=by rw[hW];exact Keep.one _ _
 obtain⟨b,hb⟩:∃ b,b=w1.heap.size:=⟨_,rfl⟩;have Y:Hid (W.heap[b]?=some (.cells #[.int .i64 0,.slice none 0 0] 55 (0,0))):=by rw[hW,hb];exact heap_alloc_new _ _
 have h1:=h.keep KW.out;have hB:=Lib.hid (zdv h1.c2.1 h1.c2.2);obtain⟨v,hv⟩:∃ v,v=decide (id∈nk M):=⟨_,rfl⟩;have cG:Hid (∀ W',Keep W W'→Calls Tryz.prog 32 #[.pointer (some ⟨qn,0,none⟩),.int .i64 id] W' fun e w'=>∃ k A n c,e=.returned (.tuple #[.agg #[.int .i64 k,.slice A n c],.bool v])∧((id∈nk M→k=id∧n=d∧Rd w' A d (nget M id).C∧∀ b o,0<n→A=some ⟨b,o,none⟩→W.heap.size≤b)∧(A=none→n=0∧c=0))∧Keep W w'):=fun W' k2=>by
  have h2:=h1.keep k2;rw[hv]
  by_cases hk:id∈nk M
  ·rw[decide_eq_true hk]
   refine(zhq h2.on id (by rw[h2.keys];exact hk)).mono ?_
   rintro e w' ⟨A,c,he,r,k3⟩;refine⟨id,A,d,c,he,⟨fun _=>⟨rfl,rfl,?_,fun b o hd hA=>?_⟩,r.nil⟩,k2.trans k3⟩
   ·rw[(h2.nget hk).2.2]
    exact r.rd
   ·obtain⟨b2,o2,e2,hb2,_⟩:=r.new hd
    rw[hA] at e2;have e3:=congrArg (fun x:Option Addr=>(x.getD ⟨0,0,none⟩).block) e2
    simp only[Option.getD_some] at e3;have:=k2.size;omega
  ·rw[decide_eq_false hk]
   refine(zjs h2.on id (by rw[h2.keys];exact hk)).mono ?_
   rintro e w' ⟨he,k3⟩;exact⟨0,none,0,0,he,⟨fun h=>absurd h hk,fun _=>⟨rfl,rfl⟩⟩,k2.trans k3⟩
 have FIN:Hid (∀ w' k A n c,Keep W w'→((id∈nk M→k=id∧n=d∧Rd w' A d (nget M id).C∧∀ b o,0<n→A=some ⟨b,o,none⟩→W.heap.size≤b)∧(A=none→n=0∧c=0))→((w'.setCell ⟨b,0,none⟩ (.int .i64 k)).setCell ⟨b,1,none⟩ (.slice A n c)).heap[b]?=some (.cells #[.int .i64 k,.slice A n c] 55 (0,0))∧((id∈nk M→k=id∧n=d∧Rd ((w'.setCell ⟨b,0,none⟩ (.int .i64 k)).setCell ⟨b,1,none⟩ (.slice A n c)) A d (nget M id).C∧∀ b o,0<n→A=some ⟨b,o,none⟩→w1.heap.size≤b)∧(A=none→n=0∧c=0))∧Keep w1 ((w'.setCell ⟨b,0,none⟩ (.int .i64 k)).setCell ⟨b,1,none⟩ (.slice A n c))):=fun w' k A n c k2 hN=>by
  refine⟨T12.two_set (k2.block Y.out),⟨fun hk=>?_,hN.2⟩,T12.two_keep (KW.out.trans k2) (by omega)⟩
  obtain⟨e1,e2,e3,e4⟩:=hN.1 hk;refine⟨e1,e2,adw e3 (by rw[← e2];exact e4) (lt_of_block Y.out) (fun i hi=>T12.two_block hi),fun b o hn hA=>?_⟩
  have:=e4 b o hn hA;have:=KW.out.size;omega
 have YC:Hid (∀ w',Keep W w'→w'.cell? ⟨b,0,none⟩=some (.int .i64 0)∧w'.cell? ⟨b,1,none⟩=some (.slice none 0 0)∧∀ i,w'.frozen? ⟨b,i,none⟩=false):=fun w' k=>T12.cel2 (k.block Y.out)
 rw[← hv];replace hv:=Lib.hid hv;replace h1:=Lib.hid h1;clear h;have fs0:∀ W,(Instr.field 79 (.agg #[.pointer (some ⟨qn,0,none⟩),.pointer (some ⟨qp,0,none⟩)]) 0).run Tryz.prog W=.ok (.agg #[.pointer (some ⟨qn,0,none⟩)]) W:=fun _=>by kernel_rfl
 have fs1:∀ W,(Instr.field 79 (.agg #[.pointer (some ⟨qn,0,none⟩),.pointer (some ⟨qp,0,none⟩)]) 1).run Tryz.prog W=.ok (.agg #[.pointer (some ⟨qp,0,none⟩)]) W:=fun _=>by kernel_rfl
 have fn0:∀ W,(Instr.field 74 (.agg #[.pointer (some ⟨qn,0,none⟩)]) 0).run Tryz.prog W=.ok (.pointer (some ⟨qn,0,none⟩)) W:=fun _=>by kernel_rfl
 have fp0:∀ W,(Instr.field 77 (.agg #[.pointer (some ⟨qp,0,none⟩)]) 0).run Tryz.prog W=.ok (.pointer (some ⟨qp,0,none⟩)) W:=fun _=>by kernel_rfl
 go_enter Tryz.func108,Tryz.ntmps108
 go_wp2_with fail;rw[← hW,← hb];replace hW:=Lib.hid hW;replace hb:=Lib.hid hb;refine hB.out.mono ?_;rintro e w2 ⟨rfl,k2⟩;replace k2:=Lib.hid k2;go_wp2_with fail;refine(cG.out w2 k2.out).mono ?_;rintro e w3 ⟨k,A,n,c,rfl,hN,k3⟩;have F:=Lib.hid (FIN.out w3 k A n c k3 hN);obtain⟨y0,y1,yf⟩:=YC.out w3 k3;replace hN:=Lib.hid hN;replace k3:=Lib.hid k3;go_wp2;obtain⟨z0,z1,_⟩:=T12.cel2 F.out.1;refine bodyPost_ret (v:=.tuple #[.agg #[.int .i64 k,.slice A n c],.bool v]) (by simp[results,Tryz.results108,go_sem,z0,z1]) rfl ⟨k,A,n,c,rfl,F.out.2.1.1,F.out.2.1.2,F.out.2.2⟩
set_option maxRecDepth 100000 in
set_option maxHeartbeats 4000000 in
theorem zym(h:zbf w d q M L X w1 qn qp N Xn Xp)(id:Int)(hid:I64 id):Calls Tryz.prog 16 #[.pointer (some ⟨q,0,none⟩),.int .i64 id] w1 fun e w'=>∃ r,e=.returned (.tuple #[r.val,.bool (decide (id∈keys L))])∧nm r=zai L id∧zaf w' r∧Req w' w1.heap.size r∧Keep w1 w':=by
 obtain⟨W,hW⟩:∃ W,W=w1.alloc (.cells (zab zad) 26):=⟨_,rfl⟩;have KW:Hid (Keep w1 W):=by rw[hW];exact Keep.one _ _
 obtain⟨b,hb⟩:∃ b,b=w1.heap.size:=⟨_,rfl⟩;have Y:Hid (W.heap[b]?=some (.cells (zab zad) 26 (0,0))):=by show _=_;rw[hW,hb];exact heap_alloc_new _ _
 have h1:=h.keep KW.out;have hB:=Lib.hid (zdv h1.c2.1 h1.c2.2);obtain⟨v,hv⟩:∃ v,v=decide (id∈keys L):=⟨_,rfl⟩;have cG:Hid (∀ W',Keep W W'→Calls Tryz.prog 36 #[.pointer (some ⟨qp,0,none⟩),.int .i64 id] W' fun e w'=>∃ r,e=.returned (.tuple #[r.val,.bool v])∧nm r=zai L id∧zaf w' r∧Req w' W.heap.size r∧Keep W w'):=fun W' k2=>by
  have h2:=h1.keep k2;rw[hv];exact(zdz.get id h2.os hid h2.m1000).mono fun _ _ ⟨r,he,h3,h4,h5,h6⟩=>⟨r,he,h3,h4,own_base' h5 k2.size,k2.trans h6⟩
 have FIN:Hid (∀ w' r,Keep W w'→zaf w' r→Req w' W.heap.size r→(put9 w' b r).heap[b]?=some (.cells (zab r) 26 (0,0))∧zaf (put9 w' b r) r∧Req (put9 w' b r) w1.heap.size r∧Keep w1 (put9 w' b r)):=fun w' r k2 hi hr=>by
  have h3:=zmd hr (lt_of_block Y.out) r;exact⟨zbs _ zad (k2.block Y.out),h3.is hi.ok,own_base' h3 KW.out.size,zcc _ (KW.out.trans k2) (by omega)⟩
 have YC:Hid (∀ w',Keep W w'→w'.heap[b]?=some (.cells (zab zad) 26 (0,0))):=fun w' k=>k.block Y.out
 rw[← hv];replace hv:=Lib.hid hv;replace h1:=Lib.hid h1;unfold zab zad at hW;clear h;have fs0:∀ W,(Instr.field 79 (.agg #[.pointer (some ⟨qn,0,none⟩),.pointer (some ⟨qp,0,none⟩)]) 0).run Tryz.prog W=.ok (.agg #[.pointer (some ⟨qn,0,none⟩)]) W:=fun _=>by kernel_rfl
 have fs1:∀ W,(Instr.field 79 (.agg #[.pointer (some ⟨qn,0,none⟩),.pointer (some ⟨qp,0,none⟩)]) 1).run Tryz.prog W=.ok (.agg #[.pointer (some ⟨qp,0,none⟩)]) W:=fun _=>by kernel_rfl
 have fn0:∀ W,(Instr.field 74 (.agg #[.pointer (some ⟨qn,0,none⟩)]) 0).run Tryz.prog W=.ok (.pointer (some ⟨qn,0,none⟩)) W:=fun _=>by kernel_rfl
 have fp0:∀ W,(Instr.field 77 (.agg #[.pointer (some ⟨qp,0,none⟩)]) 0).run Tryz.prog W=.ok (.pointer (some ⟨qp,0,none⟩)) W:=fun _=>by kernel_rfl
 go_enter Tryz.func16,Tryz.ntmps16
 go_wp2_with fail;rw[← hW,← hb];replace hW:=Lib.hid hW;replace hb:=Lib.hid hb;refine hB.out.mono ?_;rintro e w2 ⟨rfl,k2⟩;replace k2:=Lib.hid k2;go_wp2_with fail;refine(cG.out w2 k2.out).mono ?_;rintro e w3 ⟨r,rfl,hn,hi,hr,k3⟩;have F:=Lib.hid (FIN.out w3 r k3 hi hr);obtain⟨d0,d1,d2,d3,d4,d5,d6,d7,d8,g0⟩:=zah (YC.out w3 k3);unfold zad at d0 d1 d2 d3 d4 d5 d6 d7 d8;replace hn:=Lib.hid hn;replace hi:=Lib.hid hi;replace hr:=Lib.hid hr;replace k3:=Lib.hid k3;unfold zaa.val;go_wp2;obtain⟨e0,e1,e2,e3,e4,e5,e6,e7,e8,_⟩:=zah F.out.1;have E:=F.out.2;unfold put9 at *;refine bodyPost_ret (v:=.tuple #[.agg #[.int .i64 r.k,.int .i64 r.p,.bool r.f,.int .i64 r.g,.slice r.A r.m r.c,.int .i64 r.a,.int .i64 r.h,.int .i64 r.d,.int .i64 r.t],.bool v]) (by simp[results,Tryz.results16,go_sem,e0,e1,e2,e3,e4,e5,e6,e7,e8]) rfl ⟨r,rfl,hn.out,E.1,E.2.1,E.2.2⟩
end
end Go.Proofs.YtihjgcibpfajkaaGreatDoor.T14
