/-
  The landed cluster: AddNode. Condition: errors.errorType holds its own.
  The landed cluster: Node, Pod. No condition.
  The landed cluster: check: the pod to which an event with a node applies, or the first error. No condition.
-/
import Derived.Test.YtcogiogjpbkeaaaGreatDoorJ0
import Derived.Test.YtcogiogjpbkeaaaGreatDoorJ31
namespace Go.Proofs.YtcogiogjpbkeaaaGreatDoor.T14
open Go.RowKit Go.Sort Go.Lib V12 T13
section
variable{w w1 w2:World}{d q:Nat}{M:List NV}{L:List zaa}{X Z:Nat->Prop}{qn qp:Nat}{N:List T12.NodeV}{Xn Xp:Nat->Prop}
set_option maxRecDepth 100000 in
set_option maxHeartbeats 4000000 in
theorem afn(h:zbw w d q M L X w1 qn qp N Xn Xp)(hg:zbk w1)(k:Int)(A:Option Addr)(n c:Nat)(Y:Nat->Int)(hv:Rd w1 A n Y)(nilA:A=none->n=0/\c=0)(hk:I64 k):Calls Tryz.prog 28 #[.pointer (some ⟨q,0,none⟩),.agg #[.int .i64 k,.slice A n c]] w1 fun e w'=>e=.returned (zdb (adC M d k n Y) (wrI d n Y))/\CSd w d q (adL M d k n Y) L X w'/\zbe X w1 w':=by
 have mixed:Tryz.prog.follows .mixedOrders=true:=by kernel_rfl
 obtain⟨W,hW⟩:=Zn (w1.alloc (.cells #[.int .i64 k,.slice A n c] 56));have KW:Hid (Keep w1 W):=by rw[hW];exact Keep.one _ _
 obtain⟨b,hb⟩:=Zn (w1.heap.size);have Y0:W.heap[b]?=some (.cells #[.int .i64 k,.slice A n c] 56 (0,0)):=by rw[hW,hb];exact heap_alloc_new _ _
 obtain⟨y0,y1,yf⟩:=T12.cel2 Y0;obtain⟨fv,hfv⟩:=Zn (zdb (adC M d k n Y) (wrI d n Y));have h1:=h.keep KW.out;have hb1:zef w1 W b:=⟨by omega,lt_of_block Y0⟩
 have cA:Hid (∀ W',Keep W W'->Calls Tryz.prog 55 #[.pointer (some ⟨qn,0,none⟩),.agg #[.int .i64 k,.slice A n c]] W' fun e w'=>e=.returned fv/\(∀ w2,Keep w' w2->CSd w d q (adL M d k n Y) L X w2/\zbe X w1 w2)/\∀ w2,Keep w' w2->w2.cell? ⟨b,0,none⟩=some (.int .i64 k)/\w2.cell? ⟨b,1,none⟩=some (.slice A n c)):=fun W' k2=>by
  have h2:=h1.keep k2;refine(abl h2.on (hg.keep (KW.out.trans k2)) k A n c Y (hv.keep (KW.out.trans k2)) nilA hk).mono ?_;rintro e w' ⟨he,o,sx,hs⟩;obtain⟨a1,a2⟩:=h2.added k n Y;have h3:=h2.nodes o sx hs a1 a2 (ajk h2.ok);have hq:w'.heap[b]?=W.heap[b]?:=(sx b (Or.inl (Or.inr hb1))).trans (Below.block k2 b hb1.2);refine⟨by rw[he,hfv,h2.adc];rfl,fun w2 k3=>⟨((h3.less fun i hi=>Or.inl (Or.inl hi)).cs).keep k3,fun i hi=>?_⟩,fun w2 k3=>⟨k3.cell (zbu y0 hq),k3.cell (zbu y1 hq)⟩⟩
  have h4:=h.lt i hi;have h5:=h3.lt i (Or.inl (Or.inl hi));rw[Below.block k3 i h5,sx i (Or.inl (Or.inl (h.sub i hi).1)),Below.block k2 i (Nat.lt_of_lt_of_le h4 KW.out.size),Below.block KW.out i h4]
 have HC:Hid (∀ W',Keep W W'->W'.cell? ⟨q,0,none⟩=some (.pointer (some ⟨qn,0,none⟩))/\W'.cell? ⟨q,1,none⟩=some (.pointer (some ⟨qp,0,none⟩))):=fun W' k2=>(h1.keep k2).c2
 rw[<- hfv];replace hfv:=Zq hfv;replace h1:=Zq h1;replace Y0:=Zq Y0;replace hb1:=Zq hb1;clear h hg hv nilA hk;have fs0:∀ W,(Instr.field 96 (.agg #[.pointer (some ⟨qn,0,none⟩),.pointer (some ⟨qp,0,none⟩)]) 0).run Tryz.prog W=.ok (.agg #[.pointer (some ⟨qn,0,none⟩)]) W:=fun _=>by kernel_rfl
 have fs1:∀ W,(Instr.field 96 (.agg #[.pointer (some ⟨qn,0,none⟩),.pointer (some ⟨qp,0,none⟩)]) 1).run Tryz.prog W=.ok (.agg #[.pointer (some ⟨qp,0,none⟩)]) W:=fun _=>by kernel_rfl
 have fn0:∀ W,(Instr.field 90 (.agg #[.pointer (some ⟨qn,0,none⟩)]) 0).run Tryz.prog W=.ok (.pointer (some ⟨qn,0,none⟩)) W:=fun _=>by kernel_rfl
 have fp0:∀ W,(Instr.field 94 (.agg #[.pointer (some ⟨qp,0,none⟩)]) 0).run Tryz.prog W=.ok (.pointer (some ⟨qp,0,none⟩)) W:=fun _=>by kernel_rfl
 go_enter Tryz.func28,Tryz.ntmps28
 go_wp2_with fail;rw[<- hW,<- hb];replace hW:=Zq hW;replace hb:=Zq hb;have HELD:∀ Wz,Keep W Wz->(Wz.cell? ⟨b,0,none⟩=some (.int .i64 k)/\Wz.cell? ⟨b,1,none⟩=some (.slice A n c)):=fun Wz KK=>⟨KK.cell y0,KK.cell y1⟩
 refine wp_region_held_drew (S:=fun w'=>w'.cell? ⟨b,0,none⟩=some (.int .i64 k)/\w'.cell? ⟨b,1,none⟩=some (.slice A n c)) (by kernel_rfl) ?_ (fun hHeld=>?_)
 ·exact HELD _ (by repeat (with_reducible first | exact Keep.refl W | apply Keep.alloc | apply Keep.drew | apply Keep.drewN))
 refine Zt 0 (.pointer (some ⟨q,0,none⟩)) hHeld ?_
 simp only[Act.put,Zp];refine Zt 4 (.agg #[.int .i64 k,.slice A n c]) hHeld ?_
 simp only[Act.put,Zp];refine wpAnyH_ready (rs:=[1]) (by kernel_rfl) (by simp) ?_
 refine AllReadyH.cons rfl (fun K hK=>?_) AllReadyH.nil
 simp only[Zp];rw[if_pos (by rfl)]
 go_simp
 refine((zgw (HC.out _ (by repeat (with_reducible first | exact Keep.refl W | apply Keep.alloc | apply Keep.drew | apply Keep.drewN))).1 (HC.out _ (by repeat (with_reducible first | exact Keep.refl W | apply Keep.alloc | apply Keep.drew | apply Keep.drewN))).2)).mono ?_
 rintro e w2 ⟨rfl,k2⟩;have K2:Hid (Keep W w2):=((Keep.refl _).drew:Keep W _).trans k2;replace k2:=Zq k2;go_wp2_with fail;refine hK.out _ _ ?_ (fun hHeld=>?_)
 ·exact HELD _ K2.out
 clear hK K;try simp only[Act.put,Zp]
 refine Zt 2 (.agg #[.pointer (some ⟨qn,0,none⟩)]) hHeld ?_
 simp only[Act.put,Zp];refine Zt 3 (.pointer (some ⟨qn,0,none⟩)) hHeld ?_
 simp only[Act.put,Zp];refine wpAnyH_ready (rs:=[5]) (by kernel_rfl) (by simp) ?_
 refine AllReadyH.cons rfl (fun K hK=>?_) AllReadyH.nil
 simp only[Zp];rw[if_pos (by rfl)]
 go_simp
 refine(cA.out w2 K2.out).mono ?_;rintro e w3 ⟨rfl,F3,H3⟩;replace F3:=Zq F3;replace H3:=Zq H3;go_wp2_with fail;refine hK.out _ _ ?_ (fun hHeld=>?_)
 ·exact H3.out _ (Keep.refl _)
 clear hK K;try simp only[Act.put,Zp]
 refine Zt 6 (fv) hHeld ?_
 simp only[Act.put,Zp];refine wpAnyH_done (by kernel_rfl) ?_ _
 go_wp2;go_ret
 exact⟨rfl,F3.out _ (by repeat (with_reducible first | exact Keep.refl _ | apply Keep.drew | apply Keep.drewN))⟩
end
end Go.Proofs.YtcogiogjpbkeaaaGreatDoor.T14
namespace Go.Proofs.YtcogiogjpbkeaaaGreatDoor.T14
open Go.RowKit Go.Sort Go.Lib V12 T13
theorem ahs{w w':World}{base b:Nat}{r:zaa}(h:Req w base r)(hb:b<base)(f:∀ k,k≠b->w'.heap[k]?=w.heap[k]?):Req w' base r :=
 zao h fun g hg=>f g (by have:=(World.ownsRow.lt h g hg).1;omega)
theorem zwy{w:World}{base b:Nat}{r:zaa}(h:Req w base r)(hb:b<base)(x:zaa):Req (put9 w b x) base r:=ahs h hb fun _ hk=>zdd x hk
theorem zfo{w0 w w':World}{A:Option Addr}{n c:Nat}{Z:Nat->Int}(h:T12.Row w w' A n c Z)(hs:w0.heap.size<=w.heap.size):T12.Row w0 w' A n c Z :=
 ⟨h.rd,h.nil,fun hn=>by
  obtain⟨b,o,e,hb,hf⟩:=h.new hn
  exact⟨b,o,e,Nat.le_trans hs hb,hf⟩,h.ty⟩
theorem zij{w w':World}{A:Option Addr}{n c b o:Nat}{Z:Nat->Int}(h:T12.Row w w' A n c Z)(hn:0<n)(hA:A=some ⟨b,o,none⟩):w.heap.size<=b:=by
 obtain⟨b2,o2,e2,hb2,_⟩:=h.new hn;rw[hA] at e2;cases e2
 exact hb2
section
variable{w w1 w2:World}{d q:Nat}{M:List NV}{L:List zaa}{X Z:Nat->Prop}{qn qp:Nat}{N:List T12.NodeV}{Xn Xp:Nat->Prop}
set_option maxRecDepth 100000 in
set_option maxHeartbeats 4000000 in
theorem zoh(h:zbw w d q M L X w1 qn qp N Xn Xp)(id:Int):Calls Tryz.prog 84 #[.pointer (some ⟨q,0,none⟩),.int .i64 id] w1 fun e w'=>∃ k A n c,e=.returned (.tuple #[.agg #[.int .i64 k,.slice A n c],.bool (decide (id∈nk M))])/\(id∈nk M->k=id/\n=d/\T12.Row w1 w' A d c (nget M id).C)/\(A=none->n=0/\c=0)/\Keep w1 w':=by
 obtain⟨W,hW⟩:=Zn (w1.alloc (.cells #[.int .i64 0,.slice none 0 0] 56));have KW:Hid (Keep w1 W):=by rw[hW];exact Keep.one _ _
 obtain⟨b,hb⟩:=Zn (w1.heap.size);have Y:Hid (W.heap[b]?=some (.cells #[.int .i64 0,.slice none 0 0] 56 (0,0))):=by rw[hW,hb];exact heap_alloc_new _ _
 have h1:=h.keep KW.out;have hB:=Zq (zgw h1.c2.1 h1.c2.2);obtain⟨v,hv⟩:=Zn (decide (id∈nk M));have cG:Hid (∀ W',Keep W W'->Calls Tryz.prog 105 #[.pointer (some ⟨qn,0,none⟩),.int .i64 id] W' fun e w'=>∃ k A n c,e=.returned (.tuple #[.agg #[.int .i64 k,.slice A n c],.bool v])/\((id∈nk M->k=id/\n=d/\T12.Row W w' A d c (nget M id).C)/\(A=none->n=0/\c=0))/\Keep W w'):=fun W' k2=>by
  have h2:=h1.keep k2;rw[hv]
  by_cases hk:id∈nk M
  ·rw[decide_eq_true hk]
   refine(zov h2.on id (by rw[h2.keys];exact hk)).mono ?_
   rintro e w' ⟨A,c,he,r,k3⟩;refine⟨id,A,d,c,he,⟨fun _=>⟨rfl,rfl,?_⟩,r.nil⟩,k2.trans k3⟩
   rw[(h2.nget hk).2.2];exact zfo r k2.size
  ·rw[decide_eq_false hk]
   refine(znc h2.on id (by rw[h2.keys];exact hk)).mono ?_
   rintro e w' ⟨he,k3⟩;exact⟨0,none,0,0,he,⟨fun h=>absurd h hk,fun _=>⟨rfl,rfl⟩⟩,k2.trans k3⟩
 have FIN:Hid (∀ w' k A n c,Keep W w'->((id∈nk M->k=id/\n=d/\T12.Row W w' A d c (nget M id).C)/\(A=none->n=0/\c=0))->((w'.setCell ⟨b,0,none⟩ (.int .i64 k)).setCell ⟨b,1,none⟩ (.slice A n c)).heap[b]?=some (.cells #[.int .i64 k,.slice A n c] 56 (0,0))/\((id∈nk M->k=id/\n=d/\T12.Row w1 ((w'.setCell ⟨b,0,none⟩ (.int .i64 k)).setCell ⟨b,1,none⟩ (.slice A n c)) A d c (nget M id).C)/\(A=none->n=0/\c=0))/\Keep w1 ((w'.setCell ⟨b,0,none⟩ (.int .i64 k)).setCell ⟨b,1,none⟩ (.slice A n c))):=fun w' k A n c k2 hN=>by
  refine⟨T12.two_set (k2.block Y.out),⟨fun hk=>?_,hN.2⟩,T12.two_keep (KW.out.trans k2) (by omega)⟩
  obtain⟨e1,e2,e3⟩:=hN.1 hk;refine⟨e1,e2,zfo (e3.fr T12.two_fr fun b2 o hA hn e=>?_) KW.out.size⟩
  have:=zij e3 hn hA;have:=lt_of_block Y.out;omega
 have YC:Hid (∀ w',Keep W w'->w'.cell? ⟨b,0,none⟩=some (.int .i64 0)/\w'.cell? ⟨b,1,none⟩=some (.slice none 0 0)/\∀ i,w'.frozen? ⟨b,i,none⟩=false):=fun w' k=>T12.cel2 (k.block Y.out)
 rw[<- hv];replace hv:=Zq hv;replace h1:=Zq h1;clear h;have fs0:∀ W,(Instr.field 96 (.agg #[.pointer (some ⟨qn,0,none⟩),.pointer (some ⟨qp,0,none⟩)]) 0).run Tryz.prog W=.ok (.agg #[.pointer (some ⟨qn,0,none⟩)]) W:=fun _=>by kernel_rfl
 have fs1:∀ W,(Instr.field 96 (.agg #[.pointer (some ⟨qn,0,none⟩),.pointer (some ⟨qp,0,none⟩)]) 1).run Tryz.prog W=.ok (.agg #[.pointer (some ⟨qp,0,none⟩)]) W:=fun _=>by kernel_rfl
 have fn0:∀ W,(Instr.field 90 (.agg #[.pointer (some ⟨qn,0,none⟩)]) 0).run Tryz.prog W=.ok (.pointer (some ⟨qn,0,none⟩)) W:=fun _=>by kernel_rfl
 have fp0:∀ W,(Instr.field 94 (.agg #[.pointer (some ⟨qp,0,none⟩)]) 0).run Tryz.prog W=.ok (.pointer (some ⟨qp,0,none⟩)) W:=fun _=>by kernel_rfl
 go_enter Tryz.func84,Tryz.ntmps84
 go_wp2_with fail;rw[<- hW,<- hb];replace hW:=Zq hW;replace hb:=Zq hb;refine hB.out.mono ?_;rintro e w2 ⟨rfl,k2⟩;replace k2:=Zq k2;go_wp2_with fail;refine(cG.out w2 k2.out).mono ?_;rintro e w3 ⟨k,A,n,c,rfl,hN,k3⟩;have F:=Zq (FIN.out w3 k A n c k3 hN);obtain⟨y0,y1,yf⟩:=YC.out w3 k3;replace hN:=Zq hN;replace k3:=Zq k3;go_wp2;obtain⟨z0,z1,_⟩:=T12.cel2 F.out.1;refine bodyPost_ret (v:=.tuple #[.agg #[.int .i64 k,.slice A n c],.bool v]) (by simp[results,Tryz.results84,go_sem,z0,z1]) rfl ⟨k,A,n,c,rfl,F.out.2.1.1,F.out.2.1.2,F.out.2.2⟩
theorem aai(h:zbw w d q M L X w1 qn qp N Xn Xp)(id:Int):Calls Tryz.prog 84 #[.pointer (some ⟨q,0,none⟩),.int .i64 id] w1 fun e w'=>∃ k A n c,e=.returned (.tuple #[.agg #[.int .i64 k,.slice A n c],.bool (decide (id∈nk M))])/\(id∈nk M->k=id/\n=d/\Rd w' A d (nget M id).C/\∀ b o,0<n->A=some ⟨b,o,none⟩->w1.heap.size<=b)/\(A=none->n=0/\c=0)/\Keep w1 w' :=
 (zoh h id).mono fun _ _ ⟨k,A,n,c,e,a,b,kk⟩=>⟨k,A,n,c,e,fun hk=>by
  obtain⟨a1,a2,a3⟩:=a hk
  exact⟨a1,a2,a3.rd,fun b o hn hA=>zij a3 (by omega) hA⟩,b,kk⟩
end
end Go.Proofs.YtcogiogjpbkeaaaGreatDoor.T14
namespace Go.Proofs.YtcogiogjpbkeaaaGreatDoor.T14
open Go.RowKit Go.Sort Go.Lib V12 T13
def ckC(M:List NV)(L:List zaa)(id nd ev:Int):Int:=if id∉keys L then 5 else if nd∉nk M then 5 else if nx (getL L id).h ev=0 then 8 else 0
section
variable{w w1 w2:World}{d q:Nat}{M:List NV}{L:List zaa}{X Z:Nat->Prop}{qn qp:Nat}{N:List T12.NodeV}{Xn Xp:Nat->Prop}
set_option maxRecDepth 100000 in
set_option maxHeartbeats 8000000 in
theorem zrk(h:zbw w d q M L X w1 qn qp N Xn Xp)(id nd ev:Int)(hid:I64 id):Calls Tryz.prog 65 #[.agg #[.pointer (some ⟨qn,0,none⟩),.pointer (some ⟨qp,0,none⟩)],.int .i64 id,.int .i64 nd,.int .i64 ev] w1 fun e w'=>∃ r,e=.returned (.tuple #[r.val,zdb (ckC M L id nd ev) (plI M L id nd)])/\(ckC M L id nd ev=0->nm r=getL L id)/\(ckC M L id nd ev≠0->nm r=zaf)/\zah w' r/\Req w' w1.heap.size r/\Keep w1 w':=by
 obtain⟨W0,hW0⟩:=Zn (w1.alloc (.cells #[.pointer (some ⟨qn,0,none⟩),.pointer (some ⟨qp,0,none⟩)] 96));obtain⟨W,hW⟩:=Zn (W0.alloc (.cells (zac zaf) 26));obtain⟨bx,hbx⟩:=Zn (w1.heap.size);obtain⟨b,hb⟩:=Zn (w1.heap.size+1);have s0:W0.heap.size=b:=by rw[hW0,World.size_alloc,hb]
 have KW:Hid (Keep w1 W):=by rw[hW,hW0];exact(Keep.one _ _:Keep w1 _).alloc _
 have BX:Hid (W.heap[bx]?=some (.cells #[.pointer (some ⟨qn,0,none⟩),.pointer (some ⟨qp,0,none⟩)] 96 (0,0))):=by show _=_;rw[hW,hW0,hbx];exact(Keep.one _ _).block (heap_alloc_new _ _)
 have Y:Hid (W.heap[b]?=some (.cells (zac zaf) 26 (0,0))):=by show _=_;rw[hW,<- s0];exact heap_alloc_new _ _
 have h1:=h.keep KW.out;have cG:Hid (Calls Tryz.prog 102 #[.pointer (some ⟨qp,0,none⟩),.int .i64 id] W fun e w'=>∃ r,e=.returned (.tuple #[r.val,.bool (decide (id∈keys L))])/\nm r=getL L id/\zah w' r/\Req w' W.heap.size r/\Keep W w'):=zfy.get id h1.os hid h1.m1000
 have cN:Hid (∀ W',Keep W W'->Calls Tryz.prog 105 #[.pointer (some ⟨qn,0,none⟩),.int .i64 nd] W' fun e w'=>∃ k A n c,e=.returned (.tuple #[.agg #[.int .i64 k,.slice A n c],.bool (decide (nd∈nk M))])/\Keep W w'/\Keep W' w'):=fun W' k2=>by
  have h2:=h1.keep k2
  by_cases hk:nd∈nk M
  ·rw[decide_eq_true hk]
   refine(zov h2.on nd (by rw[h2.keys];exact hk)).mono ?_
   rintro e w' ⟨A,c,he,r,k3⟩;exact⟨nd,A,d,c,he,k2.trans k3,k3⟩
  ·rw[decide_eq_false hk]
   refine(znc h2.on nd (by rw[h2.keys];exact hk)).mono ?_
   rintro e w' ⟨he,k3⟩;exact⟨0,none,0,0,he,k2.trans k3,k3⟩
 have cE:Hid (∀ c n W,Calls Tryz.prog 57 #[.int .i64 c,.int .i64 n] W fun e w'=>e=.returned (.iface 148 (.agg #[.int .i64 c,.int .i64 n]))/\W=w'):=fun c n W=>zgd c n W
 have cFin:Hid (∀ W',Keep W W'->(put9 W' b zaf).heap[b]?=some (.cells (zac zaf) 26 (0,0))/\Keep w1 (put9 W' b zaf)):=fun W' k2=>⟨zcp _ zaf (k2.block Y.out),zdi _ (KW.out.trans k2) (by omega)⟩
 have FIN:Hid (∀ w' r,Keep W w'->zah w' r->Req w' W.heap.size r->(put9 w' b r).heap[b]?=some (.cells (zac r) 26 (0,0))/\zah (put9 w' b r) r/\Req (put9 w' b r) w1.heap.size r/\Keep w1 (put9 w' b r)):=fun w' r k2 hi hr=>by
  have h3:=zwy hr (lt_of_block Y.out) r;exact⟨zcp _ zaf (k2.block Y.out),h3.is hi.ok,own_base' h3 KW.out.size,zdi _ (KW.out.trans k2) (by omega)⟩
 have YC:Hid (∀ w',Keep W w'->w'.heap[b]?=some (.cells (zac zaf) 26 (0,0))):=fun w' k=>k.block Y.out
 obtain⟨cx0,cx1,_⟩:=T12.cel2 BX.out;have hbW:b<W.heap.size:=lt_of_block Y.out;unfold zac zaf at hW;clear h;replace h1:=Zq h1;have cx0':=Zq cx0
 by_cases hk:id∉keys L
 ·have hc:ckC M L id nd ev=5:=by
   unfold ckC;rw[if_pos hk]
  have hi1:plI M L id nd=0:=if_neg fun hh=>hk hh.1
  rw[hc,hi1];replace hc:=Zq hc;replace hi1:=Zq hi1;unfold zdb;rw[if_neg (by decide)]
  unfold flt Base.val;rw[decide_eq_false hk] at cG;replace hk:=Zq hk
  go_enter Tryz.func65,Tryz.ntmps65
  go_wp2_with fail;rw[<- hW0,<- hW];try rw[<- hb]
  try rw[<- hbx]
  replace hW0:=Zq hW0;replace hW:=Zq hW;replace hb:=Zq hb;replace hbx:=Zq hbx;replace s0:=Zq s0;replace hbW:=Zq hbW;refine cG.out.mono ?_;rintro e w2 ⟨r,rfl,hn,hi,hr,k2⟩;obtain⟨W2,hW2⟩:=Zn (w2.alloc (.cells (zac r) 26));have K2:Hid (Keep W W2):=by rw[hW2];exact k2.alloc _
  have KA:Hid (Keep w2 W2):=by rw[hW2];exact Keep.one _ _
  have YP:Hid (W2.heap[w2.heap.size]?=some (.cells (zac r) 26 (0,0))):=by show _=_;rw[hW2];exact heap_alloc_new _ _
  have HI:=Zq (hi.keep KA.out);have HR:Hid (Req W2 W.heap.size r):=zal hr KA.out;have x0:=K2.out.cell cx0'.out;obtain⟨d0,d1,d2,d3,d4,d5,d6,d7,d8,g0⟩:=zae (YC.out W2 K2.out);unfold zaf at d0 d1 d2 d3 d4 d5 d6 d7 d8;unfold zac at hW2;rw[hW2] at x0 d0 d1 d2 d3 d4 d5 d6 d7 d8 g0;replace hn:=Zq hn;replace hi:=Zq hi;replace hr:=Zq hr;replace k2:=Zq k2;clear cx0 cx1;unfold zaa.val;go_wp2_with fail;rw[<- hW2] at *;refine(cE.out 5 0 _).mono ?_;rintro e w8 ⟨rfl,rfl⟩;go_wp2;obtain⟨z,kz⟩:=cFin.out W2 K2.out;obtain⟨e0,e1,e2,e3,e4,e5,e6,e7,e8,_⟩:=zae z;unfold put9 zaf at *;refine bodyPost_ret (v:=.tuple #[.agg #[.int .i64 0,.int .i64 0,.bool false,.int .i64 0,.slice none 0 0,.int .i64 0,.int .i64 0,.int .i64 0,.int .i64 0],.iface 148 (.agg #[.int .i64 5,.int .i64 0])]) (by simp[results,Tryz.results65,go_sem,e0,e1,e2,e3,e4,e5,e6,e7,e8]) rfl ⟨zaf,rfl,fun h=>absurd h (by decide),fun _=>rfl,zcb _,zby _ _,kz⟩
 replace hk:=Classical.not_not.1 hk
 by_cases hn0:nd∉nk M
 ·have hc:ckC M L id nd ev=5:=by
   unfold ckC;rw[if_neg (not_not_intro hk),if_pos hn0]
  have hi1:plI M L id nd=1:=if_pos ⟨hk,hn0⟩;rw[hc,hi1];replace hc:=Zq hc;replace hi1:=Zq hi1;unfold zdb;rw[if_neg (by decide)]
  unfold flt Base.val;rw[decide_eq_true hk] at cG;rw[decide_eq_false hn0] at cN;replace hk:=Zq hk;replace hn0:=Zq hn0
  go_enter Tryz.func65,Tryz.ntmps65
  go_wp2_with fail;rw[<- hW0,<- hW];try rw[<- hb]
  try rw[<- hbx]
  replace hW0:=Zq hW0;replace hW:=Zq hW;replace hb:=Zq hb;replace hbx:=Zq hbx;replace s0:=Zq s0;replace hbW:=Zq hbW;refine cG.out.mono ?_;rintro e w2 ⟨r,rfl,hn,hi,hr,k2⟩;obtain⟨W2,hW2⟩:=Zn (w2.alloc (.cells (zac r) 26));have K2:Hid (Keep W W2):=by rw[hW2];exact k2.alloc _
  have KA:Hid (Keep w2 W2):=by rw[hW2];exact Keep.one _ _
  have YP:Hid (W2.heap[w2.heap.size]?=some (.cells (zac r) 26 (0,0))):=by show _=_;rw[hW2];exact heap_alloc_new _ _
  have HI:=Zq (hi.keep KA.out);have HR:Hid (Req W2 W.heap.size r):=zal hr KA.out;have x0:=K2.out.cell cx0'.out;obtain⟨d0,d1,d2,d3,d4,d5,d6,d7,d8,g0⟩:=zae (YC.out W2 K2.out);unfold zaf at d0 d1 d2 d3 d4 d5 d6 d7 d8;unfold zac at hW2;rw[hW2] at x0 d0 d1 d2 d3 d4 d5 d6 d7 d8 g0;replace hn:=Zq hn;replace hi:=Zq hi;replace hr:=Zq hr;replace k2:=Zq k2;clear cx0 cx1;unfold zaa.val;go_wp2_with fail;rw[<- hW2] at *;refine(cN.out W2 K2.out).mono ?_;rintro e w3 ⟨nk3,nA3,nn3,nc3,rfl,k3,k23⟩;obtain⟨W3,hW3⟩:=Zn (w3.alloc (.cells #[.int .i64 nk3,.slice nA3 nn3 nc3] 56));have K3:Hid (Keep W W3):=by rw[hW3];exact k3.alloc _
  have K23:Hid (Keep W2 W3):=by rw[hW3];exact k23.alloc _
  clear d0 d1 d2 d3 d4 d5 d6 d7 d8 g0 x0;obtain⟨d0,d1,d2,d3,d4,d5,d6,d7,d8,g0⟩:=zae (YC.out W3 K3.out);unfold zaf at d0 d1 d2 d3 d4 d5 d6 d7 d8;have x6:=(zae (K23.out.block YP.out)).e6;rw[hW3] at x6 d0 d1 d2 d3 d4 d5 d6 d7 d8 g0;replace k3:=Zq k3;replace k23:=Zq k23;go_wp2_with fail;rw[<- hW3] at *;refine(cE.out 5 1 _).mono ?_;rintro e w8 ⟨rfl,rfl⟩;go_wp2;obtain⟨z,kz⟩:=cFin.out W3 K3.out;obtain⟨e0,e1,e2,e3,e4,e5,e6,e7,e8,_⟩:=zae z;unfold put9 zaf at *;refine bodyPost_ret (v:=.tuple #[.agg #[.int .i64 0,.int .i64 0,.bool false,.int .i64 0,.slice none 0 0,.int .i64 0,.int .i64 0,.int .i64 0,.int .i64 0],.iface 148 (.agg #[.int .i64 5,.int .i64 1])]) (by simp[results,Tryz.results65,go_sem,e0,e1,e2,e3,e4,e5,e6,e7,e8]) rfl ⟨zaf,rfl,fun h=>absurd h (by decide),fun _=>rfl,zcb _,zby _ _,kz⟩
 replace hn0:=Classical.not_not.1 hn0
 by_cases hx:nx (getL L id).h ev=0
 ·have hc:ckC M L id nd ev=8:=by
   unfold ckC;rw[if_neg (not_not_intro hk),if_neg (not_not_intro hn0),if_pos hx]
  have hi1:plI M L id nd=0:=if_neg fun hh=>hh.2 hn0
  rw[hc,hi1];replace hc:=Zq hc;replace hi1:=Zq hi1;unfold zdb;rw[if_neg (by decide)]
  unfold flt Base.val;rw[decide_eq_true hk] at cG;rw[decide_eq_true hn0] at cN;replace hk:=Zq hk;replace hn0:=Zq hn0;have cX:Hid (∀ (r:zaa) W',nm r=getL L id->Calls Tryz.prog 106 #[.int .i64 r.h,.int .i64 ev] W' fun e w'=>e=.returned (.tuple #[.int .i64 0,.bool false])/\Keep W' w'):=fun r W' hn=>by
   have e:nx r.h ev=0:=by rw[<- hx,<- hn];rfl
   have:=zic r.h ev W';rw[e] at this;exact this
  replace hx:=Zq hx
  go_enter Tryz.func65,Tryz.ntmps65
  go_wp2_with fail;rw[<- hW0,<- hW];try rw[<- hb]
  try rw[<- hbx]
  replace hW0:=Zq hW0;replace hW:=Zq hW;replace hb:=Zq hb;replace hbx:=Zq hbx;replace s0:=Zq s0;replace hbW:=Zq hbW;refine cG.out.mono ?_;rintro e w2 ⟨r,rfl,hn,hi,hr,k2⟩;obtain⟨W2,hW2⟩:=Zn (w2.alloc (.cells (zac r) 26));have K2:Hid (Keep W W2):=by rw[hW2];exact k2.alloc _
  have KA:Hid (Keep w2 W2):=by rw[hW2];exact Keep.one _ _
  have YP:Hid (W2.heap[w2.heap.size]?=some (.cells (zac r) 26 (0,0))):=by show _=_;rw[hW2];exact heap_alloc_new _ _
  have HI:=Zq (hi.keep KA.out);have HR:Hid (Req W2 W.heap.size r):=zal hr KA.out;have x0:=K2.out.cell cx0'.out;obtain⟨d0,d1,d2,d3,d4,d5,d6,d7,d8,g0⟩:=zae (YC.out W2 K2.out);unfold zaf at d0 d1 d2 d3 d4 d5 d6 d7 d8;unfold zac at hW2;rw[hW2] at x0 d0 d1 d2 d3 d4 d5 d6 d7 d8 g0;replace hn:=Zq hn;replace hi:=Zq hi;replace hr:=Zq hr;replace k2:=Zq k2;clear cx0 cx1;unfold zaa.val;go_wp2_with fail;rw[<- hW2] at *;refine(cN.out W2 K2.out).mono ?_;rintro e w3 ⟨nk3,nA3,nn3,nc3,rfl,k3,k23⟩;obtain⟨W3,hW3⟩:=Zn (w3.alloc (.cells #[.int .i64 nk3,.slice nA3 nn3 nc3] 56));have K3:Hid (Keep W W3):=by rw[hW3];exact k3.alloc _
  have K23:Hid (Keep W2 W3):=by rw[hW3];exact k23.alloc _
  clear d0 d1 d2 d3 d4 d5 d6 d7 d8 g0 x0;obtain⟨d0,d1,d2,d3,d4,d5,d6,d7,d8,g0⟩:=zae (YC.out W3 K3.out);unfold zaf at d0 d1 d2 d3 d4 d5 d6 d7 d8;have x6:=(zae (K23.out.block YP.out)).e6;rw[hW3] at x6 d0 d1 d2 d3 d4 d5 d6 d7 d8 g0;replace k3:=Zq k3;replace k23:=Zq k23;go_wp2_with fail;rw[<- hW3] at *;refine(cX.out r W3 hn.out).mono ?_;rintro e w4 ⟨rfl,k4⟩;have K4:Hid (Keep W w4):=K3.out.trans k4;replace k4:=Zq k4;clear d0 d1 d2 d3 d4 d5 d6 d7 d8 g0 x6;obtain⟨d0,d1,d2,d3,d4,d5,d6,d7,d8,g0⟩:=zae (YC.out w4 K4.out);unfold zaf at d0 d1 d2 d3 d4 d5 d6 d7 d8;go_wp2_with fail;refine(cE.out 8 0 _).mono ?_;rintro e w8 ⟨rfl,rfl⟩;go_wp2;obtain⟨z,kz⟩:=cFin.out w4 K4.out;obtain⟨e0,e1,e2,e3,e4,e5,e6,e7,e8,_⟩:=zae z;unfold put9 zaf at *;refine bodyPost_ret (v:=.tuple #[.agg #[.int .i64 0,.int .i64 0,.bool false,.int .i64 0,.slice none 0 0,.int .i64 0,.int .i64 0,.int .i64 0,.int .i64 0],.iface 148 (.agg #[.int .i64 8,.int .i64 0])]) (by simp[results,Tryz.results65,go_sem,e0,e1,e2,e3,e4,e5,e6,e7,e8]) rfl ⟨zaf,rfl,fun h=>absurd h (by decide),fun _=>rfl,zcb _,zby _ _,kz⟩
 ·have hc:ckC M L id nd ev=0:=by
   unfold ckC;rw[if_neg (not_not_intro hk),if_neg (not_not_intro hn0),if_neg hx]
  have hi1:plI M L id nd=0:=if_neg fun hh=>hh.2 hn0
  rw[hc,hi1];replace hc:=Zq hc;replace hi1:=Zq hi1;unfold zdb;rw[if_pos rfl];rw[decide_eq_true hk] at cG;rw[decide_eq_true hn0] at cN;replace hk:=Zq hk;replace hn0:=Zq hn0;have cX:Hid (∀ (r:zaa) W',nm r=getL L id->Calls Tryz.prog 106 #[.int .i64 r.h,.int .i64 ev] W' fun e w'=>∃ z,e=.returned (.tuple #[.int .i64 z,.bool true])/\Keep W' w'):=fun r W' hn=>by
   have e:¬nx r.h ev=0:=by
    have e2:r.h=(getL L id).h:=by rw[<- hn];rfl
    rw[e2];exact hx
   have:=zic r.h ev W';rw[decide_eq_true e] at this;exact this.mono fun _ _ h=>⟨_,h⟩
  replace hx:=Zq hx
  go_enter Tryz.func65,Tryz.ntmps65
  go_wp2_with fail;rw[<- hW0,<- hW];try rw[<- hb]
  try rw[<- hbx]
  replace hW0:=Zq hW0;replace hW:=Zq hW;replace hb:=Zq hb;replace hbx:=Zq hbx;replace s0:=Zq s0;replace hbW:=Zq hbW;refine cG.out.mono ?_;rintro e w2 ⟨r,rfl,hn,hi,hr,k2⟩;obtain⟨W2,hW2⟩:=Zn (w2.alloc (.cells (zac r) 26));have K2:Hid (Keep W W2):=by rw[hW2];exact k2.alloc _
  have KA:Hid (Keep w2 W2):=by rw[hW2];exact Keep.one _ _
  have YP:Hid (W2.heap[w2.heap.size]?=some (.cells (zac r) 26 (0,0))):=by show _=_;rw[hW2];exact heap_alloc_new _ _
  have HI:=Zq (hi.keep KA.out);have HR:Hid (Req W2 W.heap.size r):=zal hr KA.out;have x0:=K2.out.cell cx0'.out;obtain⟨d0,d1,d2,d3,d4,d5,d6,d7,d8,g0⟩:=zae (YC.out W2 K2.out);unfold zaf at d0 d1 d2 d3 d4 d5 d6 d7 d8;unfold zac at hW2;rw[hW2] at x0 d0 d1 d2 d3 d4 d5 d6 d7 d8 g0;replace hn:=Zq hn;replace hi:=Zq hi;replace hr:=Zq hr;replace k2:=Zq k2;clear cx0 cx1;unfold zaa.val;go_wp2_with fail;rw[<- hW2] at *;refine(cN.out W2 K2.out).mono ?_;rintro e w3 ⟨nk3,nA3,nn3,nc3,rfl,k3,k23⟩;obtain⟨W3,hW3⟩:=Zn (w3.alloc (.cells #[.int .i64 nk3,.slice nA3 nn3 nc3] 56));have K3:Hid (Keep W W3):=by rw[hW3];exact k3.alloc _
  have K23:Hid (Keep W2 W3):=by rw[hW3];exact k23.alloc _
  clear d0 d1 d2 d3 d4 d5 d6 d7 d8 g0 x0;obtain⟨d0,d1,d2,d3,d4,d5,d6,d7,d8,g0⟩:=zae (YC.out W3 K3.out);unfold zaf at d0 d1 d2 d3 d4 d5 d6 d7 d8;have x6:=(zae (K23.out.block YP.out)).e6;rw[hW3] at x6 d0 d1 d2 d3 d4 d5 d6 d7 d8 g0;replace k3:=Zq k3;replace k23:=Zq k23;go_wp2_with fail;rw[<- hW3] at *;refine(cX.out r W3 hn.out).mono ?_;rintro e w4 ⟨z,rfl,k4⟩;have K4:Hid (Keep W w4):=K3.out.trans k4;have K24:Hid (Keep W2 w4):=K23.out.trans k4;replace k4:=Zq k4;clear d0 d1 d2 d3 d4 d5 d6 d7 d8 g0 x6;obtain⟨d0,d1,d2,d3,d4,d5,d6,d7,d8,g0⟩:=zae (YC.out w4 K4.out);unfold zaf at d0 d1 d2 d3 d4 d5 d6 d7 d8;obtain⟨x0,x1,x2,x3,x4,x5,x6,x7,x8,xg⟩:=zae (K24.out.block YP.out);go_wp2;obtain⟨zb,zi,zr,kz⟩:=FIN.out w4 r K4.out (HI.out.keep K24.out) (zal HR.out K24.out);obtain⟨e0,e1,e2,e3,e4,e5,e6,e7,e8,_⟩:=zae zb;unfold put9 at *;refine bodyPost_ret (v:=.tuple #[.agg #[.int .i64 r.k,.int .i64 r.p,.bool r.f,.int .i64 r.g,.slice r.A r.m r.c,.int .i64 r.a,.int .i64 r.h,.int .i64 r.d,.int .i64 r.t],.nilIface]) (by simp[results,Tryz.results65,go_sem,e0,e1,e2,e3,e4,e5,e6,e7,e8]) rfl ⟨r,rfl,fun _=>hn.out,fun h=>absurd rfl h,zi,zr,kz⟩
end
end Go.Proofs.YtcogiogjpbkeaaaGreatDoor.T14
