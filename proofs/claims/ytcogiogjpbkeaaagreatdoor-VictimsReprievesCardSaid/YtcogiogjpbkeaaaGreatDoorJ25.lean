/-
  The store: Add. Conditions: errors.errorType holds its own; at most 1000 amounts, 64 dimensions.
  The store: Add in one form; Drop. Conditions: errors.errorType holds its own; at most 1000 amounts, 64 dimensions.
  A store of nodes beside blocks of others: its contracts. Condition: errors.errorType holds its own (for Add).
  A map of numbers to values: a value put in place of another; a table's blocks. No condition.
-/
import Derived.Test.YtcogiogjpbkeaaaGreatDoorJ0
import Derived.Test.YtcogiogjpbkeaaaGreatDoorJ24
import Derived.Test.YtcogiogjpbkeaaaGreatDoorJ8
namespace Go.Proofs.YtcogiogjpbkeaaaGreatDoor.T12
open Go.RowKit Go.Sort Go.Lib V12
section
variable{w w':World}{d:Nat}{s:Int}{q t m:Nat}{E:List EnV}
theorem akn{W:World}{g n:Nat}(h:W.heap[g]?=some (.cells (madeCells #[.int .i64 0] n) 2 (0,0)))(hn:n<=1000):Rd W (some ⟨g,0,none⟩) n fun _=>0:=by
 refine⟨by omega,fun _ _=>by decide,fun _=>⟨g,0,rfl,fun j hj=>?_⟩⟩
 have hs:(madeCells #[.int .i64 0] n).size=n:=by simp[madeCells]
 rw[Nat.zero_add,cell_of_row W g j _ _ _ h,Array.getElem?_eq_getElem (by omega)]
 simp[madeCells,Nat.mod_one]
theorem zero_row(n:Nat)(w:World)(hn:n<=1000):Calls Tryz.prog 93 #[.int .i64 n] w fun e w'=>∃ g,e=.returned (.slice (some ⟨g,0,none⟩) n n)/\Row w w' (some ⟨g,0,none⟩) n n (fun _=>0)/\Keep w w':=by
 refine(zme n w (by omega)).mono ?_
 rintro e w' ⟨rfl,rfl⟩;have hb:=heap_alloc_new w (.cells (madeCells #[.int .i64 0] n) 2)
 exact⟨_,rfl,⟨akn hb hn,(fun e=>by cases e),fun _=>⟨_,0,rfl,Nat.le_refl _,fun j _=>frozen_of_row _ _ _ _ _ hb⟩,fun _ b o e=>by
  simp only[Option.some.injEq,Addr.mk.injEq,and_true] at e;rw[<- e.1]
  exact⟨_,_,hb⟩⟩,Keep.one _ _⟩
theorem aef(h:SC w d s q t m E)(x:EnV)(hx:EIs w d x):Calls Tryz.prog 91 #[.pointer (some ⟨t,0,none⟩),.int .i64 x.k,.pointer (some ⟨x.p,0,none⟩)] w fun e w'=>e=.returned (zuh (if x.k∈zcw E then 6 else if s<=E.length then 7 else 0))/\SC w' d s q t m (if x.k∈zcw E then E else if s<=E.length then E else G.ins EnV.k x E)/\Fr (·=m) w w':=by
 have hl:=h.len
 by_cases hk:x.k∈zcw E
 ·simp only[if_pos hk]
  unfold zuh;rw[if_neg (by decide)]
  exact(aeg h x.k x.p hk).mono fun _ _ ⟨he,hw⟩=>⟨he,by rw[<- hw];exact h,by rw[<- hw];exact Fr.refl _ _⟩
 ·simp only[if_neg hk]
  by_cases hf:s<=(E.length:Int)
  ·simp only[if_pos hf]
   unfold zuh;rw[if_neg (by decide)]
   exact(zzk h x.k x.p hk (by omega)).mono fun _ _ ⟨he,hw⟩=>⟨he,h.keep hw.keep,Fr.of hw.keep⟩
  ·simp only[if_neg hf]
   unfold zuh;rw[if_pos rfl];exact aeh h x hx hk (by omega)
set_option maxRecDepth 100000 in
set_option maxHeartbeats 4000000 in
theorem zus(h:SC w d s q t m E)(k:Int)(A:Option Addr)(n c:Nat)(Z:Nat->Int)(hA:Rd w A n Z)(hw:0<=zak n Z d):
  Calls Tryz.prog 55 #[.pointer (some ⟨q,0,none⟩),.agg #[.int .i64 k,.slice A n c]] w fun e w'=>e=.returned (flt 3 (zak n Z d))/\Keep w w':=by
 obtain⟨W,hW⟩:=Zn (w.alloc (.cells #[.int .i64 k,.slice A n c] 56));have KW:Hid (Keep w W):=by rw[hW];exact Keep.one _ _
 obtain⟨b,hb⟩:=Zn (w.heap.size);have Y:W.heap[b]?=some (.cells #[.int .i64 k,.slice A n c] 56 (0,0)):=by rw[hW,hb];exact heap_alloc_new _ _
 obtain⟨y0,y1,yf⟩:=cel2 Y;have c0:=(h.keep KW.out).c0;have cW:Hid (∀ W',Keep W W'->Calls Tryz.prog 85 #[.slice A n c,.int .i64 d] W' fun e w'=>e=.returned (.int .i64 (zak n Z d))/\Keep W' w'):=fun W' k=>(zfv A n c Z d W' (hA.keep (KW.out.trans k))).mono fun _ _ ⟨he,e⟩=>⟨he,by rw[e];exact Keep.refl _⟩
 have hn:=Zq (fun y W=>zgd 3 y W)
 obtain⟨g,hg⟩:=Zn (zak n Z d);rw[<- hg] at cW hw ⊢;replace hg:=Zq hg;unfold flt;replace Y:=Zq Y;clear h hA
 go_enter Tryz.func55,Tryz.ntmps55
 go_wp2_with fail;rw[<- hW,<- hb];replace hW:=Zq hW;replace hb:=Zq hb
 go_region_held3 (fun w'=>w'.cell? ⟨b,1,none⟩=some (.slice A n c)/\w'.cell? ⟨q,0,none⟩=some (.int .i64 d))
  (first
   | ((refine(fun (KK:Keep W _)=>⟨KK.cell y1,KK.cell c0⟩) ?_;repeat (with_reducible first | exact Keep.refl W | apply Keep.drew | apply Keep.drewN | exact k6.out));done))
  (first | (go_at_call 85;refine(cW.out _ (by repeat (with_reducible first | exact Keep.refl W | apply Keep.drew | apply Keep.drewN))).mono ?_;rintro e w6 ⟨rfl,k6'⟩;have k6:Hid (Keep W w6):=Keep.trans (by repeat (with_reducible first | exact Keep.refl W | apply Keep.drew | apply Keep.drewN)) k6';replace k6':=Zq k6'))
 all_goals
  clear y0 y1 c0 cW;go_wp2_with fail;refine(hn.out _ _).mono ?_;rintro e w7 ⟨rfl,rfl⟩;go_wp2;go_ret
  exact⟨rfl,KW.out.trans k6.out⟩
def afb(W w':World)(d:Nat)(s:Int)(q t m:Nat)(E:List EnV)(k:Int)(Z:Nat->Int):Prop :=
 ∃ x:EnV,x.k=k/\x.C=Z/\x.U=(fun _=>0)/\SC w' d s q t m (if k∈zcw E then E else if s<=E.length then E else G.ins EnV.k x E)/\FrS (·=m) W w' /\
  W.heap.size<=x.p/\(0<d->∃ b o,x.A=some ⟨b,o,none⟩/\W.heap.size<=b)/\(0<d->∃ b o,x.B=some ⟨b,o,none⟩/\W.heap.size<=b)
set_option maxRecDepth 100000 in
set_option maxHeartbeats 16000000 in
theorem ahf(h:SC w d s q t m E)(hg:zbk w)(k:Int)(A:Option Addr)(c:Nat)(Z:Nat->Int)(hA:Rd w A d Z)(nilA:A=none->d=0/\c=0)(hw:¬0<=zak d Z d)(hk:I64 k)(hz:∀ j,j<d->0<=Z j/\Z j<=1099511627776)(hd:d<=64):
  Calls Tryz.prog 55 #[.pointer (some ⟨q,0,none⟩),.agg #[.int .i64 k,.slice A d c]] w fun e w'=>e=.returned (fltC (if k∈zcw E then 6 else if s<=E.length then 7 else 0) 0)/\afb w w' d s q t m E k Z:=by
 obtain⟨W,hW⟩:=Zn (w.alloc (.cells #[.int .i64 k,.slice A d c] 56));have KW:Hid (Keep w W):=by rw[hW];exact Keep.one _ _
 obtain⟨b,hb⟩:=Zn (w.heap.size);have Y:W.heap[b]?=some (.cells #[.int .i64 k,.slice A d c] 56 (0,0)):=by rw[hW,hb];exact heap_alloc_new _ _
 obtain⟨y0,y1,yf⟩:=cel2 Y;have hW1:=h.keep KW.out;have c0:=hW1.c0;have c1:=hW1.c1;have nq:=hW1.qm;have nbm:¬b=m:=hW1.off (a:=⟨b,0,none⟩) y0;have cW:Hid (∀ W',Keep W W'->Calls Tryz.prog 85 #[.slice A d c,.int .i64 d] W' fun e w'=>e=.returned (.int .i64 (zak d Z d))/\Keep W' w'):=fun W' k=>(zfv A d c Z d W' (hA.keep (KW.out.trans k))).mono fun _ _ ⟨he,e⟩=>⟨he,by rw[e];exact Keep.refl _⟩
 have cC:Hid (∀ W',Keep W W'->Calls Tryz.prog 92 #[.agg #[.int .i64 k,.slice A d c]] W' fun e w'=>∃ A' c',e=.returned (.agg #[.int .i64 k,.slice A' d c'])/\Row W w' A' d c' Z/\Keep W w'):=fun W' k2=>(zrl k A d c Z W' (hA.keep (KW.out.trans k2)) nilA (by omega)).mono fun _ _ ⟨A',c',he,r,k3⟩=>⟨A',c',he,r.low k2.size,k2.trans k3⟩
 have cZ:Hid (∀ W',Keep W W'->Calls Tryz.prog 93 #[.int .i64 d] W' fun e w'=>∃ g,e=.returned (.slice (some ⟨g,0,none⟩) d d)/\Row W w' (some ⟨g,0,none⟩) d d (fun _=>0)/\Keep W w'/\Keep W' w'):=fun W' k2=>(zero_row d W' (by omega)).mono fun _ _ ⟨g,he,r,k3⟩=>⟨g,he,r.low k2.size,k2.trans k3,k3⟩
 obtain⟨code,hcode⟩:∃ code:Int,code=if k∈zcw E then 6 else if s<=E.length then 7 else 0:=⟨_,rfl⟩
 obtain⟨ev,hev⟩:=Zn (zuh code);obtain⟨fv,hfv⟩:=Zn (fltC code 0)
 have cT:Hid (∀ W' A' c' g p,Keep W W'->Row W W' A' d c' Z->Row W W' (some ⟨g,0,none⟩) d d (fun _=>0)->W'.heap[p]?=some (.cells #[.int .i64 k,.slice A' d c',.slice (some ⟨g,0,none⟩) d d] 145 (0,0))->W.heap.size<=p ->
   Calls Tryz.prog 91 #[.pointer (some ⟨t,0,none⟩),.int .i64 k,.pointer (some ⟨p,0,none⟩)] W' fun e w'=>e=.returned ev/\Fr (·=m) W' w'/\zbk w'/\afb W w' d s q t m E k Z):=fun W' A' c' g p k2 ra rb hp hpl=>by
  have h2:=hW1.keep k2;have gT:zbk W':=hg.keep (KW.out.trans k2);refine(aef h2 ⟨k,p,A',c',Z,some ⟨g,0,none⟩,d,fun _=>0⟩ ⟨hp,ra.rd,rb.rd,ra.nil,(fun e=>by cases e),ra.ty,rb.ty,⟨hk,fun j _=>Int.le_refl 0,fun j hj=>(hz j hj).1,fun j hj=>(hz j hj).2⟩⟩).mono ?_
  rintro e w' ⟨he,hs,hf⟩;refine⟨by rw[hev,hcode];exact he,hf,hf.cell gT (h2.off gT),⟨k,p,A',c',Z,some ⟨g,0,none⟩,d,fun _=>0⟩,rfl,rfl,rfl,hs,FrS.after k2 (ajy h2 hf fun _ e=>e),hpl,fun hd0=>?_,fun hd0=>?_⟩
  ·obtain⟨b2,o2,e2,hb2,_⟩:=ra.new hd0
   exact⟨b2,o2,e2,hb2⟩
  ·obtain⟨b2,o2,e2,hb2,_⟩:=rb.new hd0
   exact⟨b2,o2,e2,hb2⟩
 have cL:Hid (∀ W',zbk W'->Calls Tryz.prog 90 #[ev] W' fun e w'=>e=.returned fv/\Keep W' w'):=fun W' g=>by rw[hev,hfv];exact zup code W' g
 have hsz:=KW.out.size;have fin:Hid (∀ w',afb W w' d s q t m E k Z->∀ w2,Keep w' w2->Ending.returned fv=.returned (fltC code 0)/\afb w w2 d s q t m E k Z):=by
  rintro w' ⟨x,e1,e2,e3,hs,hf,hp,hA',hB'⟩ w2 k2;refine⟨by rw[hfv],x,e1,e2,e3,hs.keep k2,FrS.after KW.out (hf.keep k2),by omega,fun h0=>?_,fun h0=>?_⟩
  ·obtain⟨b2,o2,e,hb2⟩:=hA' h0
   exact⟨b2,o2,e,by omega⟩
  ·obtain⟨b2,o2,e,hb2⟩:=hB' h0
   exact⟨b2,o2,e,by omega⟩
 rw[<- hcode];obtain⟨g,hgg⟩:=Zn (zak d Z d);rw[<- hgg] at cW hw;replace hgg:=Zq hgg;replace hcode:=Zq hcode;replace hev:=Zq hev;replace hfv:=Zq hfv;replace Y:=Zq Y;replace nq:=Zq nq;replace nbm:=Zq nbm;replace hz:=Zq hz;clear h hA hW1 nilA hg hk
 go_enter Tryz.func55,Tryz.ntmps55
 go_wp2_with fail;rw[<- hW,<- hb];replace hW:=Zq hW;replace hb:=Zq hb
 go_region_held3 (fun w'=>w'.cell? ⟨b,1,none⟩=some (.slice A d c)/\w'.cell? ⟨q,0,none⟩=some (.int .i64 d))
  (first
   | ((refine(fun (KK:Keep W _)=>⟨KK.cell y1,KK.cell c0⟩) ?_;repeat (with_reducible first | exact Keep.refl W | apply Keep.drew | apply Keep.drewN | exact k6.out));done))
  (first | (go_at_call 85;refine(cW.out _ (by repeat (with_reducible first | exact Keep.refl W | apply Keep.drew | apply Keep.drewN))).mono ?_;rintro e w6 ⟨rfl,k6'⟩;have k6:Hid (Keep W w6):=Keep.trans (by repeat (with_reducible first | exact Keep.refl W | apply Keep.drew | apply Keep.drewN)) k6';replace k6':=Zq k6'))
 have HH:Hid (∀ Wz,Keep W Wz->(Wz.cell? ⟨q,1,none⟩=some (.pointer (some ⟨t,0,none⟩))/\Wz.cell? ⟨q,0,none⟩=some (.int .i64 d)/\Wz.cell? ⟨b,0,none⟩=some (.int .i64 k)/\Wz.cell? ⟨b,1,none⟩=some (.slice A d c))):=fun Wz KK=>⟨KK.cell c1,KK.cell c0,KK.cell y0,KK.cell y1⟩
 have hbl:=zbl (k6.out.cell y0);clear y0 y1 c0 c1 cW;go_wp2_with fail;have HELD:∀ Wz,Keep W Wz->(Wz.cell? ⟨q,1,none⟩=some (.pointer (some ⟨t,0,none⟩))/\Wz.cell? ⟨q,0,none⟩=some (.int .i64 d)/\Wz.cell? ⟨b,0,none⟩=some (.int .i64 k)/\Wz.cell? ⟨b,1,none⟩=some (.slice A d c)):=fun Wz KK=>HH.out Wz KK
 refine wp_region_held_drew (S:=fun w'=>w'.cell? ⟨q,1,none⟩=some (.pointer (some ⟨t,0,none⟩))/\w'.cell? ⟨q,0,none⟩=some (.int .i64 d)/\w'.cell? ⟨b,0,none⟩=some (.int .i64 k)/\w'.cell? ⟨b,1,none⟩=some (.slice A d c)) (by kernel_rfl) ?_ (fun hHeld=>?_)
 ·exact HELD _ (by repeat (with_reducible first | exact Keep.refl W | apply Keep.alloc | apply Keep.drew | apply Keep.drewN | (refine Keep.trans ?_ k6.out)))
 refine Zt 0 (.pointer (some ⟨q,0,none⟩)) hHeld ?_
 simp only[Act.put,Zp];refine Zt 1 (.pointer (some ⟨q,0,none⟩)) hHeld ?_
 simp only[Act.put,Zp];refine Zt 2 (.pointer (some ⟨q,1,none⟩)) hHeld ?_
 simp only[Act.put,Zp];refine Zt 3 (.pointer (some ⟨t,0,none⟩)) hHeld ?_
 simp only[Act.put,Zp];refine Zt 4 (.pointer (some ⟨b,0,none⟩)) hHeld ?_
 simp only[Act.put,Zp];refine Zt 5 (.int .i64 k) hHeld ?_
 simp only[Act.put,Zp];refine Zt 6 (.agg #[.int .i64 k,.slice A d c]) hHeld ?_
 simp only[Act.put,Zp];refine Zt 8 (.pointer (some ⟨q,0,none⟩)) hHeld ?_
 simp only[Act.put,Zp];refine Zt 9 (.pointer (some ⟨q,0,none⟩)) hHeld ?_
 simp only[Act.put,Zp];refine Zt 10 (.pointer (some ⟨q,0,none⟩)) hHeld ?_
 simp only[Act.put,Zp];refine Zt 11 (.int .i64 d) hHeld ?_
 simp only[Act.put,Zp];refine wpAnyH_ready (rs:=[7]) (by kernel_rfl) (by simp) ?_
 refine AllReadyH.cons rfl (fun K hK=>?_) AllReadyH.nil
 simp only[Zp];rw[if_pos (by rfl)]
 go_simp
 refine(cC.out _ (by repeat (with_reducible first | exact Keep.refl W | apply Keep.alloc | apply Keep.drew | apply Keep.drewN | (refine Keep.trans ?_ k6.out)))).mono ?_
 rintro e w7 ⟨A7,c7,rfl,r7,k7⟩;replace r7:=Zq r7;replace k7:=Zq k7;go_wp2_with fail;refine hK.out _ _ ?_ (fun hHeld=>?_)
 ·exact HELD _ k7.out
 clear hK K;try simp only[Act.put,Zp]
 refine wpAnyH_ready (rs:=[12]) (by kernel_rfl) (by simp) ?_
 refine AllReadyH.cons rfl (fun K hK=>?_) AllReadyH.nil
 simp only[Zp];rw[if_pos (by rfl)]
 go_simp
 refine(cZ.out _ (by repeat (with_reducible first | exact Keep.refl W | apply Keep.alloc | apply Keep.drew | apply Keep.drewN | (refine Keep.trans ?_ k7.out) | (refine Keep.trans ?_ k6.out)))).mono ?_
 rintro e w8 ⟨g8,rfl,r8,k8,kk⟩;replace r8:=Zq r8;have r7':Hid (Row W w8 A7 d c7 Z):=r7.out.keep (Keep.trans (by repeat (with_reducible first | exact Keep.refl w7 | apply Keep.drew | apply Keep.drewN)) kk);replace k8:=Zq k8;replace kk:=Zq kk
 go_wp2_with fail;refine hK.out _ _ ?_ (fun hHeld=>?_)
 ·exact HELD _ k8.out
 clear hK K;try simp only[Act.put,Zp]
 refine Zt 13 (.agg #[.int .i64 k,.slice A7 d c7,.slice (some ⟨g8,0,none⟩) d d]) hHeld ?_
 simp only[Act.put,Zp];refine wpAnyH_ready (rs:=[14]) (by kernel_rfl) (by simp) ?_
 refine AllReadyH.cons rfl (fun K hK=>?_) AllReadyH.nil
 simp only[Zp];rw[if_pos (by rfl)]
 go_simp
 refine hK.out _ _ ?_ (fun hHeld=>?_)
 ·exact HELD _ (by repeat (with_reducible first | exact Keep.refl W | apply Keep.alloc | apply Keep.drew | apply Keep.drewN | (refine Keep.trans ?_ k8.out) | (refine Keep.trans ?_ k7.out) | (refine Keep.trans ?_ k6.out)))
 clear hK K;try simp only[Act.put,Zp]
 refine wpAnyH_ready (rs:=[15]) (by kernel_rfl) (by simp) ?_
 refine AllReadyH.cons rfl (fun K hK=>?_) AllReadyH.nil
 simp only[Zp];rw[if_pos (by rfl)]
 go_simp
 refine(cT.out _ A7 c7 g8 w8.heap.size (by repeat (with_reducible first | exact Keep.refl W | apply Keep.alloc | apply Keep.drew | apply Keep.drewN | (refine Keep.trans ?_ k8.out) | (refine Keep.trans ?_ k7.out) | (refine Keep.trans ?_ k6.out))) (r7'.out.keep (by repeat (with_reducible first | exact Keep.refl w8 | apply Keep.alloc | apply Keep.drew | apply Keep.drewN))) (r8.out.keep (by repeat (with_reducible first | exact Keep.refl w8 | apply Keep.alloc | apply Keep.drew | apply Keep.drewN))) (heap_alloc_new _ _) k8.out.size).mono ?_
 rintro e w9 ⟨rfl,f9,g9,X9⟩;replace X9:=Zq X9;replace g9:=Zq g9;replace f9:=Zq f9;go_wp2_with fail;refine hK.out _ _ ?_ (fun hHeld=>?_)
 ·exact⟨f9.out.cell hHeld.1 nq.out,f9.out.cell hHeld.2.1 nq.out,f9.out.cell hHeld.2.2.1 nbm.out,f9.out.cell hHeld.2.2.2 nbm.out⟩
 clear hK K;try simp only[Act.put,Zp]
 refine wpAnyH_ready (rs:=[16]) (by kernel_rfl) (by simp) ?_
 refine AllReadyH.cons rfl (fun K hK=>?_) AllReadyH.nil
 simp only[Zp];rw[if_pos (by rfl)]
 go_simp
 refine(cL.out _ g9.out).mono ?_;rintro e w10 ⟨rfl,k10'⟩;have k10:Hid (Keep w9 w10):=Keep.trans (by repeat (with_reducible first | exact Keep.refl w9 | apply Keep.drew | apply Keep.drewN)) k10';replace k10':=Zq k10'
 go_wp2_with fail;refine hK.out _ _ ?_ (fun hHeld=>?_)
 ·exact⟨k10.out.cell hHeld.1,k10.out.cell hHeld.2.1,k10.out.cell hHeld.2.2.1,k10.out.cell hHeld.2.2.2⟩
 clear hK K;try simp only[Act.put,Zp]
 refine Zt 17 (fv) hHeld ?_
 simp only[Act.put,Zp];refine wpAnyH_done (by kernel_rfl) ?_ _
 go_wp2;go_ret
 refine fin.out w9 X9.out _ ?_
 repeat (with_reducible first | exact k10.out | apply Keep.drew | apply Keep.drewN)
end
end Go.Proofs.YtcogiogjpbkeaaaGreatDoor.T12
namespace Go.Proofs.YtcogiogjpbkeaaaGreatDoor.T12
open Go.RowKit Go.Sort Go.Lib V12
section
variable{w w':World}{d:Nat}{s:Int}{q t m:Nat}{E:List EnV}
theorem NodeV.ext'{a b:NodeV}(h1:a.k=b.k)(h2:a.C=b.C)(h3:a.U=b.U):a=b:=by cases a;cases b;cases h1;cases h2;cases h3;rfl
theorem nadd_fn(h:SC w d s q t m E)(hg:zbk w)(k:Int)(A:Option Addr)(n c:Nat)(Z:Nat->Int)(hA:Rd w A n Z)(nilA:A=none->n=0/\c=0)(hk:I64 k)(hd:d<=64):
  Calls Tryz.prog 55 #[.pointer (some ⟨q,0,none⟩),.agg #[.int .i64 k,.slice A n c]] w fun e w'=>e=.returned (fltC (addC (E.map EnV.nv) d s k n Z) (addI d n Z))/\After w w' d s q t m E (addL (E.map EnV.nv) d s k n Z):=by
 unfold addL addC addI;rw[nv_keys,List.length_map]
 by_cases hw:0<=zak n Z d
 ·simp only[if_pos hw]
  rw[if_neg (by decide)]
  refine(zus h k A n c Z hA hw).mono fun e w' ⟨he,hk⟩=>⟨?_,After.same h hk⟩
  rw[he];unfold fltC;rw[if_neg (by decide)]
 ·simp only[if_neg hw]
  obtain⟨rfl,hz⟩:=wrong_no hw;refine(ahf h hg k A c Z hA nilA hw hk hz hd).mono fun e w' ⟨he,x,e1,e2,e3,hs,hf,hp,ha,hb⟩=>⟨he,?_⟩
  have ev:x.nv=⟨k,Z,fun _=>0⟩:=NodeV.ext' e1 e2 e3
  have hf':FrS (DE m E) w w':=⟨hf.fr.less fun _ e=>Or.inl e,hf.int⟩
  by_cases h1:k∈zcw E
  ·simp only[if_pos h1] at hs ⊢
   rw[if_neg (by decide)]
   exact⟨E,hs,rfl,hf',fun _ h=>Or.inl h,fun _ h=>Or.inl h⟩
  ·simp only[if_neg h1] at hs ⊢
   by_cases h2:s<=(E.length:Int)
   ·simp only[if_pos h2] at hs ⊢
    rw[if_neg (by decide)]
    exact⟨E,hs,rfl,hf',fun _ h=>Or.inl h,fun _ h=>Or.inl h⟩
   ·simp only[if_neg h2] at hs ⊢
    rw[if_pos trivial];refine⟨_,hs,?_,hf',fun i hi=>?_,fun i hi=>?_⟩
    ·rw[G.map_ins (ka:=EnV.k) (kb:=NodeV.k) nv_k,ev]
    ·rcases hi with rfl | ⟨y,hy,rfl⟩
     ·exact Or.inl (Or.inl rfl)
     ·rcases G.ins_mem.1 hy with rfl | hy
      ·exact Or.inr hp
      ·exact Or.inl (Or.inr ⟨y,hy,rfl⟩)
    ·rcases hi with rfl | rfl | rfl | ⟨y,hy,h3⟩
     ·exact Or.inl (Or.inl rfl)
     ·exact Or.inl (Or.inr (Or.inl rfl))
     ·exact Or.inl (Or.inr (Or.inr (Or.inl rfl)))
     ·rcases G.ins_mem.1 hy with rfl | hy
      ·rcases h3 with rfl | ⟨hd,⟨o,h3⟩ | ⟨o,h3⟩⟩
       ·exact Or.inr hp
       ·obtain⟨b,o2,e,hb⟩:=ha hd
        rw[e] at h3;simp only[Option.some.injEq,Addr.mk.injEq,and_true] at h3;exact Or.inr (by omega)
       ·obtain⟨b,o2,e,hb⟩:=hb hd
        rw[e] at h3;simp only[Option.some.injEq,Addr.mk.injEq,and_true] at h3;exact Or.inr (by omega)
      ·exact Or.inl (Or.inr (Or.inr (Or.inr ⟨y,hy,h3⟩)))
end
end Go.Proofs.YtcogiogjpbkeaaaGreatDoor.T12
namespace Go.Proofs.YtcogiogjpbkeaaaGreatDoor.T14
open Go.RowKit Go.Sort Go.Lib V12 T13
def ON(w:World)(d:Nat)(s:Int)(q:Nat)(N:List T12.NodeV)(X:Nat->Prop)(w1:World):Prop :=
 ∃ t m E,T12.SC w1 d s q t m E/\E.map T12.EnV.nv=N/\d<=64/\Keep w w1/\(∀ i,T12.FE d q t m E i->w.heap.size<=i/\¬X i)/\∀ i,X i->i<w1.heap.size
section
variable{w w1 w2:World}{d:Nat}{s:Int}{q:Nat}{N:List T12.NodeV}{X Z:Nat->Prop}
theorem ON.kp(o:ON w d s q N X w1):Keep w w1:=by
 obtain⟨t,m,E,h,hL,hd,k,hF,hX⟩:=o;exact k
theorem ON.lt(o:ON w d s q N X w1):∀ i,X i->i<w1.heap.size:=by
 obtain⟨t,m,E,h,hL,hd,k,hF,hX⟩:=o;exact hX
theorem ON.d64(o:ON w d s q N X w1):d<=64:=by
 obtain⟨t,m,E,h,hL,hd,k,hF,hX⟩:=o;exact hd
theorem ON.srt(o:ON w d s q N X w1):T12.NSrt N:=by
 obtain⟨t,m,E,h,rfl,hd,k,hF,hX⟩:=o;exact(G.map_srt (ka:=T12.EnV.k) (kb:=T12.NodeV.k) T12.nv_k).2 h.srt
theorem ON.ok(o:ON w d s q N X w1):∀ x∈N,T12.NodeOk d x:=by
 obtain⟨t,m,E,h,rfl,hd,k,hF,hX⟩:=o;intro x hx;obtain⟨e,he,rfl⟩:=List.mem_map.1 hx;exact(h.is e he).ok
theorem ON.less(o:ON w d s q N X w1)(hZ:∀ i,Z i->X i):ON w d s q N Z w1:=by
 obtain⟨t,m,E,h,hL,hd,k,hF,hX⟩:=o;exact⟨t,m,E,h,hL,hd,k,fun i hi=>⟨(hF i hi).1,fun hz=>(hF i hi).2 (hZ i hz)⟩,fun i hi=>hX i (hZ i hi)⟩
theorem ON.grow(o:ON w d s q N X w1)(kw:Keep w w2)(hs2:w1.heap.size<=w2.heap.size)(f:∀ k,k<w1.heap.size->¬X k->w2.heap[k]?=w1.heap[k]?)(hZ:∀ i,Z i->w1.heap.size<=i/\i<w2.heap.size):ON w d s q N (fun i=>X i\/Z i) w2:=by
 obtain⟨t,m,E,h,hL,hd,k,hF,hX⟩:=o;refine⟨t,m,E,h.frame fun i hi=>f i (h.lt i hi) (hF i hi).2,hL,hd,kw,fun i hi=>⟨(hF i hi).1,?_⟩,?_⟩
 ·rintro(h1 | h1)
  ·exact(hF i hi).2 h1
  ·have:=(hZ i h1).1
   have:=h.lt i hi;omega
 ·rintro i (h1 | h1)
  ·exact Nat.lt_of_lt_of_le (hX i h1) hs2
  ·exact(hZ i h1).2
theorem abm(d:Nat)(s:Int)(w w0:World)(X:Nat->Prop)(k:Keep w w0)(hd:d<=64)(h0:0<=s)(hs:I64 s)(hX:∀ i,X i->i<w0.heap.size):
  Calls Tryz.prog 52 #[.int .i64 d,.int .i64 s] w0 fun e w'=>∃ q,e=.returned (.pointer (some ⟨q,0,none⟩))/\ON w d s q [] X w'/\Keep w0 w'/\w0.heap.size<=q:=by
 refine(T12.nnew_fn d s w0 hd h0 hs).mono ?_;rintro e w' ⟨q,rfl,t,m,h,k1,h1,h2,h3⟩;have:=k.size;refine⟨q,rfl,⟨t,m,[],h,rfl,hd,k.trans k1,fun i hi=>?_,fun i hi=>Nat.lt_of_lt_of_le (hX i hi) k1.size⟩,k1,h1⟩
 have hw:w0.heap.size<=i:=by
  rcases hi with rfl | rfl | rfl | ⟨x,hx,_⟩
  ·omega
  ·omega
  ·omega
  ·cases hx
 exact⟨by omega,fun hx=>by have:=hX i hx;omega⟩
theorem ON.after{t m:Nat}{E:List T12.EnV}{N2:List T12.NodeV}(hd:d<=64)(k:Keep w w1)(hF:∀ i,T12.FE d q t m E i->w.heap.size<=i/\¬X i)(hX:∀ i,X i->i<w1.heap.size)(a:T12.After w1 w2 d s q t m E N2):ON w d s q N2 X w2/\zbe X w1 w2/\w1.heap.size<=w2.heap.size:=by
 obtain⟨E',h1,h2,h3,h4,h5⟩:=a;have fe:∀ i,T12.DE m E i->T12.FE d q t m E i:=fun i h=>by
  rcases h with rfl | ⟨x,hx,rfl⟩
  ·exact Or.inr (Or.inr (Or.inl rfl))
  ·exact Or.inr (Or.inr (Or.inr ⟨x,hx,Or.inl rfl⟩))
 have low:∀ i,T12.DE m E i->w.heap.size<=i:=fun i hi=>(hF i (fe i hi)).1
 refine⟨⟨t,m,E',h1,h2,hd,h3.fr.low k low,fun i hi=>?_,fun i hi=>Nat.lt_of_lt_of_le (hX i hi) h3.fr.size⟩,fun i hi=>h3.fr.block i (hX i hi) fun hde=>(hF i (fe i hde)).2 hi,h3.fr.size⟩
 rcases h5 i hi with h6 | h6
 ·exact hF i h6
 ·exact⟨Nat.le_trans k.size h6,fun hx=>by have:=hX i hx;omega⟩
theorem abl(o:ON w d s q N X w1)(hg:zbk w1)(id:Int)(A:Option Addr)(n c:Nat)(Y:Nat->Int)(hv:Rd w1 A n Y)(nilA:A=none->n=0/\c=0)(hid:I64 id):
  Calls Tryz.prog 55 #[.pointer (some ⟨q,0,none⟩),.agg #[.int .i64 id,.slice A n c]] w1 fun e w'=>e=.returned (zdb (T12.addC N d s id n Y) (T12.addI d n Y))/\ON w d s q (T12.addL N d s id n Y) X w'/\zbe X w1 w'/\w1.heap.size<=w'.heap.size:=by
 obtain⟨t,m,E,h,rfl,hd,k,hF,hX⟩:=o;refine(T12.nadd_fn h hg id A n c Y hv nilA hid hd).mono fun _ _ ⟨he,ha⟩=>?_
 exact⟨he,ON.after hd k hF hX ha⟩
theorem zwt(o:ON w d s q N X w1)(id:Int)(A:Option Addr)(n c:Nat)(Y:Nat->Int)(hv:Rd w1 A n Y):
  Calls Tryz.prog 66 #[.pointer (some ⟨q,0,none⟩),.int .i64 id,.slice A n c] w1 fun e w'=>e=.returned (zdb (T12.chC N d id n Y false) 0)/\ON w d s q (T12.chL N d id n Y false) X w'/\zbe X w1 w'/\w1.heap.size<=w'.heap.size:=by
 obtain⟨t,m,E,h,rfl,hd,k,hF,hX⟩:=o;exact(T12.nhold_fn h id A n c Y hv hd).mono fun _ _ ⟨he,ha⟩=>⟨he,ON.after hd k hF hX ha⟩
theorem zuw(o:ON w d s q N X w1)(id:Int)(A:Option Addr)(n c:Nat)(Y:Nat->Int)(hv:Rd w1 A n Y):
  Calls Tryz.prog 104 #[.pointer (some ⟨q,0,none⟩),.int .i64 id,.slice A n c] w1 fun e w'=>e=.returned (zdb (T12.chC N d id n Y true) 0)/\ON w d s q (T12.chL N d id n Y true) X w'/\zbe X w1 w'/\w1.heap.size<=w'.heap.size:=by
 obtain⟨t,m,E,h,rfl,hd,k,hF,hX⟩:=o;exact(T12.nrelease_fn h id A n c Y hv hd).mono fun _ _ ⟨he,ha⟩=>⟨he,ON.after hd k hF hX ha⟩
theorem zov(o:ON w d s q N X w1)(id:Int)(hk:id∈T12.nkeys N):
  Calls Tryz.prog 105 #[.pointer (some ⟨q,0,none⟩),.int .i64 id] w1 fun e w'=>∃ A c,e=.returned (.tuple #[.agg #[.int .i64 id,.slice A d c],.bool true])/\T12.Row w1 w' A d c (T12.nget N id).C/\Keep w1 w':=by
 obtain⟨t,m,E,h,rfl,hd,k,hF,hX⟩:=o;rw[T12.nv_keys] at hk;have e:(T12.nget (E.map T12.EnV.nv) id).C=(T12.eget E id).C:=by rw[<- T12.nv_get];rfl
 rw[e];exact T12.nget_in h hk hd
theorem znc(o:ON w d s q N X w1)(id:Int)(hk:id∉T12.nkeys N):
  Calls Tryz.prog 105 #[.pointer (some ⟨q,0,none⟩),.int .i64 id] w1 fun e w'=>e=.returned (.tuple #[.agg #[.int .i64 0,.slice none 0 0],.bool false])/\Keep w1 w':=by
 obtain⟨t,m,E,h,rfl,hd,k,hF,hX⟩:=o;rw[T12.nv_keys] at hk;exact T12.nget_out h hk
theorem ahl(o:ON w d s q N X w1):Calls Tryz.prog 96 #[.pointer (some ⟨q,0,none⟩)] w1 fun e w'=>e=.returned (.int .i64 d)/\Keep w1 w':=by
 obtain⟨t,m,E,h,rfl,hd,k,hF,hX⟩:=o;exact T12.ndims_fn h
end
end Go.Proofs.YtcogiogjpbkeaaaGreatDoor.T14
namespace Go.Proofs.YtcogiogjpbkeaaaGreatDoor
open Go.RowKit Go.Extern.Stop Go.Stop Go.Extern
open Go.ChangeMaps (setBlock)
namespace T13
theorem Fr.put{D:Nat->Prop}{a b:World}(h:Fr D a b){B:Nat}(hp:D B\/a.heap.size<=B)(o:Obj):Fr D a (setBlock b B o):=
 ⟨h.os,h.tape,h.output,by simp[setBlock];exact h.size,fun k hk hn=>by
  rw[MV.heap_setBlock_ne (fun e=>hp.elim (fun h=>hn (by rw[e];exact h)) (fun h=>absurd h (by omega)))];exact h.block k hk hn⟩
structure TM(ty:TypeId)(w:World)(s:Int)(p m:Nat)(l:List (Int × Value)):Prop where
 hp:w.heap[p]?=some (.cells #[.int .i64 s,.map (some m)] ty (0,0))
 mp:MV.Is w m l
 lo:0<=s
 hi:s<=9223372036854775807
 len:(l.length:Int)<=s
section
variable{ty:TypeId}{w w':World}{s:Int}{p m:Nat}{l:List (Int × Value)}
theorem TM.plt(h:TM ty w s p m l):p<w.heap.size:=(Array.getElem?_eq_some_iff.1 h.hp).1
theorem TM.mlt(h:TM ty w s p m l):m<w.heap.size:=h.mp.lt
theorem TM.ne(h:TM ty w s p m l):p≠m:=by
 rintro rfl;obtain⟨o,hb,es,c,rfl,_⟩:=h.mp;rw[h.hp] at hb;cases hb
theorem TM.e0(h:TM ty w s p m l):w.cell? ⟨p,0,none⟩=some (.int .i64 s):=by rw[cell_of_row w _ _ _ _ _ h.hp];rfl
theorem TM.e1(h:TM ty w s p m l):w.cell? ⟨p,0+1,none⟩=some (.map (some m)):=by rw[cell_of_row w _ _ _ _ _ h.hp];rfl
theorem TM.keep(h:TM ty w s p m l)(k:Keep w w'):TM ty w' s p m l:=⟨k.block h.hp,h.mp.of (Below.block k _ h.mlt),h.lo,h.hi,h.len⟩
theorem TM.fr(h:TM ty w s p m l){E:Nat->Prop}(f:Fr E w w')(h1:¬E p)(h2:¬E m):TM ty w' s p m l :=
 ⟨(f.block _ h.plt h1).trans h.hp,h.mp.of (f.block _ h.mlt h2),h.lo,h.hi,h.len⟩
theorem TM.put(h:TM ty w s p m l)(k:Keep w w'){o:Obj}{l':List (Int × Value)}(ho:MV.Obj' o l')(hl:(l'.length:Int)<=s):TM ty (setBlock w' m o) s p m l'/\Fr (·=m) w (setBlock w' m o):=by
 have h':=h.keep k;exact⟨⟨by rw[MV.heap_setBlock_ne h.ne];exact h'.hp,⟨o,MV.heap_setBlock h'.mlt,ho⟩,h.lo,h.hi,hl⟩,Fr.put (D:=(·=m)) (Fr.of k) (by left;rfl) _⟩
end
end T13
end Go.Proofs.YtcogiogjpbkeaaaGreatDoor
