/-
  The reference's Of of layer 16. Conditions: at most 100 pods, whose requests are of the dimension and in the limits; the dimension is at most 64.
  The reference's Fits of layer 16. Conditions: at most 100 pods, whose requests are of the dimension and in the limits; the dimension is at most 64.
  The reference's Sub of vectors. Conditions: at most 1048576 elements.
-/
import Derived.Test.YtcogiogjpbkeaaaGreatDoorJ0
import Derived.Test.YtcogiogjpbkeaaaGreatDoorJ11
namespace Go.Proofs.YtcogiogjpbkeaaaGreatDoor.T16
open Go.RowKit Go.Sort Go.Lib V12 T13 T14 T15
def zej(O:Int->Bool)(L:List zaa):List zaa:=L.filter fun y=>!O y.k
theorem ana{w:World}{k:Nat}{a b c u:Value}{T:TypeId}(h:w.heap[k]?=some (.cells #[a,b,c] T (0,0))):(w.setCell ⟨k,2,none⟩ u).heap[k]?=some (.cells #[a,b,u] T (0,0)):=by
 rw[heap_setCell_same w k 2 _ _ u h];rfl
set_option maxRecDepth 100000 in
set_option maxHeartbeats 2000000 in
theorem aca(x:RcV)(d:Nat)(hd:x.d=d)(hd64:d<=64)(p:zaa)(nd:Int)(WA:Option Addr)(wn wc:Nat)(WZ:Nat->Int)(O:Int->Bool)(hO:∀ k,O k=true↔∃ j,j<wn/\WZ j=k)(Q:Nat->C14.NdC)(P:Nat->zaa)(w:World)(hN:C14.RdN w x.A x.n Q)(hR:zai w x.B x.m P)(hm:x.m<=100)(hp:∀ j,j<x.m->(P j).m=d/\∀ k,k<d->Amt ((P j).Z k))(hW:Rd w WA wn WZ):
  Calls Tryz.prog 47 #[x.val,p.val,.int .i64 nd,.slice WA wn wc] w fun e w'=>∃ G c',e=.returned (.slice G d c')/\Rd w' G d (if C14.findN Q nd x.n<0 then fun _=>0 else fun j=>zam (zej O (T13.lst P x.m)) nd j+zbs (zbt p nd (T13.lst P x.m)) j)/\Keep w w':=by
 have mixed:Tryz.prog.follows .mixedOrders=true:=by kernel_rfl
 obtain⟨xd,A,n,c,B,m,e⟩:=x;simp only at hd hN hR hm hp ⊢;obtain⟨ZR,hZR⟩:∃ ZR:Nat->Int,ZR=if C14.findN Q nd n<0 then fun _=>0 else fun j=>zam (zej O (T13.lst P m)) nd j+zbs (zbt p nd (T13.lst P m)) j:=⟨_,rfl⟩
 rw[<- hZR];replace hZR:=Zq hZR;have s0:((w.alloc (.cells (RcV.arr ⟨xd,A,n,c,B,m,e⟩) 30)).alloc (.cells (zac p) 26)).heap.size=w.heap.size+1+1:=by rw[World.size_alloc,World.size_alloc]
 obtain⟨W1,hW1⟩:=Zn ((((w.alloc (.cells (RcV.arr ⟨xd,A,n,c,B,m,e⟩) 30)).alloc (.cells (zac p) 26)).alloc (.cells (RcV.arr ⟨xd,A,n,c,none,0,0⟩) 30)));have K1:Hid (Keep w W1):=by rw[hW1];exact((Keep.one _ _).alloc _).alloc _
 have B3:Hid (W1.heap[w.heap.size]?=some (.cells (RcV.arr ⟨xd,A,n,c,B,m,e⟩) 30 (0,0))):=by rw[hW1];exact((Keep.one _ _).alloc _).block (heap_alloc_new _ _)
 have B4:Hid (W1.heap[w.heap.size+1]?=some (.cells (zac p) 26 (0,0))):=by
  rw[hW1];have h1:=heap_alloc_new (w.alloc (.cells (RcV.arr ⟨xd,A,n,c,B,m,e⟩) 30)) (.cells (zac p) 26);rw[World.size_alloc] at h1;exact(Keep.one _ _).block h1
 have B9:Hid (W1.heap[w.heap.size+1+1]?=some (.cells (RcV.arr ⟨xd,A,n,c,none,0,0⟩) 30 (0,0))):=by
  rw[hW1,<- s0];exact heap_alloc_new _ _
 obtain⟨b3,hb3⟩:=Zn (w.heap.size);obtain⟨b4,hb4⟩:=Zn (w.heap.size+1);obtain⟨b9,hb9⟩:=Zn (w.heap.size+1+1);obtain⟨base,hbase⟩:=Zn (b9+1);have BS:Hid (base=b9+1/\w.heap.size<=base):=⟨hbase,by omega⟩
 have NE:Hid (b3≠b9/\b4≠b9/\b3<base/\b4<base/\b9<base):=⟨by omega,by omega,by omega,by omega,by omega⟩
 have GE:Hid (w.heap.size<=b9):=by show _<=_;omega
 rw[<- hb3] at B3;rw[<- hb4] at B4;rw[<- hb9] at B9;replace hR:=Zq hR;replace hN:=Zq hN;replace hp:=Zq hp;replace hO:=Zq hO;replace hW:=Zq hW;replace s0:=Zq s0;replace hd:=Zq hd;replace hbase:=Zq hbase;unfold RcV.arr zac at hW1;unfold RcV.val zaa.val;simp only at hW1
 go_enter Tryz.func47,Tryz.ntmps47
 go_wp2_with fail;rw[<- hW1,<- hb9,<- hb4,<- hb3];replace hW1:=Zq hW1;replace hb3:=Zq hb3;replace hb4:=Zq hb4;replace hb9:=Zq hb9
 go_loopg [10] m (fun gx s10 wr=>∃ (j k:Nat) (D:Option Addr) (dd:Nat) (M:List zaa),j<=m/\gx=m - j/\s10=.int .i64 j/\k<=j/\Hid (Keep w wr)/\Hid (wr.heap[b3]?=some (.cells (RcV.arr ⟨xd,A,n,c,B,m,e⟩) 30 (0,0)))/\Hid (wr.heap[b4]?=some (.cells (zac p) 26 (0,0)))/\Hid (wr.heap[b9]?=some (.cells (RcV.arr ⟨xd,A,n,c,D,k,dd⟩) 30 (0,0)))/\Hid (wr.ownsRow base 26 9 (.slice D k dd) k (M.flatMap zaa.cells))/\Hid (M=zej O (T13.lst P j))/\Hid (M.length=k))
 case atStart=>exact⟨0,0,none,0,[],Nat.zero_le _,rfl,rfl,Nat.le_refl _,K1,B3,B4,B9,World.ownsRow_nil _ _ _ _,rfl,rfl⟩
 case round =>
  obtain⟨j,k,D,dd,M,hj,rfl,rfl,hkj,KR,B3r,B4r,B9r,RW,LT,LN⟩:=hrel;obtain⟨c0,c1,c2,_⟩:=zab B3r.out;simp only at c0 c1 c2
  by_cases hlt:j<m
  ·have R2:=hR.out.keep KR.out
   obtain⟨g,off,hA,ca⟩:=R2.adr (by omega)
   subst hA;have q1:=zar g off m e j hlt;have Y0:=(hR.out.adr (by omega))
   have Y:=ca j hlt;have Yw:Hid (zcr w g (off+j * 9) (P j)):=by
    obtain⟨g2,off2,e2,ca2⟩:=Y0;have e3:=Option.some.inj e2;simp only[Addr.mk.injEq,and_true] at e3;show zcr _ _ _ _
    rw[e3.1,e3.2];exact ca2 j hlt
   clear ca Y0 R2;have hs:zej O (T13.lst P (j+1))=zej O (T13.lst P j)++if (!O (P j).k)=true then[P j] else[]:=by
    unfold zej;rw[lst_succ,List.filter_append,List.filter_cons,List.filter_nil]
   obtain⟨y,hy⟩:=Zn (P j);obtain⟨oo,hoo⟩:=Zn (off+j * 9);rw[<- hy] at Y hs Yw;rw[<- hoo] at Y q1 Yw;replace hy:=Zq hy;replace hoo:=Zq hoo;have y0:=Y.e0;clear Y;obtain⟨ob,hob⟩:=Zn (O y.k);rw[<- hob] at hs;replace hs:=Zq hs;have cH:Hid (∀ Wz,Keep w Wz->Calls Tryz.prog 81 #[.slice WA wn wc,.int .i64 y.k] Wz fun e' w'=>e'=.returned (.bool ob)/\Keep Wz w'):=fun Wz kk=>zys WA wn wc WZ y.k Wz (hW.out.keep kk) ob (by rw[hob];exact hO.out _)
   replace hob:=Zq hob;go_wp2_with fail;refine(cH.out _ KR.out).mono ?_;rintro e' w4 ⟨rfl,k4⟩;have K4:Hid (Keep wr w4):=k4;replace k4:=Zq k4;have KW4:Hid (Keep w w4):=KR.out.trans K4.out;have B3w:Hid (w4.heap[b3]?=some (.cells (RcV.arr ⟨xd,A,n,c,some ⟨g,off,none⟩,m,e⟩) 30 (0,0))):=Keep.block K4.out B3r.out;have B4w:Hid (w4.heap[b4]?=some (.cells (zac p) 26 (0,0))):=Keep.block K4.out B4r.out;have B9w:Hid (w4.heap[b9]?=some (.cells (RcV.arr ⟨xd,A,n,c,D,k,dd⟩) 30 (0,0))):=Keep.block K4.out B9r.out;clear c0 c1 c2 y0;cases ob with
   | false =>
     have hs2:=hs.out;rw[if_pos (show(!false)=true from rfl)] at hs2
     have L2:Hid (M++[y]=zej O (T13.lst P (j+1))):=by show _=_;rw[hs2,LT.out]
     have LN2:Hid ((M++[y]).length=k+1):=by show _=_;rw[List.length_append,LN.out];rfl
     have FM:Hid ((M++[y]).flatMap zaa.cells=M.flatMap zaa.cells++y.cells):=by show _=_;rw[List.flatMap_append,List.flatMap_singleton]
     clear hs2;have HELDG:∀ Wz:World,Wz.heap[b3]?=some (.cells (RcV.arr ⟨xd,A,n,c,some ⟨g,off,none⟩,m,e⟩) 30 (0,0))->Wz.heap[b9]?=some (.cells (RcV.arr ⟨xd,A,n,c,D,k,dd⟩) 30 (0,0))->Keep w Wz->(Wz.cell? ⟨b3,0,none⟩=some (.int .i64 xd)/\Wz.cell? ⟨b3,1,none⟩=some (.slice A n c)/\Wz.cell? ⟨b3,2,none⟩=some (.slice (some ⟨g,off,none⟩) m e)/\Wz.cell? ⟨b9,0,none⟩=some (.int .i64 xd)/\Wz.cell? ⟨b9,1,none⟩=some (.slice A n c)/\Wz.cell? ⟨b9,2,none⟩=some (.slice D k dd)/\Wz.cell? ⟨g,oo,none⟩=some (.int .i64 y.k)/\Wz.cell? ⟨g,oo+1,none⟩=some (.int .i64 y.p)/\Wz.cell? ⟨g,oo+2,none⟩=some (.bool y.f)/\Wz.cell? ⟨g,oo+3,none⟩=some (.int .i64 y.g)/\Wz.cell? ⟨g,oo+4,none⟩=some (.slice y.A y.m y.c)/\Wz.cell? ⟨g,oo+5,none⟩=some (.int .i64 y.a)/\Wz.cell? ⟨g,oo+6,none⟩=some (.int .i64 y.h)/\Wz.cell? ⟨g,oo+7,none⟩=some (.int .i64 y.d)/\Wz.cell? ⟨g,oo+8,none⟩=some (.int .i64 y.t)):=fun Wz h3 h9 kk=>⟨(zab h3).1,(zab h3).2.1,(zab h3).2.2.1,(zab h9).1,(zab h9).2.1,(zab h9).2.2.1,(Yw.out.keep kk).e0,(Yw.out.keep kk).e1,(Yw.out.keep kk).e2,(Yw.out.keep kk).e3,(Yw.out.keep kk).e4,(Yw.out.keep kk).e5,(Yw.out.keep kk).e6,(Yw.out.keep kk).e7,(Yw.out.keep kk).e8⟩
     go_upto_region 7 with fail
     have HELD:∀ Wz,Keep w4 Wz->(Wz.cell? ⟨b3,0,none⟩=some (.int .i64 xd)/\Wz.cell? ⟨b3,1,none⟩=some (.slice A n c)/\Wz.cell? ⟨b3,2,none⟩=some (.slice (some ⟨g,off,none⟩) m e)/\Wz.cell? ⟨b9,0,none⟩=some (.int .i64 xd)/\Wz.cell? ⟨b9,1,none⟩=some (.slice A n c)/\Wz.cell? ⟨b9,2,none⟩=some (.slice D k dd)/\Wz.cell? ⟨g,oo,none⟩=some (.int .i64 y.k)/\Wz.cell? ⟨g,oo+1,none⟩=some (.int .i64 y.p)/\Wz.cell? ⟨g,oo+2,none⟩=some (.bool y.f)/\Wz.cell? ⟨g,oo+3,none⟩=some (.int .i64 y.g)/\Wz.cell? ⟨g,oo+4,none⟩=some (.slice y.A y.m y.c)/\Wz.cell? ⟨g,oo+5,none⟩=some (.int .i64 y.a)/\Wz.cell? ⟨g,oo+6,none⟩=some (.int .i64 y.h)/\Wz.cell? ⟨g,oo+7,none⟩=some (.int .i64 y.d)/\Wz.cell? ⟨g,oo+8,none⟩=some (.int .i64 y.t)):=fun Wz KK=>HELDG Wz (Keep.block KK B3w.out) (Keep.block KK B9w.out) (KW4.out.trans KK)
     refine OrdS.rest_start (fun w'=>w'.cell? ⟨b3,0,none⟩=some (.int .i64 xd)/\w'.cell? ⟨b3,1,none⟩=some (.slice A n c)/\w'.cell? ⟨b3,2,none⟩=some (.slice (some ⟨g,off,none⟩) m e)/\w'.cell? ⟨b9,0,none⟩=some (.int .i64 xd)/\w'.cell? ⟨b9,1,none⟩=some (.slice A n c)/\w'.cell? ⟨b9,2,none⟩=some (.slice D k dd)/\w'.cell? ⟨g,oo,none⟩=some (.int .i64 y.k)/\w'.cell? ⟨g,oo+1,none⟩=some (.int .i64 y.p)/\w'.cell? ⟨g,oo+2,none⟩=some (.bool y.f)/\w'.cell? ⟨g,oo+3,none⟩=some (.int .i64 y.g)/\w'.cell? ⟨g,oo+4,none⟩=some (.slice y.A y.m y.c)/\w'.cell? ⟨g,oo+5,none⟩=some (.int .i64 y.a)/\w'.cell? ⟨g,oo+6,none⟩=some (.int .i64 y.h)/\w'.cell? ⟨g,oo+7,none⟩=some (.int .i64 y.d)/\w'.cell? ⟨g,oo+8,none⟩=some (.int .i64 y.t)) [10] (by kernel_rfl) ?_ (fun hHeld=>?_)
     ·exact HELD _ (Keep.refl w4).drew
     obtain⟨wt0,hwt0⟩:=Zn (w4.drew);have Kwt0:Hid (Keep w4 wt0):=by rw[hwt0];exact(Keep.refl _).drew
     rw[<- hwt0] at hHeld ⊢;replace hwt0:=Zq hwt0;refine OrdS.rt 0 (.pointer (some ⟨b9,2,none⟩)) hHeld ?_
     simp only[Act.put,Zp];refine OrdS.rt 1 (.slice D k dd) hHeld ?_
     simp only[Act.put,Zp];refine OrdS.rt 2 (.pointer (some ⟨b3,2,none⟩)) hHeld ?_
     simp only[Act.put,Zp];refine OrdS.rt 3 (.slice (some ⟨g,off,none⟩) m e) hHeld ?_
     simp only[Act.put,Zp];refine OrdS.rt 4 (.int .i64 j) hHeld ?_
     simp only[Act.put,Zp];refine OrdS.rt 5 (.pointer (some ⟨g,oo,none⟩)) hHeld ?_
     simp only[Act.put,Zp];refine OrdS.rt 6 (.agg #[.int .i64 y.k,.int .i64 y.p,.bool y.f,.int .i64 y.g,.slice y.A y.m y.c,.int .i64 y.a,.int .i64 y.h,.int .i64 y.d,.int .i64 y.t]) hHeld ?_
     simp only[Act.put,Zp];refine OrdS.rest_ready (rs:=[7]) (by kernel_rfl) (by simp) ?_
     refine OrdS.Each.cons rfl (fun K hK=>?_) OrdS.Each.nil
     simp only[Zp];rw[if_pos (by rfl)]
     go_simp
     obtain⟨wt1,hwt1⟩:=Zn (wt0.alloc (.cells #[.int .i64 y.k,.int .i64 y.p,.bool y.f,.int .i64 y.g,.slice y.A y.m y.c,.int .i64 y.a,.int .i64 y.h,.int .i64 y.d,.int .i64 y.t] 26));have Jwt1:Hid (Keep wt0 wt1):=by rw[hwt1];exact Keep.one _ _
     have Kwt1:Hid (Keep w4 wt1):=Kwt0.out.trans Jwt1.out;have C1:Hid (wt1.heap[wt0.heap.size]?=some (.cells (zac y) 26 (0,0))):=by rw[hwt1];exact heap_alloc_new _ _
     rw[<- hwt1];replace hwt1:=Zq hwt1;refine hK.out _ _ (fun _=>HELD _ Kwt1.out) ?_
     have hHeld:=HELD _ Kwt1.out;clear hK K;try simp only[Act.put,Zp]
     refine OrdS.rest_ready (rs:=[8]) (by kernel_rfl) (by simp) ?_
     refine OrdS.Each.cons rfl (fun K hK=>?_) OrdS.Each.nil
     simp only[Zp];rw[if_pos (by rfl)]
     have RW4:=Zq (zal RW.out (K4.out.trans Kwt1.out));unfold zac at C1;refine zhe (.tmp 32) (.tmp 38) rfl base (.slice D k dd) k (M.flatMap zaa.cells) (by simp[Act.eval]) RW4.out (.slice (some ⟨wt0.heap.size,0,none⟩) 1 1) 1 y.cells (by simp[Act.eval]) (zbh C1.out) (cells_one _) (by omega) (by have h1:=BS.out.1;have h4:=lt_of_block (Keep.block Kwt1.out B9w.out);omega) (k+1) rfl ?_
     intro v3 w6 hr3 hg3;have KW6:Hid (Keep w w6):=zad (KW4.out.trans Kwt1.out) hg3 (fun q hq=>Nat.le_trans BS.out.2 (RW4.out.lt q hq).1)
     have OT:Hid (∀ b,b<base->b<wt1.heap.size->w6.heap[b]?=wt1.heap[b]?):=fun b h1 h2=>hg3.block b h2 (fun e2=>absurd (RW4.out.lt b e2.symm).1 (by omega))
     have B36:Hid (w6.heap[b3]?=some (.cells (RcV.arr ⟨xd,A,n,c,some ⟨g,off,none⟩,m,e⟩) 30 (0,0))):=(OT.out b3 NE.out.2.2.1 (lt_of_block (Keep.block Kwt1.out B3w.out))).trans (Keep.block Kwt1.out B3w.out);have B46:Hid (w6.heap[b4]?=some (.cells (zac p) 26 (0,0))):=(OT.out b4 NE.out.2.2.2.1 (lt_of_block (Keep.block Kwt1.out B4w.out))).trans (Keep.block Kwt1.out B4w.out);have B96:Hid (w6.heap[b9]?=some (.cells (RcV.arr ⟨xd,A,n,c,D,k,dd⟩) 30 (0,0))):=(OT.out b9 NE.out.2.2.2.2 (lt_of_block (Keep.block Kwt1.out B9w.out))).trans (Keep.block Kwt1.out B9w.out);obtain⟨D4,d4,hD4,_⟩:=zan hr3;subst hD4;rw[<- FM.out] at hr3;replace hr3:=Zq hr3;replace hg3:=Zq hg3;have H6:=HELDG w6 B36.out B96.out KW6.out;refine hK.out _ _ (fun _=>H6) ?_
     clear hHeld;have hHeld:=H6;clear hK K H6;try simp only[Act.put,Zp]
     refine OrdS.rt 9 (.pointer (some ⟨b9,2,none⟩)) hHeld ?_
     simp only[Act.put,Zp];refine OrdS.rest_ready (rs:=[10]) (by kernel_rfl) (by simp) ?_
     refine OrdS.Each.cons rfl (fun K hK=>?_) OrdS.Each.nil
     simp only[Zp];rw[if_pos (by rfl)]
     have z9:=(zab B96.out).2.2.1;have zf:=(zab B96.out).2.2.2;simp only at z9
     go_simp
     refine hK.out _ _ (fun e=>absurd (by simp) e) ?_
     clear hK K;refine OrdS.rest_done (by kernel_rfl) ?_ _
     have KF:Hid (Keep w (w6.setCell ⟨b9,2,none⟩ (.slice D4 (k+1) d4))):=KW6.out.set (by show w.heap.size<=b9;exact GE.out) _
     have B3F:Hid ((w6.setCell ⟨b9,2,none⟩ (.slice D4 (k+1) d4)).heap[b3]?=some (.cells (RcV.arr ⟨xd,A,n,c,some ⟨g,off,none⟩,m,e⟩) 30 (0,0))):=(Below.heap_setCell _ _ _ _ (by show b3≠b9;exact NE.out.1)).trans B36.out
     have B4F:Hid ((w6.setCell ⟨b9,2,none⟩ (.slice D4 (k+1) d4)).heap[b4]?=some (.cells (zac p) 26 (0,0))):=(Below.heap_setCell _ _ _ _ (by show b4≠b9;exact NE.out.2.1)).trans B46.out
     have B9F:Hid ((w6.setCell ⟨b9,2,none⟩ (.slice D4 (k+1) d4)).heap[b9]?=some (.cells (RcV.arr ⟨xd,A,n,c,D4,k+1,d4⟩) 30 (0,0))):=ana B96.out;have RF:Hid ((w6.setCell ⟨b9,2,none⟩ (.slice D4 (k+1) d4)).ownsRow base 26 9 (.slice D4 (k+1) d4) (k+1) ((M++[y]).flatMap zaa.cells)):=zao hr3.out fun q hq=>Below.heap_setCell _ _ _ _ (by show q≠b9;have h1:=(hr3.out.lt q hq).1;have h2:=NE.out.2.2.2.2;omega)
     clear hHeld HELD HELDG z9 zf;go_wp2;go_roundg (m - (j+1))
     case measure=>omega
     case rel=>exact⟨j+1,k+1,D4,d4,M++[y],hlt,rfl,by go_num,by omega,KF,B3F,B4F,B9F,RF,L2,LN2⟩
   | true =>
     have hs2:=hs.out;rw[if_neg (show ¬(!true)=true by decide),List.append_nil] at hs2
     have L2:Hid (M=zej O (T13.lst P (j+1))):=by show _=_;rw[hs2,LT.out]
     have RW4:=Zq (zal RW.out K4.out);clear hs2;go_wp2;go_roundg (m - (j+1))
     case measure=>omega
     case rel=>exact⟨j+1,k,D,dd,M,hlt,rfl,by go_num,by omega,KW4,B3w,B4w,B9w,RW4,L2,LN⟩
  ·obtain rfl:j=m:=by omega
   have ln:=LN.out;have mem:∀ t,t<M.length->zah wr (row M t)/\(row M t).m=d/\∀ k,k<d->Amt ((row M t).Z k):=fun t ht=>by
    have hm:=row_mem ht;unfold zej at LT;rw[LT.out,List.mem_filter] at hm;obtain⟨i,hi,e1⟩:=lst_mem.1 hm.1;rw[LT.out,<- e1];exact⟨(hR.out.is i hi).keep KR.out,hp.out i hi⟩
   have fin:Hid (zai wr D k (row M)):=by
    have h2:=RW.out;rw[<- podCs_row,ln] at h2;exact zix h2 (by omega) fun t ht=>(mem t (by omega)).1
   have MP:Hid (∀ t,t<k->(row M t).m=d/\∀ k,k<d->Amt ((row M t).Z k)):=fun t ht=>(mem t (by omega)).2
   have LM:Hid (T13.lst (row M) k=zej O (T13.lst P j)):=by show _=_;rw[<- ln,lst_row,LT.out]
   clear mem;have cF:Hid (Calls Tryz.prog 44 #[RcV.val ⟨xd,A,n,c,B,j,e⟩,.int .i64 nd] wr fun e' w'=>e'=.returned (.int .i64 (C14.findN Q nd n))/\w'=wr.alloc (.cells (RcV.arr ⟨xd,A,n,c,B,j,e⟩) 30)):=zgr ⟨xd,A,n,c,B,j,e⟩ Q nd wr (hN.out.keep KR.out)
   unfold RcV.val at cF;simp only at cF;go_wp2_with fail;refine cF.out.mono ?_;rintro e' w4 ⟨rfl,hw4⟩;have K4:Hid (Keep wr w4):=by rw[hw4];exact Keep.one _ _
   replace hw4:=Zq hw4;have KW4:Hid (Keep w w4):=KR.out.trans K4.out;have B3w:Hid (w4.heap[b3]?=some (.cells (RcV.arr ⟨xd,A,n,c,B,j,e⟩) 30 (0,0))):=Keep.block K4.out B3r.out;have B4w:Hid (w4.heap[b4]?=some (.cells (zac p) 26 (0,0))):=Keep.block K4.out B4r.out;have B9w:Hid (w4.heap[b9]?=some (.cells (RcV.arr ⟨xd,A,n,c,D,k,dd⟩) 30 (0,0))):=Keep.block K4.out B9r.out;clear c0 c1 c2 cF;obtain⟨r,hr⟩:=Zn (C14.findN Q nd n);have hZ2:=hZR.out;rw[<- hr] at hZ2;rw[<- hr];replace hr:=Zq hr
   by_cases hneg:r<0
   ·obtain⟨e0,e1,e2,_⟩:=zab B3w.out
    simp only at e0 e1 e2;have hdd:=hd.out;subst hdd;have hmk:=run_make_row' (P:=Tryz.prog) 24 2 (.int .i64 0) 8 Tryz.underlying24 Tryz.infoU14 rfl .i64 .i64 d (by omega) (by omega)
    have hm1:max (d:Int) 0=d:=by omega
    have hb1:decide (0<=(d:Int))=true:=decide_eq_true (by omega)
    have hb2:decide ((d:Int)<0)=false:=decide_eq_false (by omega)
    have R1:Hid (Rd (w4.alloc (.cells (madeCells #[.int .i64 0] d) 2)) (some ⟨w4.heap.size,0,none⟩) d (fun _=>0)):=zcd.rd (World.rowIs_made w4 (.int .i64 0) d 2) (by omega) (fun _ _=>⟨by omega,by omega⟩)
    have KZ:Hid (Keep w (w4.alloc (.cells (madeCells #[.int .i64 0] d) 2))):=KW4.out.alloc _;go_wp2;try simp only[hm1]
    go_ret
    exact⟨_,_,rfl,by rw[hZ2,if_pos hneg];exact R1.out,KZ.out⟩
   ·have CUS:Hid (∀ Wz,Keep w4 Wz->Calls Tryz.prog 82 #[.agg #[.int .i64 xd,.slice A n c,.slice D k dd],.int .i64 nd] Wz fun e' w'=>∃ g,e'=.returned (.slice (some ⟨g,0,none⟩) d d)/\Wz.heap.size<=g/\zcd w' g d (zam (zej O (T13.lst P j)) nd)/\Keep Wz w'):=fun Wz kk=>by
     rw[<- LM.out];exact zte ⟨xd,A,n,c,D,k,dd⟩ d hd.out hd64 (row M) nd Wz (fin.out.keep (K4.out.trans kk)) (Nat.le_trans hkj hm) MP.out
    have CSM:Hid (∀ Wz,Keep w4 Wz->Calls Tryz.prog 83 #[.agg #[.int .i64 xd,.slice A n c,.slice B j e],.agg #[.int .i64 p.k,.int .i64 p.p,.bool p.f,.int .i64 p.g,.slice p.A p.m p.c,.int .i64 p.a,.int .i64 p.h,.int .i64 p.d,.int .i64 p.t],.int .i64 nd] Wz fun e' w'=>∃ g,e'=.returned (.slice (some ⟨g,0,none⟩) d d)/\Wz.heap.size<=g/\zcd w' g d (zbs (zbt p nd (T13.lst P j)))/\Keep Wz w'):=fun Wz kk=>zyr ⟨xd,A,n,c,B,j,e⟩ d hd.out hd64 p nd P Wz (hR.out.keep (KW4.out.trans kk)) hm hp.out
    have am:∀ L:List zaa,(∀ y∈L,y∈T13.lst P j)->∀ k,k<d->∀ y∈L,Amt (y.Z k):=fun L hL k hk y hy=>by
     obtain⟨i,hi,e1⟩:=lst_mem.1 (hL y hy);rw[<- e1];exact(hp.out i hi).2 k hk
    have ub:∀ k,k<d->0<=zam (zej O (T13.lst P j)) nd k/\zam (zej O (T13.lst P j)) nd k<=109951162777600:=fun k hk=>by
     have h1:=am (zej O (T13.lst P j)) (fun y hy=>(List.mem_filter.1 hy).1) k hk
     refine⟨zfu h1,?_⟩;have h2:=zhv (id:=nd) h1;have h3:(zej O (T13.lst P j)).length<=j:=Nat.le_trans (List.length_filter_le _ _) (by rw[lst_len];exact Nat.le_refl _)
     omega
    have sb:∀ k,k<d->0<=zbs (zbt p nd (T13.lst P j)) k/\zbs (zbt p nd (T13.lst P j)) k<=109951162777600:=fun k hk=>zqr (n:=j) (Nat.le_trans (List.length_filter_le _ _) (by rw[lst_len];exact Nat.le_refl _)) hm (am _ (fun y hy=>(List.mem_filter.1 hy).1) k hk)
    have UB:Hid (∀ k,k<d->-9223372036854775808<=zam (zej O (T13.lst P j)) nd k/\zam (zej O (T13.lst P j)) nd k<=9223372036854775807):=fun k hk=>by have:=ub k hk;omega
    have SB:Hid (∀ k,k<d->-9223372036854775808<=zbs (zbt p nd (T13.lst P j)) k/\zbs (zbt p nd (T13.lst P j)) k<=9223372036854775807):=fun k hk=>by have:=sb k hk;omega
    have SUM:Hid (∀ k,k<d->-9223372036854775808<=zam (zej O (T13.lst P j)) nd k+zbs (zbt p nd (T13.lst P j)) k/\zam (zej O (T13.lst P j)) nd k+zbs (zbt p nd (T13.lst P j)) k<=9223372036854775807):=fun k hk=>by have h1:=ub k hk;have h2:=sb k hk;omega
    clear am ub sb;rw[if_neg hneg] at hZ2;replace hZ2:=Zq hZ2;go_upto_region 10 with fail
    have HELD:∀ Wz,Keep w4 Wz->(Wz.cell? ⟨b3,0,none⟩=some (.int .i64 xd)/\Wz.cell? ⟨b3,1,none⟩=some (.slice A n c)/\Wz.cell? ⟨b3,2,none⟩=some (.slice B j e)/\Wz.cell? ⟨b9,0,none⟩=some (.int .i64 xd)/\Wz.cell? ⟨b9,1,none⟩=some (.slice A n c)/\Wz.cell? ⟨b9,2,none⟩=some (.slice D k dd)/\Wz.cell? ⟨b4,0,none⟩=some (.int .i64 p.k)/\Wz.cell? ⟨b4,1,none⟩=some (.int .i64 p.p)/\Wz.cell? ⟨b4,2,none⟩=some (.bool p.f)/\Wz.cell? ⟨b4,3,none⟩=some (.int .i64 p.g)/\Wz.cell? ⟨b4,4,none⟩=some (.slice p.A p.m p.c)/\Wz.cell? ⟨b4,5,none⟩=some (.int .i64 p.a)/\Wz.cell? ⟨b4,6,none⟩=some (.int .i64 p.h)/\Wz.cell? ⟨b4,7,none⟩=some (.int .i64 p.d)/\Wz.cell? ⟨b4,8,none⟩=some (.int .i64 p.t)):=fun Wz KK=>⟨(zab (Keep.block KK B3w.out)).1,(zab (Keep.block KK B3w.out)).2.1,(zab (Keep.block KK B3w.out)).2.2.1,(zab (Keep.block KK B9w.out)).1,(zab (Keep.block KK B9w.out)).2.1,(zab (Keep.block KK B9w.out)).2.2.1,(zae (Keep.block KK B4w.out)).e0,(zae (Keep.block KK B4w.out)).e1,(zae (Keep.block KK B4w.out)).e2,(zae (Keep.block KK B4w.out)).e3,(zae (Keep.block KK B4w.out)).e4,(zae (Keep.block KK B4w.out)).e5,(zae (Keep.block KK B4w.out)).e6,(zae (Keep.block KK B4w.out)).e7,(zae (Keep.block KK B4w.out)).e8⟩
    refine OrdS.rest_start (fun w'=>w'.cell? ⟨b3,0,none⟩=some (.int .i64 xd)/\w'.cell? ⟨b3,1,none⟩=some (.slice A n c)/\w'.cell? ⟨b3,2,none⟩=some (.slice B j e)/\w'.cell? ⟨b9,0,none⟩=some (.int .i64 xd)/\w'.cell? ⟨b9,1,none⟩=some (.slice A n c)/\w'.cell? ⟨b9,2,none⟩=some (.slice D k dd)/\w'.cell? ⟨b4,0,none⟩=some (.int .i64 p.k)/\w'.cell? ⟨b4,1,none⟩=some (.int .i64 p.p)/\w'.cell? ⟨b4,2,none⟩=some (.bool p.f)/\w'.cell? ⟨b4,3,none⟩=some (.int .i64 p.g)/\w'.cell? ⟨b4,4,none⟩=some (.slice p.A p.m p.c)/\w'.cell? ⟨b4,5,none⟩=some (.int .i64 p.a)/\w'.cell? ⟨b4,6,none⟩=some (.int .i64 p.h)/\w'.cell? ⟨b4,7,none⟩=some (.int .i64 p.d)/\w'.cell? ⟨b4,8,none⟩=some (.int .i64 p.t)) [] (by kernel_rfl) ?_ (fun hHeld=>?_)
    ·exact HELD _ (Keep.refl w4).drew
    obtain⟨wt0,hwt0⟩:=Zn (w4.drew);have Kwt0:Hid (Keep w4 wt0):=by rw[hwt0];exact(Keep.refl _).drew
    rw[<- hwt0] at hHeld ⊢;replace hwt0:=Zq hwt0;refine OrdS.rt 0 (.agg #[.int .i64 xd,.slice A n c,.slice D k dd]) hHeld ?_
    simp only[Act.put,Zp];refine OrdS.rt 1 (.int .i64 nd) hHeld ?_
    simp only[Act.put,Zp];refine OrdS.rt 3 (.agg #[.int .i64 xd,.slice A n c,.slice B j e]) hHeld ?_
    simp only[Act.put,Zp];refine OrdS.rt 4 (.agg #[.int .i64 p.k,.int .i64 p.p,.bool p.f,.int .i64 p.g,.slice p.A p.m p.c,.int .i64 p.a,.int .i64 p.h,.int .i64 p.d,.int .i64 p.t]) hHeld ?_
    simp only[Act.put,Zp];refine OrdS.rt 5 (.int .i64 nd) hHeld ?_
    simp only[Act.put,Zp];refine OrdS.rest_ready (rs:=[2]) (by kernel_rfl) (by simp) ?_
    refine OrdS.Each.cons rfl (fun K hK=>?_) OrdS.Each.nil
    simp only[Zp];rw[if_pos (by rfl)]
    go_simp
    refine(CUS.out _ Kwt0.out).mono ?_;rintro e' w5 ⟨gU,rfl,_,ir,k5⟩;have UR0:=Zq (ir.rd (by omega) UB.out)
    have K5:Hid (Keep w4 w5):=Kwt0.out.trans k5;go_wp2_with fail;refine hK.out _ _ (fun _=>HELD _ K5.out) ?_
    have hHeld:=HELD _ K5.out;clear hK K;try simp only[Act.put,Zp]
    refine OrdS.rest_ready (rs:=[6]) (by kernel_rfl) (by simp) ?_
    refine OrdS.Each.cons rfl (fun K hK=>?_) OrdS.Each.nil
    simp only[Zp];rw[if_pos (by rfl)]
    go_simp
    refine(CSM.out _ K5.out).mono ?_;rintro e' w6 ⟨gS,rfl,_,is,k6⟩;have SR:=Zq (is.rd (by omega) SB.out)
    have K6:Hid (Keep w4 w6):=K5.out.trans k6;have UR:=Zq (UR0.out.keep k6);go_wp2_with fail;refine hK.out _ _ (fun _=>HELD _ K6.out) ?_
    have hHeld:=HELD _ K6.out;clear hK K;try simp only[Act.put,Zp]
    refine OrdS.rest_ready (rs:=[7]) (by kernel_rfl) (by simp) ?_
    refine OrdS.Each.cons rfl (fun K hK=>?_) OrdS.Each.nil
    simp only[Zp];rw[if_pos (by rfl)]
    go_simp
    obtain⟨wa,hwa⟩:=Zn (w6.alloc (.cells #[.slice (some ⟨gU,0,none⟩) d d,.slice (some ⟨gS,0,none⟩) d d] 24));have Ja:Hid (Keep w6 wa):=by rw[hwa];exact Keep.one _ _
    have Ka:Hid (Keep w4 wa):=K6.out.trans Ja.out;have Ca:Hid (wa.heap[w6.heap.size]?=some (.cells #[.slice (some ⟨gU,0,none⟩) d d,.slice (some ⟨gS,0,none⟩) d d] 24 (0,0))):=by rw[hwa];exact heap_alloc_new _ _
    rw[<- hwa];replace hwa:=Zq hwa;refine hK.out _ _ (fun _=>HELD _ Ka.out) ?_
    have hHeld:=HELD _ Ka.out;clear hK K;try simp only[Act.put,Zp]
    refine OrdS.rest_ready (rs:=[8]) (by kernel_rfl) (by simp) ?_
    refine OrdS.Each.cons rfl (fun K hK=>?_) OrdS.Each.nil
    simp only[Zp];rw[if_pos (by rfl)]
    go_simp
    refine(zni wa w6.heap.size d d d _ _ _ _ Ca.out (UR.out.keep Ja.out) (SR.out.keep Ja.out) (by omega) SUM.out).mono ?_
    rintro e' w8 ⟨G,c8,rfl,r8,k8⟩;have K8:Hid (Keep w4 w8):=Ka.out.trans k8;have K8w:Hid (Keep w w8):=KW4.out.trans K8.out;replace k8:=Zq k8;replace r8:=Zq r8;go_wp2_with fail;refine hK.out _ _ (fun _=>HELD _ K8.out) ?_
    have hHeld:=HELD _ K8.out;clear hK K;try simp only[Act.put,Zp]
    refine OrdS.rt 9 (.tuple #[.slice G d c8,.bool true]) hHeld ?_
    simp only[Act.put,Zp];refine OrdS.rt 10 (.slice G d c8) hHeld ?_
    simp only[Act.put,Zp];refine OrdS.rt 11 (.bool true) hHeld ?_
    simp only[Act.put,Zp];refine OrdS.rt 12 (.slice G d c8) hHeld ?_
    simp only[Act.put,Zp];refine OrdS.rt 13 (.bool true) hHeld ?_
    simp only[Act.put,Zp];refine OrdS.rest_done (by kernel_rfl) ?_ _
    clear hHeld;go_wp2;go_ret
    exact⟨G,c8,rfl,by rw[hZ2.out];exact r8.out,K8w.out⟩
end Go.Proofs.YtcogiogjpbkeaaaGreatDoor.T16
namespace Go.Proofs.YtcogiogjpbkeaaaGreatDoor.T16
open Go.RowKit Go.Sort Go.Lib V12 T13 T14 T15
def zbo(O:Int->Bool)(p:zaa)(nd:Int)(L:List zaa)(j:Nat):Int:=zam (zej O L) nd j+zbs (zbt p nd L) j
def zru(O:Int->Bool)(p:zaa)(nd:Int)(N:List C14.NdC)(L:List zaa)(d:Nat):Bool:=decide (nd∈C14.keys N/\¬0<=zak p.m p.Z d/\∀ k,k<d->zbo O p nd L k+p.Z k<=(C14.getL N nd).C k)
set_option maxRecDepth 100000 in
set_option maxHeartbeats 4000000 in
theorem zvb(x:RcV)(d:Nat)(hd:x.d=d)(hd64:d<=64)(p:zaa)(nd:Int)(WA:Option Addr)(wn wc:Nat)(WZ:Nat->Int)(O:Int->Bool)(hO:∀ k,O k=true↔∃ j,j<wn/\WZ j=k)(Q:Nat->C14.NdC)(P:Nat->zaa)(w:World)(hN:C14.RdC w x.A x.n Q)(hQ:∀ i,i<x.n->(Q i).n=d)(hR:zai w x.B x.m P)(hm:x.m<=100)(hp:∀ j,j<x.m->(P j).m=d/\∀ k,k<d->Amt ((P j).Z k))(hW:Rd w WA wn WZ)(hP:zah w p):
  Calls Tryz.prog 21 #[x.val,p.val,.int .i64 nd,.slice WA wn wc] w fun e' w'=>e'=.returned (.bool (zru O p nd (C14.lst Q x.n) (T13.lst P x.m) d))/\Keep w w':=by
 have mixed:Tryz.prog.follows .mixedOrders=true:=by kernel_rfl
 obtain⟨xd,A,n,c,B,m,e⟩:=x;simp only at hd hN hQ hR hm hp ⊢;obtain⟨rs,hrs⟩:=Zn (zru O p nd (C14.lst Q n) (T13.lst P m) d);rw[<- hrs];have hrs2:=hrs;unfold zru at hrs2;replace hrs:=Zq hrs;have s0:(w.alloc (.cells (RcV.arr ⟨xd,A,n,c,B,m,e⟩) 30)).heap.size=w.heap.size+1:=World.size_alloc _ _;obtain⟨W0,hW0⟩:=Zn ((w.alloc (.cells (RcV.arr ⟨xd,A,n,c,B,m,e⟩) 30)).alloc (.cells (zac p) 26));have K0:Hid (Keep w W0):=by rw[hW0];exact(Keep.one _ _).alloc _
 have B3:Hid (W0.heap[w.heap.size]?=some (.cells (RcV.arr ⟨xd,A,n,c,B,m,e⟩) 30 (0,0))):=by rw[hW0];exact(Keep.one _ _).block (heap_alloc_new _ _)
 have B4:Hid (W0.heap[w.heap.size+1]?=some (.cells (zac p) 26 (0,0))):=by rw[hW0,<- s0];exact heap_alloc_new _ _
 obtain⟨b3,hb3⟩:=Zn (w.heap.size);obtain⟨b4,hb4⟩:=Zn (w.heap.size+1);rw[<- hb3] at B3;rw[<- hb4] at B4;have cF:Hid (Calls Tryz.prog 44 #[RcV.val ⟨xd,A,n,c,B,m,e⟩,.int .i64 nd] W0 fun e' w'=>e'=.returned (.int .i64 (C14.findN Q nd n))/\w'=W0.alloc (.cells (RcV.arr ⟨xd,A,n,c,B,m,e⟩) 30)):=zgr ⟨xd,A,n,c,B,m,e⟩ Q nd W0 (hN.row.keep K0.out)
 have CO:Hid (∀ Wz,Keep W0 Wz->Calls Tryz.prog 47 #[RcV.val ⟨xd,A,n,c,B,m,e⟩,p.val,.int .i64 nd,.slice WA wn wc] Wz fun e' w'=>∃ G c',e'=.returned (.slice G d c')/\Rd w' G d (if C14.findN Q nd n<0 then fun _=>0 else fun j=>zbo O p nd (T13.lst P m) j)/\Keep Wz w'):=fun Wz kk=>aca ⟨xd,A,n,c,B,m,e⟩ d hd hd64 p nd WA wn wc WZ O hO Q P Wz (hN.row.keep (K0.out.trans kk)) (hR.keep (K0.out.trans kk)) hm hp (hW.keep (K0.out.trans kk))
 have RP:=Zq hP.rd;have am:∀ L:List zaa,(∀ y∈L,y∈T13.lst P m)->∀ k,k<d->∀ y∈L,Amt (y.Z k):=fun L hL k hk y hy=>by
  obtain⟨i,hi,e1⟩:=lst_mem.1 (hL y hy);rw[<- e1];exact(hp i hi).2 k hk
 have LB:Hid (∀ k,k<d->0<=zbo O p nd (T13.lst P m) k/\zbo O p nd (T13.lst P m) k<=219902325555200):=fun k hk=>by
  have h1:=am (zej O (T13.lst P m)) (fun y hy=>(List.mem_filter.1 hy).1) k hk
  have h2:=zhv (id:=nd) h1;have h4:=zfu (id:=nd) h1;have h3:(zej O (T13.lst P m)).length<=m:=Nat.le_trans (List.length_filter_le _ _) (by rw[lst_len];exact Nat.le_refl _)
  have h5:=zqr (L:=zbt p nd (T13.lst P m)) (j:=k) (n:=m) (Nat.le_trans (List.length_filter_le _ _) (by rw[lst_len];exact Nat.le_refl _)) hm (am (zbt p nd (T13.lst P m)) (fun y hy=>(List.mem_filter.1 hy).1) k hk)
  unfold zbo;omega
 clear am;have hm1:max (d:Int) 0=d:=by omega
 replace hR:=Zq hR;replace hp:=Zq hp;replace hO:=Zq hO;replace hW:=Zq hW;replace hP:=Zq hP;replace s0:=Zq s0;rcases C14.find_cases Q nd n with ⟨f1,f2⟩ | ⟨i,hi,f1,_,f2,f3⟩
 ·have er:rs=false:=by rw[hrs2];exact decide_eq_false fun h=>f2 h.1
  subst er;rw[f1] at cF;replace f2:=Zq f2;replace hN:=Zq hN;replace hQ:=Zq hQ;replace hd:=Zq hd;replace hrs2:=Zq hrs2;unfold RcV.val zaa.val at *;unfold RcV.arr zac at hW0;simp only at hW0 cF
  go_enter Tryz.func21,Tryz.ntmps21
  go_wp2_with fail;rw[<- hW0,<- hb4,<- hb3];replace hW0:=Zq hW0;replace hb3:=Zq hb3;replace hb4:=Zq hb4;refine cF.out.mono ?_;rintro e' w4 ⟨rfl,hw4⟩;have K4:Hid (Keep W0 w4):=by rw[hw4];exact Keep.one _ _
  replace hw4:=Zq hw4;have KW4:Hid (Keep w w4):=K0.out.trans K4.out;have B3w:Hid (w4.heap[b3]?=some (.cells (RcV.arr ⟨xd,A,n,c,B,m,e⟩) 30 (0,0))):=Keep.block K4.out B3.out;have B4w:Hid (w4.heap[b4]?=some (.cells (zac p) 26 (0,0))):=Keep.block K4.out B4.out;obtain⟨c0,c1,c2,_⟩:=zab B3w.out;simp only at c0 c1 c2;have p4:=(zae B4w.out).e4;go_wp2;go_ret
  exact⟨rfl,KW4.out⟩
 ·subst hd
  rw[f1] at cF CO;rw[f3] at hrs2;have hneg:decide ((i:Int)<0)=false:=decide_eq_false (by omega)
  have CO2:Hid (∀ Wz,Keep W0 Wz->Calls Tryz.prog 47 #[RcV.val ⟨d,A,n,c,B,m,e⟩,p.val,.int .i64 nd,.slice WA wn wc] Wz fun e' w'=>∃ G c',e'=.returned (.slice G d c')/\Rd w' G d (zbo O p nd (T13.lst P m))/\Keep Wz w'):=fun Wz kk=>by
   have:=CO.out Wz kk;rw[if_neg (by omega)] at this
   exact this
  clear CO;obtain⟨wv,hwv⟩:=Zn (zak p.m p.Z d);rw[<- hwv] at hrs2;have cW:Hid (∀ Wz,Keep w Wz->Calls Tryz.prog 45 #[.slice p.A p.m p.c,.int .i64 d] Wz fun e' w'=>e'=.returned (.int .i64 wv)/\w'=Wz):=fun Wz kk=>by rw[hwv];exact zgz p.A p.m p.c p.Z d Wz (RP.out.keep kk)
  by_cases hw:0<=wv
  ·have er:rs=false:=by rw[hrs2];exact decide_eq_false fun h=>h.2.1 hw
   subst er;have hwb:decide (0<=wv)=true:=decide_eq_true hw;replace hw:=Zq hw;replace hwv:=Zq hwv;replace f1:=Zq f1;replace f2:=Zq f2;replace f3:=Zq f3;replace hN:=Zq hN;replace hQ:=Zq hQ;replace hrs2:=Zq hrs2;unfold RcV.val zaa.val at *;unfold RcV.arr zac at hW0;simp only at hW0 cF
   go_enter Tryz.func21,Tryz.ntmps21
   go_wp2_with fail;rw[<- hW0,<- hb4,<- hb3];replace hW0:=Zq hW0;replace hb3:=Zq hb3;replace hb4:=Zq hb4;refine cF.out.mono ?_;rintro e' w4 ⟨rfl,hw4⟩;have K4:Hid (Keep W0 w4):=by rw[hw4];exact Keep.one _ _
   replace hw4:=Zq hw4;have KW4:Hid (Keep w w4):=K0.out.trans K4.out;have B3w:Hid (w4.heap[b3]?=some (.cells (RcV.arr ⟨d,A,n,c,B,m,e⟩) 30 (0,0))):=Keep.block K4.out B3.out;have B4w:Hid (w4.heap[b4]?=some (.cells (zac p) 26 (0,0))):=Keep.block K4.out B4.out;obtain⟨c0,c1,c2,_⟩:=zab B3w.out;simp only at c0 c1 c2;have p4:=(zae B4w.out).e4;go_wp2_with fail;try simp only[hm1]
   refine(cW.out _ KW4.out).mono ?_;rintro e' w5 ⟨rfl,rfl⟩;go_wp2;go_ret
   exact⟨rfl,KW4.out⟩
  ·have hnw:¬0<=zak p.m p.Z (d:Int):=by rw[<- hwv];exact hw
   obtain⟨hpm0,hpz⟩:=wrong_no hnw;have hpm:Hid (p.m=d):=hpm0;have hwb:decide (0<=wv)=false:=decide_eq_false hw;have er:rs=zcm d (fun k=>zbo O p nd (T13.lst P m) k+p.Z k) d (Q i).C:=by
    rw[hrs2];unfold zcm;rw[decide_eq_decide];exact⟨fun h=>⟨rfl,h.2.2⟩,fun h=>⟨f2,hw,h.2⟩⟩
   have SUM:Hid (∀ k,k<d->-9223372036854775808<=zbo O p nd (T13.lst P m) k+p.Z k/\zbo O p nd (T13.lst P m) k+p.Z k<=9223372036854775807):=fun k hk=>by
    have h1:=LB.out k hk;have h2:0<=p.Z k/\p.Z k<=1099511627776:=hpz k (by omega)
    omega
   rw[hpm0] at RP;obtain⟨gn,of2,hAA,cn⟩:=hN.row.adr (by omega)
   subst hAA;have q2:=C14.atN gn of2 n c i hi;have n1:=Zq (cn i hi).e1;have nr:=Zq (hN.rd i hi);rw[hQ i hi] at n1 nr;obtain⟨nA,hnA⟩:=Zn ((Q i).A);obtain⟨nc,hnc⟩:=Zn ((Q i).c);obtain⟨nC,hnC⟩:=Zn ((Q i).C);rw[<- hnA,<- hnc] at n1;rw[<- hnA,<- hnC] at nr;rw[<- hnC] at er;have cFit:Hid (∀ W' G' c',Rd W' G' d (fun k=>zbo O p nd (T13.lst P m) k+p.Z k)->Keep w W'->Calls Tryz.prog 48 #[.slice G' d c',.slice nA d nc] W' fun e' w'=>e'=.returned (.bool rs)/\Keep w w'):=fun W' G' c' hu kk=>(zkv G' nA d d c' nc _ nC W' hu (nr.out.keep kk)).mono fun _ _ ⟨he,k3⟩=>⟨by rw[er];exact he,kk.trans k3.keep⟩
   clear cn;replace hw:=Zq hw;replace hwv:=Zq hwv;replace f1:=Zq f1;replace f2:=Zq f2;replace f3:=Zq f3;replace hN:=Zq hN;replace hQ:=Zq hQ;replace hrs2:=Zq hrs2;replace hpz:=Zq hpz;replace hpm0:=Zq hpm0;replace er:=Zq er;replace hnA:=Zq hnA;replace hnc:=Zq hnc;replace hnC:=Zq hnC;unfold RcV.val zaa.val at *;unfold RcV.arr zac at hW0;simp only at hW0 cF
   go_enter Tryz.func21,Tryz.ntmps21
   go_wp2_with fail;rw[<- hW0,<- hb4,<- hb3];replace hW0:=Zq hW0;replace hb3:=Zq hb3;replace hb4:=Zq hb4;refine cF.out.mono ?_;rintro e' w4 ⟨rfl,hw4⟩;have K4:Hid (Keep W0 w4):=by rw[hw4];exact Keep.one _ _
   replace hw4:=Zq hw4;have KW4:Hid (Keep w w4):=K0.out.trans K4.out;have B3w:Hid (w4.heap[b3]?=some (.cells (RcV.arr ⟨d,some ⟨gn,of2,none⟩,n,c,B,m,e⟩) 30 (0,0))):=Keep.block K4.out B3.out;have B4w:Hid (w4.heap[b4]?=some (.cells (zac p) 26 (0,0))):=Keep.block K4.out B4.out;obtain⟨c0,c1,c2,_⟩:=zab B3w.out;simp only at c0 c1 c2;have p4:=(zae B4w.out).e4;have CO:Hid (∀ Wz,Keep w4 Wz->Calls Tryz.prog 47 #[.agg #[.int .i64 d,.slice (some ⟨gn,of2,none⟩) n c,.slice B m e],.agg #[.int .i64 p.k,.int .i64 p.p,.bool p.f,.int .i64 p.g,.slice p.A p.m p.c,.int .i64 p.a,.int .i64 p.h,.int .i64 p.d,.int .i64 p.t],.int .i64 nd,.slice WA wn wc] Wz fun e' w'=>∃ G c',e'=.returned (.slice G d c')/\Rd w' G d (zbo O p nd (T13.lst P m))/\Keep Wz w'):=fun Wz kk=>CO2.out Wz (K4.out.trans kk)
   go_wp2_with fail;try simp only[hm1]
   refine(cW.out _ KW4.out).mono ?_;rintro e' w5 ⟨rfl,h5⟩;rw[h5];clear h5 c0 c1 c2 p4;go_upto_region 4 with fail
   have HELD:∀ Wz,Keep w4 Wz->(Wz.cell? ⟨b3,0,none⟩=some (.int .i64 d)/\Wz.cell? ⟨b3,1,none⟩=some (.slice (some ⟨gn,of2,none⟩) n c)/\Wz.cell? ⟨b3,2,none⟩=some (.slice B m e)/\Wz.cell? ⟨b4,0,none⟩=some (.int .i64 p.k)/\Wz.cell? ⟨b4,1,none⟩=some (.int .i64 p.p)/\Wz.cell? ⟨b4,2,none⟩=some (.bool p.f)/\Wz.cell? ⟨b4,3,none⟩=some (.int .i64 p.g)/\Wz.cell? ⟨b4,4,none⟩=some (.slice p.A p.m p.c)/\Wz.cell? ⟨b4,5,none⟩=some (.int .i64 p.a)/\Wz.cell? ⟨b4,6,none⟩=some (.int .i64 p.h)/\Wz.cell? ⟨b4,7,none⟩=some (.int .i64 p.d)/\Wz.cell? ⟨b4,8,none⟩=some (.int .i64 p.t)):=fun Wz KK=>⟨(zab (Keep.block KK B3w.out)).1,(zab (Keep.block KK B3w.out)).2.1,(zab (Keep.block KK B3w.out)).2.2.1,(zae (Keep.block KK B4w.out)).e0,(zae (Keep.block KK B4w.out)).e1,(zae (Keep.block KK B4w.out)).e2,(zae (Keep.block KK B4w.out)).e3,(zae (Keep.block KK B4w.out)).e4,(zae (Keep.block KK B4w.out)).e5,(zae (Keep.block KK B4w.out)).e6,(zae (Keep.block KK B4w.out)).e7,(zae (Keep.block KK B4w.out)).e8⟩
   refine OrdS.rest_start (fun w'=>w'.cell? ⟨b3,0,none⟩=some (.int .i64 d)/\w'.cell? ⟨b3,1,none⟩=some (.slice (some ⟨gn,of2,none⟩) n c)/\w'.cell? ⟨b3,2,none⟩=some (.slice B m e)/\w'.cell? ⟨b4,0,none⟩=some (.int .i64 p.k)/\w'.cell? ⟨b4,1,none⟩=some (.int .i64 p.p)/\w'.cell? ⟨b4,2,none⟩=some (.bool p.f)/\w'.cell? ⟨b4,3,none⟩=some (.int .i64 p.g)/\w'.cell? ⟨b4,4,none⟩=some (.slice p.A p.m p.c)/\w'.cell? ⟨b4,5,none⟩=some (.int .i64 p.a)/\w'.cell? ⟨b4,6,none⟩=some (.int .i64 p.h)/\w'.cell? ⟨b4,7,none⟩=some (.int .i64 p.d)/\w'.cell? ⟨b4,8,none⟩=some (.int .i64 p.t)) [] (by kernel_rfl) ?_ (fun hHeld=>?_)
   ·exact HELD _ (Keep.refl w4).drew
   obtain⟨wt0,hwt0⟩:=Zn (w4.drew);have Kwt0:Hid (Keep w4 wt0):=by rw[hwt0];exact(Keep.refl _).drew
   rw[<- hwt0] at hHeld ⊢;replace hwt0:=Zq hwt0;refine OrdS.rt 0 (.agg #[.int .i64 d,.slice (some ⟨gn,of2,none⟩) n c,.slice B m e]) hHeld ?_
   simp only[Act.put,Zp];refine OrdS.rt 1 (.agg #[.int .i64 p.k,.int .i64 p.p,.bool p.f,.int .i64 p.g,.slice p.A p.m p.c,.int .i64 p.a,.int .i64 p.h,.int .i64 p.d,.int .i64 p.t]) hHeld ?_
   simp only[Act.put,Zp];refine OrdS.rt 2 (.int .i64 nd) hHeld ?_
   simp only[Act.put,Zp];refine OrdS.rt 3 (.slice WA wn wc) hHeld ?_
   simp only[Act.put,Zp];refine OrdS.rt 5 (.pointer (some ⟨b4,4,none⟩)) hHeld ?_
   simp only[Act.put,Zp];refine OrdS.rt 6 (.slice p.A p.m p.c) hHeld ?_
   simp only[Act.put,Zp];refine OrdS.rest_ready (rs:=[4]) (by kernel_rfl) (by simp) ?_
   refine OrdS.Each.cons rfl (fun K hK=>?_) OrdS.Each.nil
   simp only[Zp];rw[if_pos (by rfl)]
   go_simp
   refine(CO.out _ Kwt0.out).mono ?_;rintro e' w6 ⟨G1,c1,rfl,r6,k6⟩;have K6:Hid (Keep w4 w6):=Kwt0.out.trans k6;replace k6:=Zq k6;replace r6:=Zq r6;go_wp2_with fail;refine hK.out _ _ (fun _=>HELD _ K6.out) ?_
   have hHeld:=HELD _ K6.out;clear hK K;try simp only[Act.put,Zp]
   refine OrdS.rest_ready (rs:=[7]) (by kernel_rfl) (by simp) ?_
   refine OrdS.Each.cons rfl (fun K hK=>?_) OrdS.Each.nil
   simp only[Zp];rw[if_pos (by rfl)]
   go_simp
   rw[hpm.out];obtain⟨wa,hwa⟩:=Zn (w6.alloc (.cells #[.slice G1 d c1,.slice p.A d p.c] 24));have Ja:Hid (Keep w6 wa):=by rw[hwa];exact Keep.one _ _
   have Ka:Hid (Keep w4 wa):=K6.out.trans Ja.out;have Ca:Hid (wa.heap[w6.heap.size]?=some (.cells #[.slice G1 d c1,.slice p.A d p.c] 24 (0,0))):=by rw[hwa];exact heap_alloc_new _ _
   rw[<- hwa];replace hwa:=Zq hwa;refine hK.out _ _ (fun _=>HELD _ Ka.out) ?_
   have hHeld:=HELD _ Ka.out;clear hK K;try simp only[Act.put,Zp]
   refine OrdS.rest_ready (rs:=[8]) (by kernel_rfl) (by simp) ?_
   refine OrdS.Each.cons rfl (fun K hK=>?_) OrdS.Each.nil
   simp only[Zp];rw[if_pos (by rfl)]
   go_simp
   refine(zni wa w6.heap.size d c1 p.c _ _ _ _ Ca.out (r6.out.keep Ja.out) (RP.out.keep (KW4.out.trans Ka.out)) (by omega) SUM.out).mono ?_
   rintro e' w8 ⟨G,c8,rfl,r8,k8⟩;have K8:Hid (Keep w4 w8):=Ka.out.trans k8;have K8w:Hid (Keep w w8):=KW4.out.trans K8.out;replace k8:=Zq k8;replace r8:=Zq r8;go_wp2_with fail;refine hK.out _ _ (fun _=>HELD _ K8.out) ?_
   have hHeld:=HELD _ K8.out;clear hK K;try simp only[Act.put,Zp]
   refine OrdS.rt 9 (.tuple #[.slice G d c8,.bool true]) hHeld ?_
   simp only[Act.put,Zp];refine OrdS.rt 10 (.slice G d c8) hHeld ?_
   simp only[Act.put,Zp];refine OrdS.rt 11 (.bool true) hHeld ?_
   simp only[Act.put,Zp];refine OrdS.rt 12 (.slice G d c8) hHeld ?_
   simp only[Act.put,Zp];refine OrdS.rt 13 (.bool true) hHeld ?_
   simp only[Act.put,Zp];refine OrdS.rest_done (by kernel_rfl) ?_ _
   obtain⟨c0,c1,c2,_⟩:=zab (Keep.block K8.out B3w.out);simp only at c0 c1 c2;have n2:=K8w.out.cell n1.out;clear hHeld HELD;go_wp2_with fail;refine(cFit.out _ _ _ r8.out K8w.out).mono ?_;rintro e' w9 ⟨rfl,k9⟩;replace k9:=Zq k9;go_wp2;go_ret
   exact⟨rfl,k9.out⟩
end Go.Proofs.YtcogiogjpbkeaaaGreatDoor.T16
namespace Go.Proofs.YtcogiogjpbkeaaaGreatDoor.R14
open Go.RowKit V12
end Go.Proofs.YtcogiogjpbkeaaaGreatDoor.R14
