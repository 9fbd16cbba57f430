/-
  load.Of. Condition: at most 100 pods, the dimension is at most 64.
  The law's awake, over the contracts of package load. Condition: errors.errorType holds its own.
  load.compared, Fits, Left, Short; the contracts of package load over the program. Conditions: at most 100 nodes and pods, the dimension is at most 64.
-/
import Derived.Test.YtcogiogjpbkeaaaGreatDoorJ0
import Derived.Test.YtcogiogjpbkeaaaGreatDoorJ43
namespace Go.Proofs.YtcogiogjpbkeaaaGreatDoor.T16
open Go.RowKit Go.Sort Go.Lib V12 T13 T14 T15
def nth(T:List zaa)(r:Nat):zaa:=(T[r]?).getD zaf
theorem aha(T:List zaa):T13.lst (nth T) T.length=T:=by
 refine List.ext_getElem? fun i=>?_
 by_cases h:i<T.length
 ·rw[zaw h,List.getElem?_eq_getElem h]
  unfold nth;rw[List.getElem?_eq_getElem h];rfl
 ·rw[List.getElem?_eq_none (by rw[T13.lst_len];omega),List.getElem?_eq_none (by omega)]
theorem zwq{T:List zaa}{r:Nat}(h:r<T.length):nth T r∈T:=by
 unfold nth;rw[List.getElem?_eq_getElem h];exact List.getElem_mem h
theorem zxk(a:Int)(f:Nat->Int):∀ n,sumTo (n+1) (fun r=>if r=0 then a else f (r - 1))=a+sumTo n f
 | 0=>by
   show sumTo 0 _+(if 0=0 then a else f (0 - 1))=a+0
   rw[if_pos rfl];show(0:Int)+a=a+0
   omega
 | n+1=>by
   have h:=zxk a f n;show sumTo (n+1) _+(if n+1=0 then a else f (n+1 - 1))=a+(sumTo n f+f n)
   rw[h,if_neg (by omega),Nat.add_sub_cancel]
   omega
theorem zxj(S:Nat->zaa)(j:Nat):∀ n,sumTo n (fun r=>(S r).Z j)=zbs (T13.lst S n) j
 | 0=>rfl
 | n+1=>by
   rw[T13.lst_succ,zhu,<- zxj S j n];show sumTo n _+(S n).Z j=_+((S n).Z j+0)
   omega
theorem aiq(Y:Nat->Int)(T:List zaa)(i:Nat):sumTo (T.length+1) (fun r=>(if r=0 then Y else(nth T (r - 1)).Z) i)=Y i+zbs T i:=by
 have h:=zxk (Y i) (fun r=>(nth T r).Z i) T.length
 rw[zxj,aha] at h;rw[<- h]
 congr 1
 funext r
 by_cases e:r=0
 ·rw[if_pos e,if_pos e]
 ·rw[if_neg e,if_neg e]
theorem ams{w:World}{base d g:Nat}{v:Value}{T:List zaa}{Y:Nat->Int}(hO:w.ownsRow base 24 1 v (T.length+1) (.slice (some ⟨g,0,none⟩) d d :: T.map rqV))(hz:Rd w (some ⟨g,0,none⟩) d Y)(hT:∀ y∈T,zah w y)(hn:T.length<=100):∃ A c,v=.slice A (T.length+1) c /\
  Rds w A (T.length+1) (fun r=>if r=0 then some ⟨g,0,none⟩ else(nth T (r - 1)).A) (fun r=>if r=0 then d else(nth T (r - 1)).m) (fun r=>if r=0 then d else(nth T (r - 1)).c) (fun r=>if r=0 then Y else(nth T (r - 1)).Z):=by
 obtain⟨g2,cap,rfl,_⟩:=hO.form (by omega)
 refine⟨_,_,rfl,by omega,fun _=>⟨g2,0,rfl,fun r hr=>?_⟩,fun r hr=>?_⟩
 ·rw[Nat.zero_add,hO.cellAt r (by omega)]
  rcases r with _ | r
  ·rfl
  ·have hr2:r<T.length:=by omega
   rw[List.getElem?_cons_succ,List.getElem?_map,List.getElem?_eq_getElem hr2];show some (rqV T[r])=some (rqV (nth T r))
   unfold nth;rw[List.getElem?_eq_getElem hr2];rfl
 ·rcases r with _ | r
  ·exact hz
  ·exact(hT _ (zwq (by omega))).rd
theorem zom(O:Int->Bool)(nd:Int)(j:Nat)(L:List zaa):zbs ((L.filter (onB nd)).filter (zfz O)) j=zam (zej O L) nd j:=by
 induction L with
 | nil=>rfl
 | cons y L ih =>
   unfold zej at ih ⊢
   by_cases hO:O y.k=true
   ·rw[List.filter_cons_of_neg (p:=fun y:zaa=>!O y.k) (by simp[hO]),<- ih]
    by_cases h1:onB nd y=true
    ·rw[List.filter_cons_of_pos h1,List.filter_cons_of_neg (by unfold zfz;rw[hO];simp)]
    ·rw[List.filter_cons_of_neg h1]
   ·have hO2:O y.k=false:=by simpa using hO
    rw[List.filter_cons_of_pos (p:=fun y:zaa=>!O y.k) (by simp[hO2])]
    show _=zbm nd j y+_
    rw[<- ih]
    by_cases h1:holds nd y=true
    ·have h2:=of_decide_eq_true h1
     have h3:onB nd y=true:=decide_eq_true ⟨h2.1,by omega,by omega⟩
     have h4:zfz O y=true:=by unfold zfz hdP;rw[hO2,decide_eq_true h2.2];rfl
     rw[List.filter_cons_of_pos h3,List.filter_cons_of_pos h4];unfold zbm;rw[if_pos h1];rfl
    ·unfold zbm
     rw[if_neg h1]
     by_cases h3:onB nd y=true
     ·have h4:¬zfz O y=true:=fun e=>h1 (by
       unfold zfz hdP at e;have e:=of_decide_eq_true (Bool.and_eq_true_iff.1 e).1
       exact decide_eq_true ⟨(amz h3).1,e⟩)
      rw[List.filter_cons_of_pos h3,List.filter_cons_of_neg h4];omega
     ·rw[List.filter_cons_of_neg h3]
      omega
theorem adp{f:zaa->Int}{L:List zaa}(h:∀ y∈L,f y=0):smF f L=0:=by
 induction L with
 | nil=>rfl
 | cons y L ih =>
   show f y+smF f L=0
   rw[h y (by simp),ih fun z hz=>h z (by simp[hz])]
   rfl
theorem aaz{d:Nat}{M:List NV}{L:List zaa}(ok:Ok d M L){nd:Int}(hk:nd∉nk M)(O:Int->Bool)(p:zaa)(j:Nat):zbo O p nd L j=0:=by
 rw[zex];refine adp fun y hy=>?_
 unfold ldF;have a1:zbm nd j y=0:=zok fun e=>hk (by rw[<- e.1];exact ok.plc y hy (by omega) (by omega))
 have a2:¬zcj p nd y=true:=fun e=>by
  have e:=of_decide_eq_true e;exact hk (by rw[<- e.2.2.1];exact ok.plc y hy (by omega) (by omega))
 rw[a1,if_neg a2]
 split<;>rfl
theorem zjr{d:Nat}{M:List NV}{L:List zaa}(ok:Ok d M L)(nd:Int)(O:Int->Bool)(p:zaa)(j:Nat):ofZ O p nd M L j=zbo O p nd L j:=by
 unfold ofZ
 by_cases h:nd∈nk M
 ·rw[if_pos h]
 ·rw[if_neg h,aaz ok h]
section
variable{CS:zbn}{w w1:World}{d q:Nat}{M:List NV}{L:List zaa}{X:Nat->Prop}
set_option maxRecDepth 100000 in
set_option maxHeartbeats 8000000 in
theorem aba(C:Con CS)(h:CS w d q M L X w1)(p:zaa)(nd:Int)(hd:I64 nd)(A:Option Addr)(n c:Nat)(O:Int->Bool)(hS:zcq w1 A n O)(h64:d<=64)(hl:L.length<=100):
  Calls Tryz.prog 87 #[.pointer (some ⟨q,0,none⟩),p.val,.int .i64 nd,.slice A n c] w1 fun e w'=>∃ v,e=.returned v/\Row w' v d (ofZ O p nd M L)/\(∀ g,v.ownBlock=some g->w1.heap.size<=g)/\Keep w1 w':=by
 have ok:=Zq (C.ok h);obtain⟨Z,hZ0,hO0⟩:=hS;have hZ:=Zq hZ0;have hO:=Zq hO0;clear hZ0 hO0;obtain⟨W,hW⟩:=Zn ((w1.alloc (.cells (zac p) 26)).alloc (.cells #[.slice none 0 0] 82));have s0:(w1.alloc (.cells (zac p) 26)).heap.size=w1.heap.size+1:=World.size_alloc _ _;have kW:Hid (Keep w1 W):=by rw[hW];exact(Keep.one _ _).alloc _
 have bP:Hid (W.heap[w1.heap.size]?=some (.cells (zac p) 26 (0,0))):=by rw[hW];exact(Keep.one _ _).block (heap_alloc_new _ _)
 have bB:Hid (Boxed W (w1.heap.size+1) 82 (.slice none 0 0)):=by rw[hW,<- s0];exact Boxed.new _ _ _
 have cS:=Zq (aia C (C.keep h kW.out) p nd hd hl h64);have P0:=zae bP.out;have c0:=P0.e0;have c1:=P0.e1;have c2:=P0.e2;have c3:=P0.e3;have c4:=P0.e4;have c5:=P0.e5;have c6:=P0.e6;have c7:=P0.e7;have c8:=P0.e8;clear P0;rw[hW] at c0 c1 c2 c3 c4 c5 c6 c7 c8;have hmf:=@hmf;replace h:=Zq h;replace s0:=Zq s0;replace hd:=Zq hd;unfold zac at hW c0 c1 c2 c3 c4 c5 c6 c7 c8;unfold zaa.val at cS;unfold zaa.val
 go_enter Tryz.func87,Tryz.ntmps87
 go_wp2_with fail;rw[<- hW];replace hW:=Zq hW;clear c0 c1 c2 c3 c4 c5 c6 c7 c8;refine cS.out.mono ?_;rintro e w2 ⟨g,rfl,g1,g2,rz,k2⟩;obtain⟨pb,hpb⟩:=Zn (w1.heap.size+1);rw[<- hpb] at bB ⊢;have gW:Hid (pb<g):=Nat.lt_of_lt_of_le bB.out.lt g1;have b2:Hid (Boxed w2 pb 82 (.slice none 0 0)):=Keep.block k2 bB.out;obtain⟨bs,hbs⟩:=Zn (w2.heap.size);have gb:Hid (g<bs):=by rw[hbs];exact g2
 have K2:Hid (Keep w1 w2):=kW.out.trans k2;have r2:Hid (w2.ownsRow bs 24 1 (.slice none 0 0) 0 []):=World.ownsRow_nil _ _ _ _;have d1:=Zq (abk (some ⟨g,0,none⟩) d d b2.out r2.out (Nat.le_of_eq hbs) (by omega))
 replace rz:=Zq rz;replace k2:=Zq k2;replace g1:=Zq g1;replace g2:=Zq g2;replace hbs:=Zq hbs;have pb1:Hid (w1.heap.size<=pb):=by rw[hpb];exact Nat.le_succ _
 replace hpb:=Zq hpb;clear cS bB;go_wp2_with fail;refine d1.out.mono ?_;rintro e w3 ⟨rfl,v3,b3,r3,f3⟩;have K3:Hid (Keep w1 w3):=Fr.low K2.out f3 fun i hi=>by
  rcases hi with e | e
  ·rw[e];exact pb1.out
  ·cases e
 have z3:Hid (Rd w3 (some ⟨g,0,none⟩) d (zbs (zbt p nd L))):=znk rz.out (f3.block g g2.out fun hi=>by
  rcases hi with e | e
  ·have:=gW.out;omega
  ·cases e)
 have s3:Hid (bs<=w3.heap.size):=by rw[hbs.out];exact f3.size
 have cT:=Zq (alk A n c Z w3 (hZ.out.keep K3.out));replace b3:=Zq b3;replace r3:=Zq r3;replace f3:=Zq f3;clear d1 b2 r2;go_wp2_with fail;refine cT.out.mono ?_;rintro e w4 ⟨mb,l,rfl,hmb,I4,S4,k4⟩;have b4:Hid (Boxed w4 pb 82 v3):=Keep.block k4 b3.out;have r4:=Zq (zal r3.out k4);have z4:=Zq (z3.out.keep k4);have K4:Hid (Keep w1 w4):=K3.out.trans k4;have s4:Hid (bs<=w4.heap.size):=Nat.le_trans s3.out k4.size;have cE:=Zq (zlv C (C.keep h.out K4.out) nd hd.out hl I4 (S4.look I4.nodup hO.out) b4.out r4.out s4.out);replace I4:=Zq I4;replace S4:=Zq S4;replace hmb:=Zq hmb;replace k4:=Zq k4;clear cT b3 r3 z3;go_wp2_with fail;refine cE.out.mono ?_;rintro e w5 ⟨rfl,v5,T,b5,r5,T5,e5,f5⟩;have K5:Hid (Keep w1 w5):=Fr.low K4.out f5 fun i hi=>by
  rcases hi with e | e
  ·rw[e];exact pb1.out
  ·have:=K2.out.size;have:=hbs.out;omega
 have z5:Rd w5 (some ⟨g,0,none⟩) d (zbs (zbt p nd L)):=znk z4.out (f5.block g (Nat.lt_of_lt_of_le gb.out s4.out) fun hi=>by
  have:=gW.out;have:=gb.out
  rcases hi with e | e<;>omega)
 have tl:T.length<=100:=by
  have h1:=congrArg List.length e5;rw[List.length_map] at h1;rw[h1];exact Nat.le_trans (Nat.le_trans (List.length_filter_le _ _) (List.length_filter_le _ _)) hl
 obtain⟨B5,c5,hv5,RD⟩:=ams r5 z5 T5 tl;subst hv5;have mem:∀ y∈T,∃ x∈L,nm y=x:=fun y hy=>by
  have h2:nm y∈(L.filter (onB nd)).filter (zfz O):=by rw[<- e5];exact List.mem_map_of_mem hy
  exact⟨_,(List.mem_filter.1 (List.mem_filter.1 h2).1).1,rfl⟩
 have hm:∀ y∈T,y.m=d/\∀ i,i<d->Amt (y.Z i):=fun y hy=>by
  obtain⟨x,hx,e⟩:=mem y hy;have:=ok.out.req x hx;rw[<- e] at this;exact this
 have sm:∀ i,sumTo (T.length+1) (fun r=>(if r=0 then zbs (zbt p nd L) else(nth T (r - 1)).Z) i)=ofZ O p nd M L i:=fun i=>by
  rw[aiq,zjr ok.out,<- zqs e5,zom];unfold zbo;omega
 have rg:∀ i,i<d->0<=ofZ O p nd M L i/\ofZ O p nd M L i<=219902325555200:=fun i hi=>by
  rw[zjr ok.out];unfold zbo;rw[<- zom,zqs e5];have h1:=zjz (L:=T) (j:=i) fun y hy=>(hm y hy).2 i hi
  have h2:=zjz (L:=zbt p nd L) (j:=i) fun y hy=>(ok.out.req y (List.mem_filter.1 hy).1).2 i hi
  have h3:(zbt p nd L).length<=100:=Nat.le_trans (List.length_filter_le _ _) hl;omega
 have ml:∀ r,r<T.length+1->(if r=0 then d else(nth T (r - 1)).m)=d:=fun r hr=>by
  rcases r with _ | r
  ·rfl
  ·exact(hm _ (zwq (by omega))).1
 have cA:=zmk B5 (T.length+1) c5 _ _ _ _ w5 RD (by omega) (fun r hr=>by
  show(if r=0 then d else(nth T (r - 1)).m)<=_
  rw[ml r hr]
  omega) (by omega)
 have aOk:zlb (T.length+1) (fun r=>if r=0 then d else(nth T (r - 1)).m) (fun r=>if r=0 then zbs (zbt p nd L) else(nth T (r - 1)).Z):=by
  refine⟨by omega,fun r hr=>(ml r hr).trans (ml 0 (by omega)).symm,fun i hi=>?_⟩
  have hi':i<d:=hi;rw[sm i];unfold inR;have:=rg i hi';exact decide_eq_true (by omega)
 have cA2:Hid (Calls Tryz.prog 86 #[.slice B5 (T.length+1) c5] w5 fun e w'=>∃ v,e=.returned (.tuple #[v,.bool true])/\Row w' v d (ofZ O p nd M L)/\(∀ g,v.ownBlock=some g->w1.heap.size<=g)/\Keep w1 w'):=by
  refine cA.mono ?_;rintro e w' ⟨k',⟨_,he,hr⟩ | ⟨hno,_⟩⟩
  ·refine⟨_,he,⟨_,_,rfl,zhr (World.rowIs.congr hr fun i hi=>by rw[sm i]) (by omega) fun i hi=>by have:=rg i hi;omega⟩,fun g hg=>?_,K5.out.trans k'⟩
   cases hg
   exact K5.out.size
  ·exact absurd aOk hno
 have y5:=b5.cell;replace b5:=Zq b5;replace r5:=Zq r5;replace T5:=Zq T5;replace e5:=Zq e5;replace f5:=Zq f5;clear cA RD mem hm sm rg ml aOk tl z5 cE;go_wp2_with fail;refine cA2.out.mono ?_;rintro e w6 ⟨v,rfl,h1,h2,h3⟩;replace h1:=Zq h1;replace h2:=Zq h2;replace h3:=Zq h3;go_wp2;go_ret
 exact⟨v,rfl,h1.out,h2.out,h3.out⟩
end
end Go.Proofs.YtcogiogjpbkeaaaGreatDoor.T16
namespace Go.Proofs.YtcogiogjpbkeaaaGreatDoor.T16
open Go.RowKit Go.Sort Go.Lib V12 T13 T14 T15
section
variable{CS:zbn}{w w1:World}{d q:Nat}{M:List NV}{L:List zaa}{X:Nat->Prop}
end
end Go.Proofs.YtcogiogjpbkeaaaGreatDoor.T16
namespace Go.Proofs.YtcogiogjpbkeaaaGreatDoor.T16
open Go.RowKit Go.Sort Go.Lib V12 T13 T14 T15
theorem zpd{p:zaa}{nd:Int}{M:List NV}{d:Nat}:zjc p nd M d=true↔nd∈nk M/\¬0<=zak p.m p.Z d:=decide_eq_true_iff
theorem zls(w:World)(p:zaa):∃ W,W=w.alloc (.cells (zac p) 26)/\Hid (Keep w W)/\Hid (W.heap[w.heap.size]?=some (.cells (zac p) 26 (0,0))):=⟨_,rfl,Keep.one _ _,heap_alloc_new _ _⟩
theorem zrh(w:World)(k:Int)(A:Option Addr)(n c:Nat):∃ W,W=w.alloc (.cells #[.int .i64 k,.slice A n c] 56)/\Hid (Keep w W)/\Hid (W.heap[w.heap.size]?=some (.cells #[.int .i64 k,.slice A n c] 56 (0,0))):=⟨_,rfl,Keep.one _ _,heap_alloc_new _ _⟩
theorem ahj{w:World}{b:Nat}{u v:Value}{T:TypeId}(h:w.heap[b]?=some (.cells #[u,v] T (0,0))):w.cell? ⟨b,1,none⟩=some v:=by rw[cell_of_row w _ _ _ _ _ h];rfl
def afe(w:World)(b:Bool)(d:Nat)(Y C:Nat->Int)(e:Ending)(w':World):Prop :=
 ∃ v u,e=.returned (.tuple #[v,u,.bool b])/\(b=true->Row w' v d Y/\Row w' u d C)/\(b=false->v=.slice none 0 0/\u=.slice none 0 0)/\Keep w w'
section
variable{CS:zbn}{w w1:World}{d q:Nat}{M:List NV}{L:List zaa}{X:Nat->Prop}
theorem zwn{d:Nat}{M:List NV}{L:List zaa}(ok:Ok d M L)(hl:L.length<=100)(O:Int->Bool)(p:zaa)(nd:Int){j:Nat}(hj:j<d):0<=zbo O p nd L j/\zbo O p nd L j<=219902325555200:=by
 have h0:=ok.amtL hj;have h1:=zhv (L:=zej O L) (id:=nd) (j:=j) fun y hy=>h0 y (List.mem_filter.1 hy).1
 have h4:=zfu (L:=zej O L) (id:=nd) (j:=j) fun y hy=>h0 y (List.mem_filter.1 hy).1
 have h3:(zej O L).length<=L.length:=List.length_filter_le _ _;have h5:=zjz (L:=zbt p nd L) (j:=j) fun y hy=>h0 y (List.mem_filter.1 hy).1
 have h6:(zbt p nd L).length<=L.length:=List.length_filter_le _ _;unfold zbo;omega
set_option maxRecDepth 100000 in
set_option maxHeartbeats 16000000 in
theorem ztz(C:Con CS)(h:CS w d q M L X w1)(p:zaa)(hp:zah w1 p)(nd:Int)(hd:I64 nd)(A:Option Addr)(n c:Nat)(O:Int->Bool)(hS:zcq w1 A n O)(h64:d<=64)(hM:M.length<=100)(hl:L.length<=100):
  Calls Tryz.prog 49 #[.pointer (some ⟨q,0,none⟩),p.val,.int .i64 nd,.slice A n c] w1 fun e w'=>afe w1 (zjc p nd M d) d (fun k=>p.Z k+zbo O p nd L k) (nget M nd).C e w':=by
 have ok:=Zq (C.ok h);obtain⟨W,hW,kW,bP⟩:=zls w1 p;obtain⟨bp,hbp⟩:=Zn (w1.heap.size);rw[<- hbp] at bP;have cN:=Zq (C.node nd (C.keep h kW.out) hd hM);replace h:=Zq h;replace hp:=Zq hp;replace hS:=Zq hS;replace hd:=Zq hd;obtain⟨sb,hsb⟩:=Zn (zjc p nd M d);rw[<- hsb];replace hsb:=Zq hsb;unfold zaa.val;unfold zac at hW
 go_enter Tryz.func49,Tryz.ntmps49
 go_wp2_with fail;rw[<- hW,<- hbp];replace hW:=Zq hW;replace hbp:=Zq hbp;refine cN.out.mono ?_;rintro e w2 ⟨k,A2,n2,c2,rfl,h1,_,k2⟩;obtain⟨W3,hW3,k3,bN⟩:=zrh w2 k A2 n2 c2;obtain⟨bn,hbn⟩:=Zn (w2.heap.size);rw[<- hbn] at bN;have K3:Hid (Keep w1 W3):=kW.out.trans (k2.trans k3.out);have KW3:Hid (Keep W W3):=k2.trans k3.out;replace k2:=Zq k2;replace h1:=Zq h1;clear cN
 by_cases hk:nd∈nk M
 ·rw[show decide (nd∈nk M)=true from decide_eq_true hk]
  obtain⟨rfl,rfl,hC,_⟩:=h1.out hk;have hC3:Hid (Rd W3 A2 n2 (nget M k).C):=hC.keep k3.out;clear hC;replace hk:=Zq hk;obtain⟨wv,hwv⟩:=Zn (zak p.m p.Z n2);have cD:Hid (∀ Wz,Keep W3 Wz->Calls Tryz.prog 59 #[.pointer (some ⟨q,0,none⟩)] Wz fun e w'=>e=.returned (.int .i64 n2)/\Keep Wz w'):=fun Wz kk=>C.dims (C.keep h.out (K3.out.trans kk))
  have cW:Hid (∀ Wz,Keep W3 Wz->Calls Tryz.prog 85 #[.slice p.A p.m p.c,.int .i64 n2] Wz fun e w'=>e=.returned (.int .i64 wv)/\w'=Wz):=fun Wz kk=>by rw[hwv];exact zfv p.A p.m p.c p.Z n2 Wz (hp.out.rd.keep (K3.out.trans kk))
  obtain⟨bw,hbw⟩:=Zn (decide (0<=wv));have sB:Hid (zjc p k M n2=!bw):=by
   show _=_
   unfold zjc;rw[hbw,hwv]
   by_cases e:0<=zak p.m p.Z n2
   ·rw[decide_eq_true e,decide_eq_false fun x=>x.2 e];rfl
   ·rw[decide_eq_false e,decide_eq_true ⟨hk.out,e⟩];rfl
  have hbw2:=hbw.symm;replace hbw:=Zq hbw;replace hwv:=Zq hwv;go_upto_region 2 with fail
  rw[<- hW3,<- hbn];replace hW3:=Zq hW3;replace hbn:=Zq hbn;have HELD:∀ Wz,Keep W3 Wz->(Wz.cell? ⟨bp,4,none⟩=some (.slice p.A p.m p.c)):=fun Wz KK=>(zae (Keep.block (KW3.out.trans KK) bP.out)).e4
  refine wp_region_held_drew (S:=fun w'=>w'.cell? ⟨bp,4,none⟩=some (.slice p.A p.m p.c)) (by kernel_rfl) ?_ (fun hHeld=>?_)
  ·exact HELD _ (by repeat (with_reducible first | exact Keep.refl W3 | apply Keep.alloc | apply Keep.drew | apply Keep.drewN))
  refine Zt 0 (.bool true) hHeld ?_
  simp only[Act.put,Zp];refine Zt 1 (.bool false) hHeld ?_
  simp only[Act.put,Zp];refine Zt 2 (.bool false) hHeld ?_
  simp only[Act.put,Zp];refine Zt 3 (.pointer (some ⟨bp,4,none⟩)) hHeld ?_
  simp only[Act.put,Zp];refine Zt 4 (.slice p.A p.m p.c) hHeld ?_
  simp only[Act.put,Zp];refine Zt 5 (.pointer (some ⟨q,0,none⟩)) hHeld ?_
  simp only[Act.put,Zp];refine wpAnyH_ready (rs:=[6]) (by kernel_rfl) (by simp) ?_
  refine AllReadyH.cons rfl (fun K hK=>?_) AllReadyH.nil
  simp only[Zp];rw[if_pos (by rfl)]
  go_simp
  refine(cD.out _ ((Keep.refl W3).drew)).mono ?_;rintro e' w5 ⟨rfl,k5⟩;have K5:Hid (Keep W3 w5):=(Keep.refl W3).drew.trans k5;replace k5:=Zq k5;go_wp2_with fail;refine hK.out _ _ ?_ (fun hHeld=>?_)
  ·exact HELD _ K5.out
  clear hK K;try simp only[Act.put,Zp]
  refine wpAnyH_ready (rs:=[7]) (by kernel_rfl) (by simp) ?_
  refine AllReadyH.cons rfl (fun K hK=>?_) AllReadyH.nil
  simp only[Zp];rw[if_pos (by rfl)]
  go_simp
  refine(cW.out _ K5.out).mono ?_;rintro e' w6 ⟨rfl,rfl⟩;go_wp2_with fail;refine hK.out _ _ ?_ (fun hHeld=>?_)
  ·exact HELD _ K5.out
  clear hK K;try simp only[Act.put,Zp]
  refine Zt 8 (.bool bw) hHeld ?_
  simp only[Act.put,Zp];refine Zt 9 (.bool bw) hHeld ?_
  simp only[Act.put,Zp];refine wpAnyH_done (by kernel_rfl) ?_ _
  clear hHeld HELD;cases bw with
  | true =>
    obtain rfl:sb=false:=hsb.out.trans sB.out;go_wp2;go_ret3
    exact⟨_,_,rfl,fun e=>(by cases e),fun _=>⟨rfl,rfl⟩,K3.out.trans K5.out⟩
  | false =>
    obtain rfl:sb=true:=hsb.out.trans sB.out;have hnw:Hid (¬0<=zak p.m p.Z n2):=by rw[<- hwv.out];exact of_decide_eq_false hbw2
    obtain⟨hpm,hpz⟩:=wrong_no hnw.out;have hpm2:=Zq hpm;replace hpz:=Zq hpz;replace hbw2:=Zq hbw2;have lb:Hid (∀ j,j<n2->0<=zbo O p k L j/\zbo O p k L j<=219902325555200):=fun j hj=>zwn ok.out hl O p k hj
    have cO:Hid (∀ Wz,Keep w6 Wz->Calls Tryz.prog 87 #[.pointer (some ⟨q,0,none⟩),p.val,.int .i64 k,.slice A n c] Wz fun e w'=>∃ v,e=.returned v/\Row w' v n2 (ofZ O p k M L)/\(∀ g,v.ownBlock=some g->Wz.heap.size<=g)/\Keep Wz w'):=fun Wz kk=>aba C (C.keep h.out (K3.out.trans (K5.out.trans kk))) p k hd.out A n c O (hS.out.keep (K3.out.trans (K5.out.trans kk))) h64 hl
    have cA:Hid (∀ (w7:World) (B:Option Addr) (cB:Nat),Keep w6 w7->Rd w7 B n2 (ofZ O p k M L)->Calls Tryz.prog 86 #[.slice (some ⟨w7.heap.size,0,none⟩) 2 2] (w7.alloc (.cells #[.slice p.A p.m p.c,.slice B n2 cB] 24)) fun e w'=>∃ g,e=.returned (.tuple #[.slice (some ⟨g,0,none⟩) n2 n2,.bool true])/\Row w' (.slice (some ⟨g,0,none⟩) n2 n2) n2 (fun j=>p.Z j+zbo O p k L j)/\Keep w6 w'):=fun w7 B cB k7 hB=>by
     have k8:=Keep.one w7 (.cells #[.slice p.A p.m p.c,.slice B n2 cB] 24);have hrd:=hp.out.rd.keep (K3.out.trans (K5.out.trans (k7.trans k8)));rw[hpm2.out] at hrd k8 ⊢;refine(T12.add2_fn _ w7.heap.size n2 p.c cB p.A B p.Z (ofZ O p k M L) (heap_alloc_new _ _) hrd (hB.keep k8) (by omega) fun j hj=>?_).mono ?_
     ·rw[zjr ok.out]
      have:=lb.out j hj;have:=hpz.out j (by rw[hpm2.out];exact hj)
      unfold Amt at this;omega
     ·rintro e w' ⟨g,rfl,r,k9⟩
      refine⟨g,rfl,⟨_,_,rfl,?_⟩,k7.trans (k8.trans k9)⟩;have:=r.rd;simp only[zjr ok.out] at this;exact this
    unfold zaa.val at cO;clear hpm;go_upto_region 4 with fail
    have HELD:∀ Wz,Keep w6 Wz->(Wz.cell? ⟨bp,0,none⟩=some (.int .i64 p.k)/\Wz.cell? ⟨bp,1,none⟩=some (.int .i64 p.p)/\Wz.cell? ⟨bp,2,none⟩=some (.bool p.f)/\Wz.cell? ⟨bp,3,none⟩=some (.int .i64 p.g)/\Wz.cell? ⟨bp,4,none⟩=some (.slice p.A p.m p.c)/\Wz.cell? ⟨bp,5,none⟩=some (.int .i64 p.a)/\Wz.cell? ⟨bp,6,none⟩=some (.int .i64 p.h)/\Wz.cell? ⟨bp,7,none⟩=some (.int .i64 p.d)/\Wz.cell? ⟨bp,8,none⟩=some (.int .i64 p.t)):=fun Wz KK=>(fun z=>⟨z.e0,z.e1,z.e2,z.e3,z.e4,z.e5,z.e6,z.e7,z.e8⟩) (zae (Keep.block (KW3.out.trans (K5.out.trans KK)) bP.out))
    refine wp_region_held_drew (S:=fun w'=>w'.cell? ⟨bp,0,none⟩=some (.int .i64 p.k)/\w'.cell? ⟨bp,1,none⟩=some (.int .i64 p.p)/\w'.cell? ⟨bp,2,none⟩=some (.bool p.f)/\w'.cell? ⟨bp,3,none⟩=some (.int .i64 p.g)/\w'.cell? ⟨bp,4,none⟩=some (.slice p.A p.m p.c)/\w'.cell? ⟨bp,5,none⟩=some (.int .i64 p.a)/\w'.cell? ⟨bp,6,none⟩=some (.int .i64 p.h)/\w'.cell? ⟨bp,7,none⟩=some (.int .i64 p.d)/\w'.cell? ⟨bp,8,none⟩=some (.int .i64 p.t)) (by kernel_rfl) ?_ (fun hHeld=>?_)
    ·exact HELD _ (by repeat (with_reducible first | exact Keep.refl w6 | apply Keep.alloc | apply Keep.drew | apply Keep.drewN))
    refine Zt 0 (.pointer (some ⟨bp,4,none⟩)) hHeld ?_
    simp only[Act.put,Zp];refine Zt 1 (.slice p.A p.m p.c) hHeld ?_
    simp only[Act.put,Zp];refine Zt 2 (.pointer (some ⟨q,0,none⟩)) hHeld ?_
    simp only[Act.put,Zp];refine Zt 3 (.agg #[.int .i64 p.k,.int .i64 p.p,.bool p.f,.int .i64 p.g,.slice p.A p.m p.c,.int .i64 p.a,.int .i64 p.h,.int .i64 p.d,.int .i64 p.t]) hHeld ?_
    simp only[Act.put,Zp];refine Zt 4 (.int .i64 k) hHeld ?_
    simp only[Act.put,Zp];refine Zt 5 (.slice A n c) hHeld ?_
    simp only[Act.put,Zp];refine wpAnyH_ready (rs:=[6]) (by kernel_rfl) (by simp) ?_
    refine AllReadyH.cons rfl (fun K hK=>?_) AllReadyH.nil
    simp only[Zp];rw[if_pos (by rfl)]
    go_simp
    refine(cO.out _ ((Keep.refl w6).drew)).mono ?_;rintro e' w7 ⟨v,rfl,⟨B,cB,rfl,rB⟩,_,k7⟩;have K7:Hid (Keep w6 w7):=(Keep.refl w6).drew.trans k7;have cA7:=Zq (cA.out w7 B cB K7.out rB);replace k7:=Zq k7;replace rB:=Zq rB;go_wp2_with fail;refine hK.out _ _ ?_ (fun hHeld=>?_)
    ·exact HELD _ K7.out
    clear hK K;try simp only[Act.put,Zp]
    refine wpAnyH_ready (rs:=[7]) (by kernel_rfl) (by simp) ?_
    refine AllReadyH.cons rfl (fun K hK=>?_) AllReadyH.nil
    simp only[Zp];rw[if_pos (by rfl)]
    go_simp
    refine hK.out _ _ ?_ (fun hHeld=>?_)
    ·exact HELD _ (K7.out.alloc _)
    clear hK K;try simp only[Act.put,Zp]
    refine wpAnyH_ready (rs:=[8]) (by kernel_rfl) (by simp) ?_
    refine AllReadyH.cons rfl (fun K hK=>?_) AllReadyH.nil
    simp only[Zp];rw[if_pos (by rfl)]
    go_simp
    refine(cA7.out).mono ?_;rintro e' w8 ⟨g,rfl,rg,k8⟩;replace k8:=Zq k8;replace rg:=Zq rg;go_wp2_with fail;refine hK.out _ _ ?_ (fun hHeld=>?_)
    ·exact HELD _ k8.out
    clear hK K;try simp only[Act.put,Zp]
    refine Zt 9 (.tuple #[.slice (some ⟨g,0,none⟩) n2 n2,.bool true]) hHeld ?_
    simp only[Act.put,Zp];refine Zt 10 (.slice (some ⟨g,0,none⟩) n2 n2) hHeld ?_
    simp only[Act.put,Zp];refine Zt 11 (.bool true) hHeld ?_
    simp only[Act.put,Zp];refine Zt 12 (.slice (some ⟨g,0,none⟩) n2 n2) hHeld ?_
    simp only[Act.put,Zp];refine wpAnyH_done (by kernel_rfl) ?_ _
    clear hHeld HELD;have nc:=ahj (Keep.block (K5.out.trans k8.out) bN.out);go_upto_region 5 with fail
    go_quiet (fail)
    go_wp2;go_ret3
    refine⟨_,_,rfl,fun _=>⟨rg.out.keep ((Keep.refl _).drewN _),_,_,rfl,hC3.out.keep ((K5.out.trans k8.out).drewN _)⟩,fun e=>(by cases e),(K3.out.trans (K5.out.trans k8.out)).drewN _⟩
 ·rw[show decide (nd∈nk M)=false from decide_eq_false hk]
  have sB:Hid (zjc p nd M d=false):=decide_eq_false fun e=>hk e.1
  obtain rfl:sb=false:=hsb.out.trans sB.out;replace hk:Hid (nd∉nk M):=hk;go_upto_region 2 with fail
  rw[<- hW3,<- hbn];replace hW3:=Zq hW3;replace hbn:=Zq hbn
  go_quiet (fail)
  go_wp2;go_ret3
  exact⟨_,_,rfl,fun e=>(by cases e),fun _=>⟨rfl,rfl⟩,K3.out.drewN _⟩
set_option maxRecDepth 100000 in
set_option maxHeartbeats 8000000 in
theorem aaw(C:Con CS)(h:CS w d q M L X w1)(p:zaa)(hp:zah w1 p)(nd:Int)(hd:I64 nd)(A:Option Addr)(n c:Nat)(O:Int->Bool)(hS:zcq w1 A n O)(h64:d<=64)(hM:M.length<=100)(hl:L.length<=100):
  Calls Tryz.prog 24 #[.pointer (some ⟨q,0,none⟩),p.val,.int .i64 nd,.slice A n c] w1 fun e w'=>e=.returned (.bool (zcc O p nd M L d))/\Keep w1 w':=by
 obtain⟨W,hW,kW,bP⟩:=zls w1 p;have cC:=Zq (ztz C (C.keep h kW.out) p (hp.keep kW.out) nd hd A n c O (hS.keep kW.out) h64 hM hl);have P0:=zae bP.out;have c0:=P0.e0;have c1:=P0.e1;have c2:=P0.e2;have c3:=P0.e3;have c4:=P0.e4;have c5:=P0.e5;have c6:=P0.e6;have c7:=P0.e7;have c8:=P0.e8;clear P0;rw[hW] at c0 c1 c2 c3 c4 c5 c6 c7 c8;obtain⟨sb,hsb⟩:=Zn (zjc p nd M d);obtain⟨fb,hfb⟩:=Zn (zcc O p nd M L d);rw[<- hsb] at cC;rw[<- hfb];have eq1:Hid (sb=false->fb=false):=fun e=>by
  rw[hfb];exact decide_eq_false fun x=>by rw[hsb,zpd.2 ⟨x.1,x.2.1⟩] at e;cases e
 have eq2:Hid (sb=true->zcm d (fun k=>p.Z k+zbo O p nd L k) d (nget M nd).C=fb):=fun e=>by
  obtain⟨e1,e2⟩:=zpd.1 (hsb.symm.trans e);rw[hfb];unfold zcm zcc;rw[decide_eq_decide];constructor
  ·rintro⟨_,f⟩
   exact⟨e1,e2,fun k hk=>by have a:p.Z k+zbo O p nd L k<=(nget M nd).C k:=f k hk;omega⟩
  ·rintro⟨_,_,f⟩
   exact⟨rfl,fun k hk=>by have a:=f k hk;show p.Z k+zbo O p nd L k<=(nget M nd).C k;omega⟩
 replace hsb:=Zq hsb;replace hfb:=Zq hfb;replace h:=Zq h;replace hp:=Zq hp;replace hS:=Zq hS;replace hd:=Zq hd;unfold zac at hW c0 c1 c2 c3 c4 c5 c6 c7 c8;unfold zaa.val at cC;unfold zaa.val
 go_enter Tryz.func24,Tryz.ntmps24
 go_wp2_with fail;rw[<- hW];replace hW:=Zq hW;clear c0 c1 c2 c3 c4 c5 c6 c7 c8;refine cC.out.mono ?_;rintro e w2 ⟨v,u,rfl,h1,_,k2⟩;replace k2:=Zq k2;clear cC;cases sb with
 | false =>
   obtain rfl:fb=false:=eq1.out rfl;clear h1;go_wp2;go_ret
   exact⟨rfl,kW.out.trans k2.out⟩
 | true =>
   obtain⟨⟨B,cB,rfl,rB⟩,B2,cB2,rfl,rB2⟩:=h1 rfl;have cF:=Zq (zwe B B2 d d cB cB2 _ _ w2 rB rB2 fb (eq2.out rfl));clear h1 rB rB2;go_wp2_with fail;refine cF.out.mono ?_;rintro e w3 ⟨rfl,k3⟩;replace k3:=Zq k3;go_wp2;go_ret
   exact⟨rfl,kW.out.trans (k2.out.trans k3.out.keep)⟩
set_option maxRecDepth 100000 in
set_option maxHeartbeats 1000000 in
theorem zut(id:Int)(w:World):Calls Tryz.prog 105 #[.pointer none,.int .i64 id] w fun e w'=>e=.returned (.tuple #[.agg #[.int .i64 0,.slice none 0 0],.bool false])/\Keep w w':=by
 obtain⟨W,hW⟩:=Zn (w.alloc (.cells #[.int .i64 0,.slice none 0 0] 56));have KW:Hid (Keep w W):=by rw[hW];exact Keep.one _ _
 obtain⟨b,hb⟩:=Zn (w.heap.size);have Y:W.heap[b]?=some (.cells #[.int .i64 0,.slice none 0 0] 56 (0,0)):=by rw[hW,hb];exact heap_alloc_new _ _
 have hF:=Zq (T12.find_nil W id);obtain⟨y0,y1,yf⟩:=T12.cel2 Y;have B5:Hid (((W.setCell ⟨b,0,none⟩ (.int .i64 0)).setCell ⟨b,1,none⟩ (.slice none 0 0)).heap[b]?=some (.cells #[.int .i64 0,.slice none 0 0] 56 (0,0))):=T12.two_set Y;have K5:Hid (Keep w ((W.setCell ⟨b,0,none⟩ (.int .i64 0)).setCell ⟨b,1,none⟩ (.slice none 0 0))):=T12.two_keep KW.out (by omega)
 replace Y:=Zq Y
 go_enter Tryz.func105,Tryz.ntmps105
 go_wp2_with fail;rw[<- hW,<- hb];replace hW:=Zq hW;replace hb:=Zq hb;refine hF.out.mono ?_;rintro e w1 ⟨rfl,rfl⟩;go_wp2;obtain⟨z0,z1,_⟩:=T12.cel2 B5.out;refine bodyPost_ret (v:=.tuple #[.agg #[.int .i64 0,.slice none 0 0],.bool false]) (by simp[results,Tryz.results105,go_sem,z0,z1]) rfl ⟨rfl,K5.out⟩
set_option maxRecDepth 100000 in
set_option maxHeartbeats 4000000 in
theorem zuu(id:Int)(w:World):Calls Tryz.prog 84 #[.pointer none,.int .i64 id] w fun e w'=>e=.returned (.tuple #[.agg #[.int .i64 0,.slice none 0 0],.bool false])/\Keep w w':=by
 obtain⟨W,hW⟩:=Zn (w.alloc (.cells #[.int .i64 0,.slice none 0 0] 56));have KW:Hid (Keep w W):=by rw[hW];exact Keep.one _ _
 obtain⟨b,hb⟩:=Zn (w.heap.size);have Y:Hid (W.heap[b]?=some (.cells #[.int .i64 0,.slice none 0 0] 56 (0,0))):=by rw[hW,hb];exact heap_alloc_new _ _
 have hB:=Zq (zrg W);have hP:=Zq (fun W=>zut id W)
 have fs0:∀ W,(Instr.field 96 (.agg #[.pointer none,.pointer none]) 0).run Tryz.prog W=.ok (.agg #[.pointer none]) W:=fun _=>by kernel_rfl
 have fn0:∀ W,(Instr.field 90 (.agg #[.pointer none]) 0).run Tryz.prog W=.ok (.pointer none) W:=fun _=>by kernel_rfl
 go_enter Tryz.func84,Tryz.ntmps84
 go_wp2_with fail;rw[<- hW,<- hb];refine hB.out.mono ?_;replace hW:=Zq hW;replace hb:=Zq hb;rintro e w2 ⟨rfl,k2⟩;replace k2:=Zq k2;go_wp2_with fail;refine(hP.out w2).mono ?_;rintro e w3 ⟨rfl,k3⟩;have k3:Hid (Keep w2 w3):=k3;have Y3:=Keep.block (k2.out.trans k3.out) Y.out;obtain⟨y0,y1,yf⟩:=T12.cel2 Y3;have B5:Hid (((w3.setCell ⟨b,0,none⟩ (.int .i64 0)).setCell ⟨b,1,none⟩ (.slice none 0 0)).heap[b]?=some (.cells #[.int .i64 0,.slice none 0 0] 56 (0,0))):=T12.two_set Y3;have K5:Hid (Keep w ((w3.setCell ⟨b,0,none⟩ (.int .i64 0)).setCell ⟨b,1,none⟩ (.slice none 0 0))):=T12.two_keep (KW.out.trans (k2.out.trans k3.out)) (by rw[hb.out];exact Nat.le_refl _)
 replace Y3:=Zq Y3;go_wp2;obtain⟨z0,z1,_⟩:=T12.cel2 B5.out;refine bodyPost_ret (v:=.tuple #[.agg #[.int .i64 0,.slice none 0 0],.bool false]) (by simp[results,Tryz.results84,go_sem,z0,z1]) rfl ⟨rfl,K5.out⟩
set_option maxRecDepth 100000 in
set_option maxHeartbeats 4000000 in
theorem zxv(p:zaa)(nd:Int)(A:Option Addr)(n c:Nat)(w:World):Calls Tryz.prog 49 #[.pointer none,p.val,.int .i64 nd,.slice A n c] w fun e w'=>e=.returned (.tuple #[.slice none 0 0,.slice none 0 0,.bool false])/\Keep w w':=by
 obtain⟨W,hW,kW,bP⟩:=zls w p;have cN:=Zq (zuu nd W);unfold zaa.val;unfold zac at hW
 go_enter Tryz.func49,Tryz.ntmps49
 go_wp2_with fail;rw[<- hW];replace hW:=Zq hW;refine cN.out.mono ?_;rintro e w2 ⟨rfl,k2⟩;obtain⟨W3,hW3,k3,bN⟩:=zrh w2 0 none 0 0;have K3:Hid (Keep w W3):=kW.out.trans (k2.trans k3.out);replace k2:=Zq k2;clear cN;go_upto_region 2 with fail
 rw[<- hW3];replace hW3:=Zq hW3
 go_quiet (fail)
 go_wp2;go_ret3
 exact⟨rfl,K3.out.drewN _⟩
set_option maxRecDepth 100000 in
set_option maxHeartbeats 4000000 in
theorem zum(p:zaa)(nd:Int)(A:Option Addr)(n c:Nat)(w1:World):Calls Tryz.prog 24 #[.pointer none,p.val,.int .i64 nd,.slice A n c] w1 fun e w'=>e=.returned (.bool false)/\Keep w1 w':=by
 obtain⟨W,hW,kW,bP⟩:=zls w1 p;have cC:=Zq (zxv p nd A n c W);have P0:=zae bP.out;have c0:=P0.e0;have c1:=P0.e1;have c2:=P0.e2;have c3:=P0.e3;have c4:=P0.e4;have c5:=P0.e5;have c6:=P0.e6;have c7:=P0.e7;have c8:=P0.e8;clear P0;rw[hW] at c0 c1 c2 c3 c4 c5 c6 c7 c8;unfold zac at hW c0 c1 c2 c3 c4 c5 c6 c7 c8;unfold zaa.val at cC;unfold zaa.val
 go_enter Tryz.func24,Tryz.ntmps24
 go_wp2_with fail;rw[<- hW];replace hW:=Zq hW;clear c0 c1 c2 c3 c4 c5 c6 c7 c8;refine cC.out.mono ?_;rintro e w2 ⟨rfl,k2⟩;replace k2:=Zq k2;go_wp2;go_ret
 exact⟨rfl,kW.out.trans k2.out⟩
theorem conl16(C:Con CS):zqz CS where
 of:=fun p nd A n c O h _ _ hnd hS _ h64 _ hl=>aba C h p nd hnd A n c O hS h64 hl
 fits:=fun p nd A n c O h _ hp hnd hS _ h64 _ hM hl=>aaw C h p hp nd hnd A n c O hS h64 hM hl
 none:=fun p nd A n c w1=>zum p nd A n c w1
end
end Go.Proofs.YtcogiogjpbkeaaaGreatDoor.T16
