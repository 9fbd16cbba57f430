/-
  The reference's cluster as a value; its Find. No condition.
  The reference's Pods of layer 15, its has of layer 16. Condition: at most 1000 pods.
  The reference's Used: what the pods of a node hold. Conditions: at most 100 pods, whose requests are of the dimension and in the limits; the dimension is at most 64.
  The reference's Sum of layer 15. Conditions: at most 100 pods, whose requests are of the dimension and in the limits; the dimension is at most 64.
-/
import Derived.Test.YtcogiogjpbkeaaaGreatDoorJ0
import Derived.Test.YtcogiogjpbkeaaaGreatDoorJ8
import Derived.Test.YtcogiogjpbkeaaaGreatDoorJ7
namespace Go.Proofs.YtcogiogjpbkeaaaGreatDoor.T14
open Go.RowKit Go.Sort Go.Lib V12 T13
structure RcV where
 d:Int
 A:Option Addr
 n:Nat
 c:Nat
 B:Option Addr
 m:Nat
 e:Nat
def RcV.val(x:RcV):Value:=.agg #[.int .i64 x.d,.slice x.A x.n x.c,.slice x.B x.m x.e]
def RcV.arr(x:RcV):Array Value:=#[.int .i64 x.d,.slice x.A x.n x.c,.slice x.B x.m x.e]
theorem zab{w:World}{b:Nat}{x:RcV}{T:TypeId}(h:w.heap[b]?=some (.cells x.arr T (0,0))):w.cell? ⟨b,0,none⟩=some (.int .i64 x.d)/\w.cell? ⟨b,1,none⟩=some (.slice x.A x.n x.c)/\w.cell? ⟨b,2,none⟩=some (.slice x.B x.m x.e)/\∀ i,w.frozen? ⟨b,i,none⟩=false:=by
 refine⟨?_,?_,?_,fun i=>frozen_of_row w b i _ _ h⟩<;>rw[cell_of_row w b _ _ _ _ h]<;>rfl
def zav(w:World)(s:Nat)(x:RcV):World:=((w.setCell ⟨s,0,none⟩ (.int .i64 x.d)).setCell ⟨s,1,none⟩ (.slice x.A x.n x.c)).setCell ⟨s,2,none⟩ (.slice x.B x.m x.e)
theorem zky{w:World}{s:Nat}{a0 a1 a2 u:Value}{T:TypeId}(h:w.heap[s]?=some (.cells #[a0,a1,a2] T (0,0))):
  (w.setCell ⟨s,0,none⟩ u).heap[s]?=some (.cells #[u,a1,a2] T (0,0))/\(w.setCell ⟨s,1,none⟩ u).heap[s]?=some (.cells #[a0,u,a2] T (0,0))/\(w.setCell ⟨s,2,none⟩ u).heap[s]?=some (.cells #[a0,a1,u] T (0,0)):=by
 have hlt:=lt_of_block h;have h':w.heap[s]=.cells #[a0,a1,a2] T (0,0):=by simpa [Array.getElem?_eq_getElem hlt] using h
 refine⟨?_,?_,?_⟩
 all_goals
  show(w.heap.modify s _)[s]?=_
  rw[Array.getElem?_eq_getElem (by simpa using hlt),Array.getElem_modify_self,h']
  rfl
theorem zce{w:World}{s:Nat}(x y:RcV){T:TypeId}(h:w.heap[s]?=some (.cells y.arr T (0,0))):(zav w s x).heap[s]?=some (.cells x.arr T (0,0)):=
 (zky (zky (zky h).1).2.1).2.2
theorem zbz{w0 w:World}{s:Nat}(x:RcV)(k:Keep w0 w)(hs:w0.heap.size<=s):Keep w0 (zav w s x):=((k.set hs _).set hs _).set hs _
theorem zbd{w:World}{s k:Nat}(x:RcV)(h:k≠s):(zav w s x).heap[k]?=w.heap[k]?:=by
 unfold zav
 repeat rw[Below.heap_setCell _ _ _ _ h]
theorem zdu(w:World)(s:Nat)(x:RcV):(zav w s x).heap.size=w.heap.size:=by unfold zav;simp
def zrc:RcV:=⟨0,none,0,0,none,0,0⟩
def RcV.with(x:RcV)(B:Option Addr)(m e:Nat):RcV:=⟨x.d,x.A,x.n,x.c,B,m,e⟩
theorem zmu(L:List C14.NdC):nk (L.map nv)=C14.keys L:=by unfold nk G.keys C14.keys;rw[List.map_map];rfl
set_option maxRecDepth 100000 in
set_option maxHeartbeats 4000000 in
theorem zgr(x:RcV)(P:Nat->C14.NdC)(id:Int)(w:World)(hR:C14.RdN w x.A x.n P):Calls Tryz.prog 44 #[x.val,.int .i64 id] w fun e w'=>e=.returned (.int .i64 (C14.findN P id x.n))/\w'=w.alloc (.cells x.arr 30):=by
 obtain⟨xd,A,n,c,B,m,e⟩:=x;simp only at hR ⊢;have hX:=heap_alloc_new w (.cells (RcV.arr ⟨xd,A,n,c,B,m,e⟩) 30);have KW:Keep w (w.alloc (.cells (RcV.arr ⟨xd,A,n,c,B,m,e⟩) 30)):=Keep.one _ _;have RW:=Zq (hR.keep KW);obtain⟨c0,c1,c2,cf⟩:=zab hX;have hn:=hR.small;unfold RcV.arr at *;unfold RcV.val;simp only at c0 c1 c2 cf RW;obtain⟨r,hr⟩:=Zn (C14.findN P id n);rw[<- hr];replace hr:=Zq hr;replace hX:=Zq hX;replace KW:=Zq KW;clear hR
 go_enter Tryz.func44,Tryz.ntmps44
 go_wp2
 go_loopg [5] n (fun gx s5 wr=>∃ j:Nat,j<=n/\gx=n - j/\s5=.int .i64 j/\wr=w.alloc (.cells #[.int .i64 xd,.slice A n c,.slice B m e] 30)/\Hid (∀ t,t<j->(P t).k≠id))
 case atStart=>exact⟨0,Nat.zero_le _,rfl,rfl,rfl,fun t h=>absurd h (Nat.not_lt_zero _)⟩
 case round =>
  obtain⟨j,hj,rfl,rfl,rfl,NO⟩:=hrel
  by_cases hlt:j<n
  ·obtain⟨g,off,hA,ca⟩:=RW.out.adr (by omega)
   subst hA;have q1:=C14.atN g off n c j hlt;have x0:=(ca j hlt).e0;clear ca
   by_cases hk:(P j).k=id
   ·have e:r=(j:Int):=by rw[hr.out];exact C14.find_at hk NO.out hlt
    obtain⟨k,hkk⟩:=Zn ((P j).k);rw[<- hkk] at x0 hk;replace hkk:=Zq hkk;subst hk;subst e;go_wp2;go_ret
    exact⟨rfl,rfl⟩
   ·have NO2:Hid (∀ t,t<j+1->(P t).k≠id):=fun t ht=>by
     by_cases e:t=j
     ·rw[e];exact hk
     ·exact NO.out t (by omega)
    obtain⟨k,hkk⟩:=Zn ((P j).k);rw[<- hkk] at x0 hk;replace hkk:=Zq hkk;go_wp2;go_roundg (n - (j+1))
    case measure=>omega
    case rel=>exact⟨j+1,hlt,rfl,by go_num,rfl,NO2⟩
  ·obtain rfl:j=n:=by omega
   have e:r = -1:=by rw[hr.out];exact C14.find_no NO.out
   subst e;go_wp2;go_ret
   exact⟨rfl,rfl⟩
end Go.Proofs.YtcogiogjpbkeaaaGreatDoor.T14
namespace Go.Proofs.YtcogiogjpbkeaaaGreatDoor.T16
open Go.RowKit Go.Sort Go.Lib V12 T13 T14 T15
def aiz(w:World)(n:Nat)(L:List zaa)(e:Ending)(w':World):Prop:=∃ B d,e=.returned (.slice B L.length d)/\Keep w w'/\zai w' B L.length (row L)/\L.length<=n/\∀ g o,B=some ⟨g,o,none⟩->w.heap.size<=g
theorem akh(b off n cp j:Nat)(hj:j<n)(W:World):(Instr.indexAt 43 (.slice (some ⟨b,off,none⟩) n cp) (.int .i64 j)).run Tryz.prog W=.ok (.pointer (some ⟨b,off+j,none⟩)) W:=by
 go_simp
theorem zdy{w w':World}{k:Nat}(h:Keep w w')(hk:k<w.heap.size):w'.heap[k]?=w.heap[k]?:=Below.block h k hk
set_option maxRecDepth 100000 in
set_option maxHeartbeats 8000000 in
theorem zva(x:RcV)(p:zaa)(nd:Int)(P:Nat->zaa)(w:World)(hR:zai w x.B x.m P)(hm:x.m<=1000):Calls Tryz.prog 121 #[x.val,p.val,.int .i64 nd] w (aiz w x.m ((T13.lst P x.m).filter (zcj p nd))):=by
 have mixed:Tryz.prog.follows .mixedOrders=true:=by kernel_rfl
 obtain⟨xd,A,n,c,B,m,e⟩:=x;simp only at hR hm ⊢;obtain⟨L,hL⟩:=Zn ((T13.lst P m).filter (zcj p nd));rw[<- hL];replace hL:=Zq hL;obtain⟨W0,hW0⟩:=Zn ((w.alloc (.cells (RcV.arr ⟨xd,A,n,c,B,m,e⟩) 30)).alloc (.cells (zac p) 26));have s0:(w.alloc (.cells (RcV.arr ⟨xd,A,n,c,B,m,e⟩) 30)).heap.size=w.heap.size+1:=World.size_alloc _ _;have K0:Hid (Keep w W0):=by rw[hW0];exact(Keep.one _ _).alloc _
 have B3:Hid (W0.heap[w.heap.size]?=some (.cells (RcV.arr ⟨xd,A,n,c,B,m,e⟩) 30 (0,0))):=by rw[hW0];exact(Keep.one _ _).block (heap_alloc_new _ _)
 have B4:Hid (W0.heap[w.heap.size+1]?=some (.cells (zac p) 26 (0,0))):=by rw[hW0,<- s0];exact heap_alloc_new _ _
 obtain⟨b3,hb3⟩:=Zn (w.heap.size);obtain⟨b4,hb4⟩:=Zn (w.heap.size+1);rw[<- hb3] at B3;rw[<- hb4] at B4;have R0:=Zq (hR.keep K0.out);replace hR:=Zq hR;replace s0:=Zq s0;unfold RcV.arr zac at hW0;unfold RcV.val zaa.val;simp only at hW0
 go_enter Tryz.func121,Tryz.ntmps121
 go_wp2;rw[<- hW0,<- hb4,<- hb3];replace hW0:=Zq hW0;replace hb3:=Zq hb3;replace hb4:=Zq hb4
 go_loopg [7,8] m (fun gx s7 s8 wr=>∃ (j k:Nat) (D:Option Addr) (d:Nat) (M:List zaa),j<=m/\gx=m - j/\s7=.slice D k d/\s8=.int .i64 j/\k<=j/\Hid (Keep W0 wr)/\Hid (wr.ownsRow W0.heap.size 26 9 (.slice D k d) k (M.flatMap zaa.cells))/\Hid (M=(T13.lst P j).filter (zcj p nd))/\Hid (M.length=k))
 case atStart=>exact⟨0,0,none,0,[],Nat.zero_le _,rfl,rfl,rfl,Nat.le_refl _,Keep.refl _,World.ownsRow_nil _ _ _ _,rfl,rfl⟩
 case round =>
  obtain⟨j,k,D,d,M,hj,rfl,rfl,rfl,hkj,KR,RW,LT,LN⟩:=hrel;have B3r:Hid (wr.heap[b3]?=some (.cells (RcV.arr ⟨xd,A,n,c,B,m,e⟩) 30 (0,0))):=Keep.block KR.out B3.out;obtain⟨c0,c1,c2,_⟩:=zab B3r.out;simp only at c0 c1 c2
  by_cases hlt:j<m
  ·have R2:=R0.out.keep KR.out
   obtain⟨g,off,hA,ca⟩:=R2.adr (by omega)
   subst hA;have q1:=zar g off m e j hlt;have Y:=ca j hlt;clear ca;have hs:(T13.lst P (j+1)).filter (zcj p nd)=(T13.lst P j).filter (zcj p nd)++if zcj p nd (P j)=true then[P j] else[]:=by
    rw[lst_succ,List.filter_append,List.filter_cons,List.filter_nil]
   obtain⟨y,hy⟩:=Zn (P j);obtain⟨oo,hoo⟩:=Zn (off+j * 9);rw[<- hy] at Y hs;rw[<- hoo] at Y q1;replace hy:=Zq hy;replace hoo:=Zq hoo;have B4r:Hid (wr.heap[b4]?=some (.cells (zac p) 26 (0,0))):=Keep.block KR.out B4.out;have Y:=Zq Y;obtain⟨sb,hsb⟩:=Zn (zcj p nd y);have cS:Hid (∀ W,Calls Tryz.prog 143 #[p.val,y.val,.int .i64 nd] W fun e' w'=>e'=.returned (.bool sb)/\Keep W w'):=fun W=>by rw[hsb];exact adg p y nd W
   rw[<- hsb] at hs;replace hs:=Zq hs;replace hsb:=Zq hsb;unfold zaa.val at cS;go_upto_region 5 with fail
   have HELD:∀ Wz,Keep wr Wz->(Wz.cell? ⟨b3,0,none⟩=some (.int .i64 xd)/\Wz.cell? ⟨b3,1,none⟩=some (.slice A n c)/\Wz.cell? ⟨b3,2,none⟩=some (.slice (some ⟨g,off,none⟩) m e)/\Wz.cell? ⟨b4,0,none⟩=some (.int .i64 p.k)/\Wz.cell? ⟨b4,1,none⟩=some (.int .i64 p.p)/\Wz.cell? ⟨b4,2,none⟩=some (.bool p.f)/\Wz.cell? ⟨b4,3,none⟩=some (.int .i64 p.g)/\Wz.cell? ⟨b4,4,none⟩=some (.slice p.A p.m p.c)/\Wz.cell? ⟨b4,5,none⟩=some (.int .i64 p.a)/\Wz.cell? ⟨b4,6,none⟩=some (.int .i64 p.h)/\Wz.cell? ⟨b4,7,none⟩=some (.int .i64 p.d)/\Wz.cell? ⟨b4,8,none⟩=some (.int .i64 p.t)/\Wz.cell? ⟨g,oo,none⟩=some (.int .i64 y.k)/\Wz.cell? ⟨g,oo+1,none⟩=some (.int .i64 y.p)/\Wz.cell? ⟨g,oo+2,none⟩=some (.bool y.f)/\Wz.cell? ⟨g,oo+3,none⟩=some (.int .i64 y.g)/\Wz.cell? ⟨g,oo+4,none⟩=some (.slice y.A y.m y.c)/\Wz.cell? ⟨g,oo+5,none⟩=some (.int .i64 y.a)/\Wz.cell? ⟨g,oo+6,none⟩=some (.int .i64 y.h)/\Wz.cell? ⟨g,oo+7,none⟩=some (.int .i64 y.d)/\Wz.cell? ⟨g,oo+8,none⟩=some (.int .i64 y.t)):=fun Wz KK=>⟨(zab (Keep.block KK B3r.out)).1,(zab (Keep.block KK B3r.out)).2.1,(zab (Keep.block KK B3r.out)).2.2.1,(zae (Keep.block KK B4r.out)).e0,(zae (Keep.block KK B4r.out)).e1,(zae (Keep.block KK B4r.out)).e2,(zae (Keep.block KK B4r.out)).e3,(zae (Keep.block KK B4r.out)).e4,(zae (Keep.block KK B4r.out)).e5,(zae (Keep.block KK B4r.out)).e6,(zae (Keep.block KK B4r.out)).e7,(zae (Keep.block KK B4r.out)).e8,(Y.out.keep KK).e0,(Y.out.keep KK).e1,(Y.out.keep KK).e2,(Y.out.keep KK).e3,(Y.out.keep KK).e4,(Y.out.keep KK).e5,(Y.out.keep KK).e6,(Y.out.keep KK).e7,(Y.out.keep KK).e8⟩
   refine OrdS.rest_start (fun w'=>w'.cell? ⟨b3,0,none⟩=some (.int .i64 xd)/\w'.cell? ⟨b3,1,none⟩=some (.slice A n c)/\w'.cell? ⟨b3,2,none⟩=some (.slice (some ⟨g,off,none⟩) m e)/\w'.cell? ⟨b4,0,none⟩=some (.int .i64 p.k)/\w'.cell? ⟨b4,1,none⟩=some (.int .i64 p.p)/\w'.cell? ⟨b4,2,none⟩=some (.bool p.f)/\w'.cell? ⟨b4,3,none⟩=some (.int .i64 p.g)/\w'.cell? ⟨b4,4,none⟩=some (.slice p.A p.m p.c)/\w'.cell? ⟨b4,5,none⟩=some (.int .i64 p.a)/\w'.cell? ⟨b4,6,none⟩=some (.int .i64 p.h)/\w'.cell? ⟨b4,7,none⟩=some (.int .i64 p.d)/\w'.cell? ⟨b4,8,none⟩=some (.int .i64 p.t)/\w'.cell? ⟨g,oo,none⟩=some (.int .i64 y.k)/\w'.cell? ⟨g,oo+1,none⟩=some (.int .i64 y.p)/\w'.cell? ⟨g,oo+2,none⟩=some (.bool y.f)/\w'.cell? ⟨g,oo+3,none⟩=some (.int .i64 y.g)/\w'.cell? ⟨g,oo+4,none⟩=some (.slice y.A y.m y.c)/\w'.cell? ⟨g,oo+5,none⟩=some (.int .i64 y.a)/\w'.cell? ⟨g,oo+6,none⟩=some (.int .i64 y.h)/\w'.cell? ⟨g,oo+7,none⟩=some (.int .i64 y.d)/\w'.cell? ⟨g,oo+8,none⟩=some (.int .i64 y.t)) [] (by kernel_rfl) ?_ (fun hHeld=>?_)
   ·exact HELD _ (Keep.refl wr).drew
   obtain⟨wt0,hwt0⟩:=Zn (wr.drew);have Kwt0:Hid (Keep wr wt0):=by rw[hwt0];exact(Keep.refl _).drew
   rw[<- hwt0] at hHeld ⊢;replace hwt0:=Zq hwt0;refine OrdS.rt 0 (.agg #[.int .i64 p.k,.int .i64 p.p,.bool p.f,.int .i64 p.g,.slice p.A p.m p.c,.int .i64 p.a,.int .i64 p.h,.int .i64 p.d,.int .i64 p.t]) hHeld ?_
   simp only[Act.put,Zp];refine OrdS.rt 1 (.pointer (some ⟨b3,2,none⟩)) hHeld ?_
   simp only[Act.put,Zp];refine OrdS.rt 2 (.slice (some ⟨g,off,none⟩) m e) hHeld ?_
   simp only[Act.put,Zp];refine OrdS.rt 3 (.int .i64 j) hHeld ?_
   simp only[Act.put,Zp];refine OrdS.rt 4 (.pointer (some ⟨g,oo,none⟩)) hHeld ?_
   simp only[Act.put,Zp];refine OrdS.rt 5 (.agg #[.int .i64 y.k,.int .i64 y.p,.bool y.f,.int .i64 y.g,.slice y.A y.m y.c,.int .i64 y.a,.int .i64 y.h,.int .i64 y.d,.int .i64 y.t]) hHeld ?_
   simp only[Act.put,Zp];refine OrdS.rt 6 (.int .i64 nd) hHeld ?_
   simp only[Act.put,Zp];refine OrdS.rest_ready (rs:=[7]) (by kernel_rfl) (by simp) ?_
   refine OrdS.Each.cons rfl (fun K hK=>?_) OrdS.Each.nil
   simp only[Zp];rw[if_pos (by rfl)]
   go_simp
   refine(cS.out wt0).mono ?_;rintro e' w4 ⟨rfl,k4⟩;have K4:Hid (Keep wr w4):=Kwt0.out.trans k4;replace k4:=Zq k4;go_wp2_with fail;refine hK.out _ _ (fun _=>HELD w4 K4.out) ?_
   have hHeld:=HELD w4 K4.out;clear hK K;try simp only[Act.put,Zp]
   refine OrdS.rest_done (by kernel_rfl) ?_ _
   clear hHeld HELD Kwt0 hwt0 cS;cases sb with
   | true =>
     have hs2:=hs.out;rw[if_pos rfl] at hs2;have L2:Hid (M++[y]=(T13.lst P (j+1)).filter (zcj p nd)):=by show _=_;rw[hs2,LT.out]
     have LN2:Hid ((M++[y]).length=k+1):=by show _=_;rw[List.length_append,LN.out];rfl
     have FM:Hid ((M++[y]).flatMap zaa.cells=M.flatMap zaa.cells++y.cells):=by show _=_;rw[List.flatMap_append,List.flatMap_singleton]
     clear hs2;have Y4:=Y.out.keep K4.out;have x0:=Y4.e0;have x1:=Y4.e1;have x2:=Y4.e2;have x3:=Y4.e3;have x4:=Y4.e4;have x5:=Y4.e5;have x6:=Y4.e6;have x7:=Y4.e7;have x8:=Y4.e8;clear Y4;obtain⟨d0,d1,d2,_⟩:=zab (Keep.block K4.out B3r.out);simp only at d0 d1 d2;have gsz:Hid (W0.heap.size<=w4.heap.size):=(KR.out.trans K4.out).size;have RW4:=Zq (zal RW.out K4.out);have C1:Hid ((w4.alloc (.cells (zac y) 26)).heap[w4.heap.size]?=some (.cells (zac y) 26 (0,0))):=heap_alloc_new _ _;unfold zac at C1;go_wp2_with (at_builtin;refine zdz Tryz.tyP13 rfl _ _ rfl W0.heap.size (.slice D k d) k (M.flatMap zaa.cells) (by simp[Act.eval]) (zal RW4.out (Keep.one _ _)) (.slice (some ⟨w4.heap.size,0,none⟩) 1 1) 1 y.cells (by simp[Act.eval]) (zbh C1.out) (cells_one _) (by omega) (by rw[World.size_alloc];have:=gsz.out;omega) (k+1) rfl ?_;intro v3 w5 hr3 hg3)
     have K5:Hid (Keep W0 w5):=zad ((KR.out.trans K4.out).trans (Keep.one _ _)) hg3 (fun q hq=>(RW4.out.lt q hq).1)
     obtain⟨D4,d4,hD4,_⟩:=zan hr3;subst hD4;rw[<- FM.out] at hr3;replace hr3:=Zq hr3;replace hg3:=Zq hg3;clear x0 x1 x2 x3 x4 x5 x6 x7 x8 d0 d1 d2 c0 c1 c2 q1;go_wp2;go_roundg (m - (j+1))
     case measure=>omega
     case rel=>exact⟨j+1,k+1,D4,d4,M++[y],hlt,rfl,rfl,by go_num,by omega,K5,hr3,L2,LN2⟩
   | false =>
     have hs2:=hs.out;rw[if_neg (by decide),List.append_nil] at hs2
     have L2:Hid (M=(T13.lst P (j+1)).filter (zcj p nd)):=by show _=_;rw[hs2,LT.out]
     have K5:Hid (Keep W0 w4):=KR.out.trans K4.out;have RW4:=Zq (zal RW.out K4.out);clear hs2 c0 c1 c2 q1;go_wp2;go_roundg (m - (j+1))
     case measure=>omega
     case rel=>exact⟨j+1,k,D,d,M,hlt,rfl,rfl,by go_num,by omega,K5,RW4,L2,LN⟩
  ·obtain rfl:j=m:=by omega
   obtain rfl:M=L:=by rw[hL.out,LT.out]
   have ln:=LN.out;have mem:∀ t,t<M.length->zah wr (row M t):=fun t ht=>by
    have hm:row M t∈M:=by
     unfold row;rw[List.getD_eq_getElem?_getD,List.getElem?_eq_getElem ht];exact List.getElem_mem _
    rw[LT.out,List.mem_filter] at hm;obtain⟨i,hi,e1⟩:=lst_mem.1 hm.1;rw[LT.out,<- e1];exact(R0.out.is i hi).keep KR.out
   have fin:Hid (zai wr D M.length (row M)/\M.length<=j):=by
    have h2:=RW.out;rw[<- podCs_row,<- ln] at h2;exact⟨zix h2 (by omega) mem,by omega⟩
   have K5:Hid (Keep w wr):=K0.out.trans KR.out;have FR:Hid (∀ g o,D=some ⟨g,o,none⟩->w.heap.size<=g):=fun g o h=>by
    have h1:=(RW.out.lt g (by rw[h];rfl)).1
    have h2:=K0.out.size;omega
   clear mem;go_wp2;go_ret
   exact⟨D,d,by rw[ln];rfl,K5.out,fin.out.1,fin.out.2,fun g o h=>by subst h;exact FR.out g o rfl⟩
set_option maxRecDepth 100000 in
set_option maxHeartbeats 8000000 in
theorem zys(A:Option Addr)(n c:Nat)(Z:Nat->Int)(k:Int)(w:World)(hA:Rd w A n Z)(b:Bool)(hb:b=true↔∃ j,j<n/\Z j=k):Calls Tryz.prog 81 #[.slice A n c,.int .i64 k] w fun e w'=>e=.returned (.bool b)/\Keep w w':=by
 have hs:=hA.small;replace hA:=Zq hA;replace hb:=Zq hb
 go_enter Tryz.func81,Tryz.ntmps81
 go_wp2
 go_loopg [5] n (fun gx s5 wr=>∃ j:Nat,j<=n/\gx=n - j/\s5=.int .i64 j/\wr=w/\Hid (∀ t,t<j->Z t≠k))
 case atStart=>exact⟨0,Nat.zero_le _,rfl,rfl,rfl,fun t h=>absurd h (Nat.not_lt_zero _)⟩
 case round =>
  obtain⟨j,hj,rfl,rfl,rfl,NO⟩:=hrel
  by_cases hlt:j<n
  ·obtain⟨g,off,hA',ca⟩:=hA.out.adr (by omega)
   subst hA';have q1:=akh g off n c j hlt;have x0:=ca j hlt;clear ca;obtain⟨z,hz⟩:=Zn (Z j);rw[<- hz] at x0
   by_cases h:z=k
   ·have b1:(z == k)=true:=by simp[h]
    have e1:Hid (b=true):=hb.out.2 ⟨j,hlt,by rw[<- hz,h]⟩
    replace h:=Zq h;replace hz:=Zq hz;go_wp2;go_ret
    exact⟨by rw[e1.out];rfl,Keep.refl _⟩
   ·have b1:(z == k)=false:=by simp[h]
    have NO2:Hid (∀ t,t<j+1->Z t≠k):=fun t ht=>by
     by_cases e:t=j
     ·rw[e,<- hz];exact h
     ·exact NO.out t (by omega)
    replace h:=Zq h;replace hz:=Zq hz;go_wp2;go_roundg (n - (j+1))
    case measure=>omega
    case rel=>exact⟨j+1,hlt,rfl,by go_num,rfl,NO2⟩
  ·obtain rfl:j=n:=by omega
   have e1:Hid (b=false):=by
    show _=_
    cases h:b with
    | false=>rfl
    | true =>
      obtain⟨t,ht,e⟩:=hb.out.1 h;exact absurd e (NO.out t ht)
   go_wp2;go_ret
   exact⟨by rw[e1.out];rfl,Keep.refl _⟩
end Go.Proofs.YtcogiogjpbkeaaaGreatDoor.T16
namespace Go.Proofs.YtcogiogjpbkeaaaGreatDoor.T14
open Go.RowKit Go.Sort Go.Lib V12 T13
theorem Tryz.infoU14:(Tryz.prog.info? 2).map (fun i=>(i.zero,i.size,i.bytes))=some (some (.int .i64 0),1,8):=by kernel_rfl
def zcd(w:World)(g d:Nat)(Z:Nat->Int):Prop:=w.rowIs g 2 d fun k=>.int .i64 (Z k)
theorem zcd.rd{w:World}{g d:Nat}{Z:Nat->Int}(h:zcd w g d Z)(hd:d<=9223372036854775807)(hz:∀ k,k<d->-9223372036854775808<=Z k/\Z k<=9223372036854775807):Rd w (some ⟨g,0,none⟩) d Z:=zhr h hd hz
theorem zcd.set{w:World}{g d i:Nat}{Z:Nat->Int}(h:zcd w g d Z)(u:Int):zcd (w.setCell ⟨g,i,none⟩ (.int .i64 u)) g d (fun k=>if k=i then u else Z k):=by
 refine(World.rowIs.set h i _).congr fun k hk=>?_
 show(if k=i then Value.int .i64 u else .int .i64 (Z k))=.int .i64 (if k=i then u else Z k)
 split<;>rfl
theorem zvu(P:Nat->zaa)(n:Nat)(id:Int)(j:Nat):zam (lst P (n+1)) id j=zam (lst P n) id j+zbm id j (P n):=by
 rw[lst_succ,zhc];show _+(zbm id j (P n)+0)=_
 omega
theorem zok{id:Int}{j:Nat}{y:zaa}(h:¬(y.d=id/\(y.h=3\/y.h=4))):zbm id j y=0:=by
 unfold zbm holds;rw[if_neg]
 simpa using h
theorem zyc{id:Int}{j:Nat}{y:zaa}(h:y.d=id/\(y.h=3\/y.h=4)):zbm id j y=y.Z j:=by
 unfold zbm holds;rw[if_pos (decide_eq_true h)]
theorem at64(g n cp j:Nat)(hj:j<n)(W:World):(Instr.indexAt 24 (.slice (some ⟨g,0,none⟩) n cp) (.int .i64 j)).run Tryz.prog W=.ok (.pointer (some ⟨g,j,none⟩)) W:=by
 go_simp
theorem aja(g o n cp j:Nat)(hj:j<n)(W:World):(Instr.indexAt 24 (.slice (some ⟨g,o,none⟩) n cp) (.int .i64 j)).run Tryz.prog W=.ok (.pointer (some ⟨g,o+j,none⟩)) W:=by
 go_simp
set_option maxRecDepth 100000 in
set_option maxHeartbeats 8000000 in
theorem zte(x:RcV)(d:Nat)(hd:x.d=d)(hd64:d<=64)(P:Nat->zaa)(id:Int)(w:World)(hR:zai w x.B x.m P)(hm:x.m<=100)(hp:∀ j,j<x.m->(P j).m=d/\∀ k,k<d->Amt ((P j).Z k)):
  Calls Tryz.prog 82 #[x.val,.int .i64 id] w fun e w'=>∃ g,e=.returned (.slice (some ⟨g,0,none⟩) d d)/\w.heap.size<=g/\zcd w' g d (zam (lst P x.m) id)/\Keep w w':=by
 have mixed:Tryz.prog.follows .mixedOrders=true:=by kernel_rfl
 obtain⟨xd,A,n,c,B,m,e⟩:=x;simp only at hd hR hm hp ⊢;subst hd;have hmk:=run_make_row' (P:=Tryz.prog) 24 2 (.int .i64 0) 8 Tryz.underlying24 Tryz.infoU14 rfl .i64 .i64 d (by omega) (by omega)
 have R0:Hid (zcd ((w.alloc (.cells #[.int .i64 d,.slice A n c,.slice B m e] 30)).alloc (.cells (madeCells #[.int .i64 0] d) 2)) (w.heap.size+1) d (zam (lst P 0) id)):=by
  have:=World.rowIs_made (w.alloc (.cells #[.int .i64 d,.slice A n c,.slice B m e] 30)) (.int .i64 0) d 2;rw[World.size_alloc] at this;exact this
 have X0:Hid (((w.alloc (.cells #[.int .i64 d,.slice A n c,.slice B m e] 30)).alloc (.cells (madeCells #[.int .i64 0] d) 2)).heap[w.heap.size]?=some (.cells (RcV.arr ⟨d,A,n,c,B,m,e⟩) 30 (0,0))):=(Keep.one _ _).block (heap_alloc_new _ _);have K0:Hid (Keep w ((w.alloc (.cells #[.int .i64 d,.slice A n c,.slice B m e] 30)).alloc (.cells (madeCells #[.int .i64 0] d) 2))):=(Keep.one _ _).alloc _;have hm1:max (d:Int) 0=d:=by omega
 have hb1:decide (0<=(d:Int))=true:=decide_eq_true (by omega)
 have hb2:decide ((d:Int)<0)=false:=decide_eq_false (by omega)
 have hm63:m<=9223372036854775807:=by omega
 replace hR:=Zq hR;replace hp:=Zq hp;unfold RcV.val
 go_enter Tryz.func82,Tryz.ntmps82
 go_wp2;try simp only[hm1]
 go_loopg [6] m (fun gx s6 wr=>∃ j:Nat,j<=m/\gx=m - j/\s6=.int .i64 j/\Hid (Keep w wr)/\Hid (wr.heap[w.heap.size]?=some (.cells (RcV.arr ⟨d,A,n,c,B,m,e⟩) 30 (0,0)))/\Hid (zcd wr (w.heap.size+1) d (zam (lst P j) id)))
 case atStart=>exact⟨0,Nat.zero_le _,rfl,rfl,K0,X0,R0⟩
 case round =>
  obtain⟨j,hj,rfl,rfl,KR,BR,RR⟩:=hrel
  by_cases hlt:j<m
  ·have hU:=hp.out j hlt
   obtain⟨gp,off,hA,ca⟩:=(hR.out.keep KR.out).adr (by omega)
   subst hA;have q1:=zar gp off m e j hlt;have Y:=ca j hlt;have yi:=hR.out.is j hlt;clear ca;obtain⟨y,hy⟩:=Zn (P j);have us:Hid (∀ k,zam (lst P (j+1)) id k=zam (lst P j) id k+zbm id k y):=fun k=>by rw[hy];exact zvu P j id k
   rw[<- hy] at Y hU yi;obtain⟨y0,y1,y2,y3,y4,y5,y6,y7,y8⟩:=Y;rw[hU.1] at y4;obtain⟨c0,c1,c2,cf⟩:=zab BR.out;have sz:=KR.out.size;have lb:w.heap.size+1<wr.heap.size:=RR.out.lt;have KA:Hid (Keep w (wr.alloc (.cells #[.int .i64 y.k,.int .i64 y.p,.bool y.f,.int .i64 y.g,.slice y.A d y.c,.int .i64 y.a,.int .i64 y.h,.int .i64 y.d,.int .i64 y.t] 26))):=KR.out.alloc _;have BA:Hid ((wr.alloc (.cells #[.int .i64 y.k,.int .i64 y.p,.bool y.f,.int .i64 y.g,.slice y.A d y.c,.int .i64 y.a,.int .i64 y.h,.int .i64 y.d,.int .i64 y.t] 26)).heap[w.heap.size]?=some (.cells (RcV.arr ⟨d,A,n,c,some ⟨gp,off,none⟩,m,e⟩) 30 (0,0))):=(Keep.one _ _).block BR.out;have RA:Hid (zcd (wr.alloc (.cells #[.int .i64 y.k,.int .i64 y.p,.bool y.f,.int .i64 y.g,.slice y.A d y.c,.int .i64 y.a,.int .i64 y.h,.int .i64 y.d,.int .i64 y.t] 26)) (w.heap.size+1) d (zam (lst P j) id)):=World.rowIs.alloc RR.out _;have SA:Hid ((wr.alloc (.cells #[.int .i64 y.k,.int .i64 y.p,.bool y.f,.int .i64 y.g,.slice y.A d y.c,.int .i64 y.a,.int .i64 y.h,.int .i64 y.d,.int .i64 y.t] 26)).heap[wr.heap.size]?=some (.cells #[.int .i64 y.k,.int .i64 y.p,.bool y.f,.int .i64 y.g,.slice y.A d y.c,.int .i64 y.a,.int .i64 y.h,.int .i64 y.d,.int .i64 y.t] 26 (0,0))):=heap_alloc_new _ _;have bd:Hid (∀ k,k<d->0<=zam (lst P j) id k/\zam (lst P j) id k<=109951162777600):=fun k hk=>by
    have hall:∀ z∈lst P j,Amt (z.Z k):=fun z hz=>by
     obtain⟨i,hi,rfl⟩:=lst_mem.1 hz;exact(hp.out i (by omega)).2 k hk
    refine⟨zfu hall,?_⟩;have:=zhv (id:=id) hall;rw[lst_len] at this;omega
   replace hy:=Zq hy;replace hU:=Zq hU;replace yi:=Zq yi;replace sz:=Zq sz
   by_cases hh:y.d=id/\(y.h=3\/y.h=4)
   ·have zs:Hid (∀ k,zam (lst P (j+1)) id k=zam (lst P j) id k+y.Z k):=fun k=>by rw[us.out,zyc hh]
    have hc:y.d=id/\y.h=3\/y.d=id/\y.h=4:=by
     rcases hh with ⟨h1,h2 | h2⟩
     ·exact Or.inl ⟨h1,h2⟩
     ·exact Or.inr ⟨h1,h2⟩
    replace hh:=Zq hh;rcases hc with ⟨h1,h2⟩ | ⟨h1,h2⟩
    all_goals
     rw[h1] at y7 KA BA RA SA;rw[h2] at y6 KA BA RA SA;replace h1:=Zq h1;replace h2:=Zq h2;go_wp2;obtain⟨sp,hsp⟩:=Zn (wr.heap.size);rw[<- hsp] at SA ⊢;replace hsp:=Zq hsp
     go_loopg [8] d (fun gx s8 wq=>∃ k:Nat,k<=d/\gx=d - k/\s8=.int .i64 k/\Hid (Keep w wq)/\Hid (wq.heap[w.heap.size]?=some (.cells (RcV.arr ⟨d,A,n,c,some ⟨gp,off,none⟩,m,e⟩) 30 (0,0)))/\Hid (∃ a b',wq.heap[sp]?=some (.cells #[.int .i64 y.k,.int .i64 y.p,.bool y.f,.int .i64 y.g,.slice y.A d y.c,.int .i64 y.a,a,b',.int .i64 y.t] 26 (0,0)))/\Hid (zcd wq (w.heap.size+1) d (fun t=>if t<k then zam (lst P (j+1)) id t else zam (lst P j) id t)))
     case atStart=>exact⟨0,Nat.zero_le _,rfl,rfl,KA,BA,⟨_,_,SA.out⟩,RA.out.congr fun t _=>by simp⟩
     case round =>
      obtain⟨k,hk,rfl,rfl,KQ,BQ,SQ,RQ⟩:=hrel
      by_cases hkd:k<d
      ·obtain⟨sa,sb,hs⟩:=SQ.out
       have s4:wr.cell? ⟨sp,4,none⟩=some (.slice y.A d y.c):=by rw[cell_of_row wr _ _ _ _ _ hs];rfl
       have yq:=(yi.out.rd.keep KQ.out);obtain⟨rb,ro,hA,cz⟩:=yq.adr (by rw[hU.out.1];omega)
       rw[hA] at s4;have z0:=cz k (by rw[hU.out.1];exact hkd)
       clear cz yq;have q2:=at64 (w.heap.size+1) d d k hkd;have q3:=aja rb ro d y.c k hkd;have r0:wr.cell? ⟨w.heap.size+1,k,none⟩=some (.int .i64 (zam (lst P j) id k)):=by
        have:=World.rowIs.cell RQ.out hkd;simp only[Nat.lt_irrefl,if_false] at this;exact this
       have r1:=World.rowIs.frozen RQ.out k;have bk:=bd.out k hkd;have ak:=hU.out.2 k hkd;unfold Amt at ak;obtain⟨uk,huk⟩:=Zn (zam (lst P j) id k);obtain⟨zk,hzk⟩:=Zn (y.Z k);rw[<- huk] at r0 bk;rw[<- hzk] at z0 ak;have e1:wrap64 (uk+zk)=uk+zk:=by unfold wrap64;omega
       have R2:Hid (zcd (wr.setCell ⟨w.heap.size+1,k,none⟩ (.int .i64 (uk+zk))) (w.heap.size+1) d (fun t=>if t<k+1 then zam (lst P (j+1)) id t else zam (lst P j) id t)):=by
        refine(zcd.set RQ.out (uk+zk)).congr fun t _=>?_
        show Value.int .i64 (if t=k then uk+zk else if t<k then zam (lst P (j+1)) id t else zam (lst P j) id t)=Value.int .i64 (if t<k+1 then zam (lst P (j+1)) id t else zam (lst P j) id t)
        by_cases et:t=k
        ·subst et
         rw[if_pos rfl,if_pos (Nat.lt_succ_self _),zs.out,huk,hzk]
        ·rw[if_neg et]
         by_cases e2:t<k
         ·rw[if_pos e2,if_pos (by omega)]
         ·rw[if_neg e2,if_neg (by omega)]
       replace huk:=Zq huk;replace hzk:=Zq hzk;replace bk:=Zq bk;replace ak:=Zq ak;replace hs:=Zq hs;go_wp2_with fail
       go_region
       all_goals
        have B2:Hid ((wr.setCell ⟨w.heap.size+1,k,none⟩ (.int .i64 (uk+zk))).heap[w.heap.size]?=some (.cells (RcV.arr ⟨d,A,n,c,some ⟨gp,off,none⟩,m,e⟩) 30 (0,0))):=(Below.heap_setCell _ _ _ _ (by show w.heap.size≠w.heap.size+1;omega)).trans BQ.out
        have S2:Hid (∃ a b',(wr.setCell ⟨w.heap.size+1,k,none⟩ (.int .i64 (uk+zk))).heap[sp]?=some (.cells #[.int .i64 y.k,.int .i64 y.p,.bool y.f,.int .i64 y.g,.slice y.A d y.c,.int .i64 y.a,a,b',.int .i64 y.t] 26 (0,0))):=⟨sa,sb,(Below.heap_setCell _ _ _ _ (by show sp≠w.heap.size+1;exact fun e=>absurd (hsp.out.symm.trans e) (by omega))).trans hs.out⟩
        have K2:Hid (Keep w (wr.setCell ⟨w.heap.size+1,k,none⟩ (.int .i64 (uk+zk)))):=KQ.out.set (by show w.heap.size<=w.heap.size+1;omega) _
        clear s4 z0 q2 q3 r0 r1 e1;go_wp2;go_roundg (d - (k+1))
        case measure=>omega
        case rel=>exact⟨k+1,hkd,rfl,by go_num,by first | exact K2.out | exact K2.out.drew | exact(KQ.out.drew).set (by show w.heap.size<=w.heap.size+1;omega) _,B2.out,S2.out,R2.out⟩
      ·obtain rfl:k=d:=by omega
       have R2:Hid (zcd wr (w.heap.size+1) k (zam (lst P (j+1)) id)):=RQ.out.congr fun t ht=>by simp only[ht,if_true]
       go_wp2;go_roundg (m - (j+1))
       case measure=>omega
       case rel=>exact⟨j+1,hlt,rfl,by go_num,KQ,BQ,R2⟩
   ·have zs:Hid (∀ k,zam (lst P (j+1)) id k=zam (lst P j) id k):=fun k=>by rw[us.out,zok hh];omega
    have R2:Hid (zcd (wr.alloc (.cells #[.int .i64 y.k,.int .i64 y.p,.bool y.f,.int .i64 y.g,.slice y.A d y.c,.int .i64 y.a,.int .i64 y.h,.int .i64 y.d,.int .i64 y.t] 26)) (w.heap.size+1) d (zam (lst P (j+1)) id)):=RA.out.congr fun t _=>by
     show Value.int .i64 (zam (lst P j) id t)=Value.int .i64 (zam (lst P (j+1)) id t)
     rw[zs.out]
    by_cases h1:y.d=id
    ·have h3:¬y.h=3:=fun h=>hh ⟨h1,Or.inl h⟩
     have h4:¬y.h=4:=fun h=>hh ⟨h1,Or.inr h⟩
     rw[h1] at y7 KA BA R2;have hb3:(y.h != 3)=true:=by simpa using h3
     have hb4:(y.h != 4)=true:=by simpa using h4
     replace hh:=Zq hh;replace h1:=Zq h1;go_wp2;go_roundg (m - (j+1))
     case measure=>omega
     case rel=>exact⟨j+1,hlt,rfl,by go_num,KA,BA,R2⟩
    ·replace hh:=Zq hh
     have hb5:(y.d != id)=true:=by simpa using h1
     go_wp2;go_roundg (m - (j+1))
     case measure=>omega
     case rel=>exact⟨j+1,hlt,rfl,by go_num,KA,BA,R2⟩
  ·obtain rfl:j=m:=by omega
   obtain⟨c0,c1,c2,cf⟩:=zab BR.out;go_wp2;go_ret
   exact⟨_,rfl,Nat.le_succ _,RR.out,KR.out⟩
end Go.Proofs.YtcogiogjpbkeaaaGreatDoor.T14
namespace Go.Proofs.YtcogiogjpbkeaaaGreatDoor.T16
open Go.RowKit Go.Sort Go.Lib V12 T13 T14 T15
theorem row_mem{L:List zaa}{t:Nat}(ht:t<L.length):row L t∈L:=by
 unfold row;rw[List.getD_eq_getElem?_getD,List.getElem?_eq_getElem ht];exact List.getElem_mem _
theorem zzj(P:Nat->zaa)(n j:Nat):zbs (T13.lst P (n+1)) j=zbs (T13.lst P n) j+(P n).Z j:=by
 rw[lst_succ,zhu];show _+((P n).Z j+0)=_
 omega
theorem zqr{L:List zaa}{n j:Nat}(hl:L.length<=n)(hn:n<=100)(h:∀ y∈L,Amt (y.Z j)):0<=zbs L j/\zbs L j<=109951162777600:=by
 have:=zjz h;omega
set_option maxRecDepth 100000 in
set_option maxHeartbeats 8000000 in
theorem zyr(x:RcV)(d:Nat)(hd:x.d=d)(hd64:d<=64)(p:zaa)(nd:Int)(P:Nat->zaa)(w:World)(hR:zai w x.B x.m P)(hm:x.m<=100)(hp:∀ j,j<x.m->(P j).m=d/\∀ k,k<d->Amt ((P j).Z k)):
  Calls Tryz.prog 83 #[x.val,p.val,.int .i64 nd] w fun e w'=>∃ g,e=.returned (.slice (some ⟨g,0,none⟩) d d)/\w.heap.size<=g/\zcd w' g d (zbs (zbt p nd (T13.lst P x.m)))/\Keep w w':=by
 have mixed:Tryz.prog.follows .mixedOrders=true:=by kernel_rfl
 obtain⟨xd,A,n,c,B,m,e⟩:=x;simp only at hd hR hm hp ⊢;subst hd;have hmk:=run_make_row' (P:=Tryz.prog) 24 2 (.int .i64 0) 8 Tryz.underlying24 Tryz.infoU14 rfl .i64 .i64 d (by omega) (by omega)
 obtain⟨L,hL⟩:=Zn (zbt p nd (T13.lst P m));rw[<- hL];have hI:Hid (∀ t,t<L.length->zah w (row L t)/\(row L t).m=d/\∀ k,k<d->Amt ((row L t).Z k)):=fun t ht=>by
  have h1:=row_mem ht;rw[hL] at h1;obtain⟨i,hi,e1⟩:=lst_mem.1 (List.mem_filter.1 h1).1;rw[hL,<- e1];exact⟨hR.is i hi,(hp i hi).1,(hp i hi).2⟩
 have s0:((w.alloc (.cells (RcV.arr ⟨d,A,n,c,B,m,e⟩) 30)).alloc (.cells (zac p) 26)).heap.size=w.heap.size+1+1:=by rw[World.size_alloc,World.size_alloc]
 obtain⟨W1,hW1⟩:=Zn ((((w.alloc (.cells (RcV.arr ⟨d,A,n,c,B,m,e⟩) 30)).alloc (.cells (zac p) 26)).alloc (.cells (madeCells #[.int .i64 0] d) 2)));have K1:Hid (Keep w W1):=by rw[hW1];exact((Keep.one _ _).alloc _).alloc _
 have B3:Hid (W1.heap[w.heap.size]?=some (.cells (RcV.arr ⟨d,A,n,c,B,m,e⟩) 30 (0,0))):=by rw[hW1];exact((Keep.one _ _).alloc _).block (heap_alloc_new _ _)
 have B4:Hid (W1.heap[w.heap.size+1]?=some (.cells (zac p) 26 (0,0))):=by
  rw[hW1];have h1:=heap_alloc_new (w.alloc (.cells (RcV.arr ⟨d,A,n,c,B,m,e⟩) 30)) (.cells (zac p) 26);rw[World.size_alloc] at h1;exact(Keep.one _ _).block h1
 obtain⟨g,hg⟩:=Zn (w.heap.size+1+1);have sz1:Hid (W1.heap.size=g+1):=by show _=_;rw[hW1,World.size_alloc,s0,hg]
 have R1:Hid (zcd W1 g d (zbs [])):=by
  have:=World.rowIs_made ((w.alloc (.cells (RcV.arr ⟨d,A,n,c,B,m,e⟩) 30)).alloc (.cells (zac p) 26)) (.int .i64 0) d 2;rw[s0,<- hg,<- hW1] at this;exact this
 obtain⟨b3,hb3⟩:=Zn (w.heap.size);obtain⟨b4,hb4⟩:=Zn (w.heap.size+1);rw[<- hb3] at B3;rw[<- hb4] at B4;have bg:Hid (b3<g/\b4<g/\w.heap.size<=g):=⟨Nat.lt_of_le_of_lt (Nat.le_of_eq hb3) (by rw[hg];exact Nat.lt_succ_of_lt (Nat.lt_succ_self _)),by rw[hg,hb4];exact Nat.lt_succ_self _,by rw[hg];exact Nat.le_succ_of_le (Nat.le_succ _)⟩
 have cP:Hid (Calls Tryz.prog 121 #[RcV.val ⟨d,A,n,c,B,m,e⟩,p.val,.int .i64 nd] W1 (aiz W1 m L)):=by
  rw[hL];exact zva ⟨d,A,n,c,B,m,e⟩ p nd P W1 (hR.keep K1.out) (Nat.le_trans hm (by decide))
 have hm1:max (d:Int) 0=d:=by omega
 have hb1:decide (0<=(d:Int))=true:=decide_eq_true (by omega)
 have hb2:decide ((d:Int)<0)=false:=decide_eq_false (by omega)
 replace hR:=Zq hR;replace hp:=Zq hp;replace hL:=Zq hL;obtain⟨c0,c1,c2,_⟩:=zab B3.out;have P4:=zae B4.out;have p0:=P4.e0;have p1:=P4.e1;have p2:=P4.e2;have p3:=P4.e3;have p4:=P4.e4;have p5:=P4.e5;have p6:=P4.e6;have p7:=P4.e7;have p8:=P4.e8;clear P4;unfold RcV.arr zac at hW1;unfold RcV.val zaa.val at cP ⊢;simp only at hW1 c0 c1 c2 cP ⊢
 go_enter Tryz.func83,Tryz.ntmps83
 go_wp2_with fail;try simp only[hm1]
 rw[<- hW1,<- hg,<- hb4,<- hb3];replace hW1:=Zq hW1;refine cP.out.mono ?_;rintro e' w3 ⟨D,d',rfl,KP,RD,hl,FR⟩;have K3:Hid (Keep w w3):=K1.out.trans KP;have R3:Hid (zcd w3 g d (zbs (T13.lst (row L) 0))):=by
  obtain⟨cs,h1,h2,h3⟩:=R1.out;exact⟨cs,(Keep.block KP h1),h2,h3⟩
 have G1:Hid (∀ gD o,D=some ⟨gD,o,none⟩->g<gD):=fun gD o h=>by
  have h1:=FR gD o h;have h2:=sz1.out;omega
 have G3:Hid (g<w3.heap.size):=R3.out.lt;have hl63:L.length<=9223372036854775807:=by omega
 clear c0 c1 c2 p0 p1 p2 p3 p4 p5 p6 p7 p8 FR cP;replace KP:=Zq KP;replace RD:=Zq RD;replace hg:=Zq hg;replace hb3:=Zq hb3;replace hb4:=Zq hb4;go_wp2
 go_loopg [9] L.length (fun gx s9 wr=>∃ j:Nat,j<=L.length/\gx=L.length - j/\s9=.int .i64 j/\Hid (Keep w wr)/\Hid (∀ k,k<w3.heap.size->k≠g->wr.heap[k]?=w3.heap[k]?)/\Hid (zcd wr g d (zbs (T13.lst (row L) j))))
 case atStart=>exact⟨0,Nat.zero_le _,rfl,rfl,K3,fun _ _ _=>rfl,R3⟩
 case round =>
  obtain⟨j,hj,rfl,rfl,KR,SR,RR⟩:=hrel
  by_cases hlt:j<L.length
  ·obtain⟨gp,off,hA,ca⟩:=RD.out.adr (by omega)
   subst hA;have q1:=zar gp off L.length d' j hlt;have Y4:=Zq (ca j hlt).e4;clear ca;have hne:=Zq (G1.out gp off rfl);obtain⟨y,hy⟩:=Zn (row L j);have yi:=hI.out j hlt;have us:Hid (∀ k,zbs (T13.lst (row L) (j+1)) k=zbs (T13.lst (row L) j) k+y.Z k):=fun k=>by rw[hy];exact zzj (row L) j k
   have bd:Hid (∀ k,k<d->0<=zbs (T13.lst (row L) j) k/\zbs (T13.lst (row L) j) k<=109951162777600):=fun k hk=>by
    refine zqr (n:=m) (by rw[lst_len];omega) hm fun z hz=>?_
    obtain⟨i,hi,rfl⟩:=lst_mem.1 hz;exact(hI.out i (by omega)).2.2 k hk
   obtain⟨oo,hoo⟩:=Zn (off+j * 9);rw[<- hy] at Y4 yi;rw[<- hoo] at Y4 q1;rw[yi.2.1] at Y4;replace hy:=Zq hy;replace yi:=Zq yi;replace hoo:=Zq hoo;go_wp2
   go_loopg [10] d (fun gx s10 wq=>∃ k:Nat,k<=d/\gx=d - k/\s10=.int .i64 k/\Hid (Keep w wq)/\Hid (∀ k,k<w3.heap.size->k≠g->wq.heap[k]?=w3.heap[k]?)/\Hid (zcd wq g d (fun t=>if t<k then zbs (T13.lst (row L) (j+1)) t else zbs (T13.lst (row L) j) t)))
   case atStart=>exact⟨0,Nat.zero_le _,rfl,rfl,KR,SR,RR.out.congr fun t _=>by simp⟩
   case round =>
    obtain⟨k,hk,rfl,rfl,KQ,SQ,RQ⟩:=hrel
    by_cases hkd:k<d
    ·have y4:=(World.cell?_of_block (a:=⟨gp,oo+4,none⟩) (SQ.out gp (World.block_lt_of_cell? _ _ Y4.out) (fun e=>absurd hne.out (by omega)))).trans Y4.out
     have yq:=(yi.out.1.rd.keep KQ.out);obtain⟨rb,ro,hA,cz⟩:=yq.adr (by rw[yi.out.2.1];omega)
     rw[hA] at y4;have z0:=cz k (by rw[yi.out.2.1];exact hkd)
     clear cz yq;have q2:=at64 g d d k hkd;have q3:=aja rb ro d y.c k hkd;have r0:wr.cell? ⟨g,k,none⟩=some (.int .i64 (zbs (T13.lst (row L) j) k)):=by
      have:=World.rowIs.cell RQ.out hkd;simp only[Nat.lt_irrefl,if_false] at this;exact this
     have r1:=World.rowIs.frozen RQ.out k;have bk:=bd.out k hkd;have ak:=yi.out.2.2 k hkd;unfold Amt at ak;obtain⟨uk,huk⟩:=Zn (zbs (T13.lst (row L) j) k);obtain⟨zk,hzk⟩:=Zn (y.Z k);rw[<- huk] at r0 bk;rw[<- hzk] at z0 ak;have e1:wrap64 (uk+zk)=uk+zk:=by unfold wrap64;omega
     have R2:Hid (zcd (wr.setCell ⟨g,k,none⟩ (.int .i64 (uk+zk))) g d (fun t=>if t<k+1 then zbs (T13.lst (row L) (j+1)) t else zbs (T13.lst (row L) j) t)):=by
      refine(zcd.set RQ.out (uk+zk)).congr fun t _=>?_
      show Value.int .i64 (if t=k then uk+zk else if t<k then zbs (T13.lst (row L) (j+1)) t else zbs (T13.lst (row L) j) t)=Value.int .i64 (if t<k+1 then zbs (T13.lst (row L) (j+1)) t else zbs (T13.lst (row L) j) t)
      by_cases et:t=k
      ·subst et
       rw[if_pos rfl,if_pos (Nat.lt_succ_self _),us.out,huk,hzk]
      ·rw[if_neg et]
       by_cases e2:t<k
       ·rw[if_pos e2,if_pos (by omega)]
       ·rw[if_neg e2,if_neg (by omega)]
     replace huk:=Zq huk;replace hzk:=Zq hzk;replace bk:=Zq bk;replace ak:=Zq ak;go_wp2_with fail
     go_region
     all_goals
      have S2:Hid (∀ t,t<w3.heap.size->t≠g->(wr.setCell ⟨g,k,none⟩ (.int .i64 (uk+zk))).heap[t]?=w3.heap[t]?):=fun t h1 h2=>(Below.heap_setCell _ _ _ _ (by show t≠g;exact h2)).trans (SQ.out t h1 h2)
      have K2:Hid (Keep w (wr.setCell ⟨g,k,none⟩ (.int .i64 (uk+zk)))):=KQ.out.set (by show w.heap.size<=g;exact bg.out.2.2) _
      clear y4 z0 q2 q3 r0 r1 e1;go_wp2;go_roundg (d - (k+1))
      case measure=>omega
      case rel=>exact⟨k+1,hkd,rfl,by go_num,by first | exact K2.out | exact K2.out.drew | exact(KQ.out.drew).set (by show w.heap.size<=g;exact bg.out.2.2) _,S2.out,R2.out⟩
    ·obtain rfl:k=d:=by omega
     have R2:Hid (zcd wr g k (zbs (T13.lst (row L) (j+1)))):=RQ.out.congr fun t ht=>by simp only[ht,if_true]
     go_wp2;go_roundg (L.length - (j+1))
     case measure=>omega
     case rel=>exact⟨j+1,hlt,rfl,by go_num,KQ,SQ,R2⟩
  ·obtain rfl:j=L.length:=by omega
   have LL:T13.lst (row L) L.length=L:=by
    apply List.ext_getElem
    ·rw[lst_len]
    ·intro i h1 h2
     simp only[T13.lst,List.getElem_map,List.getElem_range];unfold row;rw[List.getD_eq_getElem?_getD,List.getElem?_eq_getElem h2];rfl
   have RF:Hid (zcd wr g d (zbs L)):=by
    have:=RR.out;rw[LL] at this;exact this
   clear LL;go_wp2;go_ret
   exact⟨g,rfl,bg.out.2.2,RF.out,KR.out⟩
end Go.Proofs.YtcogiogjpbkeaaaGreatDoor.T16
