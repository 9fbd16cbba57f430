/-
  load.Of. Condition: at most 100 pods, the dimension is at most 64.
  The law's awake, over the contracts of package load. Condition: errors.errorType holds its own.
-/
import Derived.Test.YtihjgcibpfajkaaGreatDoorD41
import Derived.Test.YtihjgcibpfajkaaGreatDoorD18
namespace Go.Proofs.YtihjgcibpfajkaaGreatDoor.T16
open Go.RowKit Go.Sort Go.Lib V12 T13 T14 T15
def nth(T:List zaa)(r:Nat):zaa:=(T[r]?).getD zad
theorem zzp(T:List zaa):T13.lst (nth T) T.length=T:=by
 refine List.ext_getElem? fun i=>?_
 by_cases h:i<T.length
 ·rw[zav h,List.getElem?_eq_getElem h]
  unfold nth;rw[List.getElem?_eq_getElem h];rfl
 ·rw[List.getElem?_eq_none (by rw[T13.lst_len];omega),List.getElem?_eq_none (by omega)]
theorem zqt{T:List zaa}{r:Nat}(h:r<T.length):nth T r∈T:=by
 unfold nth;rw[List.getElem?_eq_getElem h];exact List.getElem_mem h
theorem zrf(a:Int)(f:Nat→Int):∀ n,sumTo (n+1) (fun r=>if r=0 then a else f (r - 1))=a+sumTo n f
 | 0=>by
   show sumTo 0 _+(if 0=0 then a else f (0 - 1))=a+0
   rw[if_pos rfl];show(0:Int)+a=a+0
   omega
 | n+1=>by
   have h:=zrf a f n;show sumTo (n+1) _+(if n+1=0 then a else f (n+1 - 1))=a+(sumTo n f+f n)
   rw[h,if_neg (by omega),Nat.add_sub_cancel]
   omega
theorem zre(S:Nat→zaa)(j:Nat):∀ n,sumTo n (fun r=>(S r).Z j)=zdb (T13.lst S n) j
 | 0=>rfl
 | n+1=>by
   rw[T13.lst_succ,zij,← zre S j n];show sumTo n _+(S n).Z j=_+((S n).Z j+0)
   omega
theorem abd(Y:Nat→Int)(T:List zaa)(i:Nat):sumTo (T.length+1) (fun r=>(if r=0 then Y else(nth T (r - 1)).Z) i)=Y i+zdb T i:=by
 have h:=zrf (Y i) (fun r=>(nth T r).Z i) T.length
 rw[zre,zzp] at h;rw[← h]
 congr 1
 funext r
 by_cases e:r=0
 ·rw[if_pos e,if_pos e]
 ·rw[if_neg e,if_neg e]
theorem afe{w:World}{base d g:Nat}{v:Value}{T:List zaa}{Y:Nat→Int}(hO:w.ownsRow base 24 1 v (T.length+1) (.slice (some ⟨g,0,none⟩) d d :: T.map rqV))(hz:Rd w (some ⟨g,0,none⟩) d Y)(hT:∀ y∈T,zaf w y)(hn:T.length≤100):∃ A c,v=.slice A (T.length+1) c ∧
  Rds w A (T.length+1) (fun r=>if r=0 then some ⟨g,0,none⟩ else(nth T (r - 1)).A) (fun r=>if r=0 then d else(nth T (r - 1)).m) (fun r=>if r=0 then d else(nth T (r - 1)).c) (fun r=>if r=0 then Y else(nth T (r - 1)).Z):=by
 obtain⟨g2,cap,rfl,_⟩:=hO.form (by omega)
 refine⟨_,_,rfl,by omega,fun _=>⟨g2,0,rfl,fun r hr=>?_⟩,fun r hr=>?_⟩
 ·rw[Nat.zero_add,hO.cellAt r (by omega)]
  rcases r with _ | r
  ·rfl
  ·have hr2:r<T.length:=by omega
   rw[List.getElem?_cons_succ,List.getElem?_map,List.getElem?_eq_getElem hr2];show some (rqV T[r])=some (rqV (nth T r))
   unfold nth;rw[List.getElem?_eq_getElem hr2];rfl
 ·rcases r with _ | r
  ·exact hz
  ·exact(hT _ (zqt (by omega))).rd
theorem zkl(O:Int→Bool)(nd:Int)(j:Nat)(L:List zaa):zdb ((L.filter (onB nd)).filter (zel O)) j=zaj (zlx O L) nd j:=by
 induction L with
 | nil=>rfl
 | cons y L ih =>
   unfold zlx at ih ⊢
   by_cases hO:O y.k=true
   ·rw[List.filter_cons_of_neg (p:=fun y:zaa=>!O y.k) (by simp[hO]),← ih]
    by_cases h1:onB nd y=true
    ·rw[List.filter_cons_of_pos h1,List.filter_cons_of_neg (by unfold zel;rw[hO];simp)]
    ·rw[List.filter_cons_of_neg h1]
   ·have hO2:O y.k=false:=by simpa using hO
    rw[List.filter_cons_of_pos (p:=fun y:zaa=>!O y.k) (by simp[hO2])]
    show _=zaz nd j y+_
    rw[← ih]
    by_cases h1:holds nd y=true
    ·have h2:=of_decide_eq_true h1
     have h3:onB nd y=true:=decide_eq_true ⟨h2.1,by omega,by omega⟩
     have h4:zel O y=true:=by unfold zel hdP;rw[hO2,decide_eq_true h2.2];rfl
     rw[List.filter_cons_of_pos h3,List.filter_cons_of_pos h4];unfold zaz;rw[if_pos h1];rfl
    ·unfold zaz
     rw[if_neg h1]
     by_cases h3:onB nd y=true
     ·have h4:¬zel O y=true:=fun e=>h1 (by
       unfold zel hdP at e;have e:=of_decide_eq_true (Bool.and_eq_true_iff.1 e).1
       exact decide_eq_true ⟨(afl h3).1,e⟩)
      rw[List.filter_cons_of_pos h3,List.filter_cons_of_neg h4];omega
     ·rw[List.filter_cons_of_neg h3]
      omega
theorem zwp{f:zaa→Int}{L:List zaa}(h:∀ y∈L,f y=0):smF f L=0:=by
 induction L with
 | nil=>rfl
 | cons y L ih =>
   show f y+smF f L=0
   rw[h y (by simp),ih fun z hz=>h z (by simp[hz])]
   rfl
theorem zuv{d:Nat}{M:List NV}{L:List zaa}(ok:Ok d M L){nd:Int}(hk:nd∉nk M)(O:Int→Bool)(p:zaa)(j:Nat):zca O p nd L j=0:=by
 rw[zls];refine zwp fun y hy=>?_
 unfold ldF;have a1:zaz nd j y=0:=zkj fun e=>hk (by rw[← e.1];exact ok.plc y hy (by omega) (by omega))
 have a2:¬zcy p nd y=true:=fun e=>by
  have e:=of_decide_eq_true e;exact hk (by rw[← e.2.2.1];exact ok.plc y hy (by omega) (by omega))
 rw[a1,if_neg a2]
 split<;>rfl
theorem zit{d:Nat}{M:List NV}{L:List zaa}(ok:Ok d M L)(nd:Int)(O:Int→Bool)(p:zaa)(j:Nat):ofZ O p nd M L j=zca O p nd L j:=by
 unfold ofZ
 by_cases h:nd∈nk M
 ·rw[if_pos h]
 ·rw[if_neg h,zuv ok h]
section
variable{CS:zba}{w w1:World}{d q:Nat}{M:List NV}{L:List zaa}{X:Nat→Prop}
set_option maxRecDepth 100000 in
set_option maxHeartbeats 8000000 in
theorem zuw(C:Con CS)(h:CS w d q M L X w1)(p:zaa)(nd:Int)(hd:I64 nd)(A:Option Addr)(n c:Nat)(O:Int→Bool)(hS:zfh w1 A n O)(h64:d≤64)(hl:L.length≤100):
  Calls Tryz.prog 109 #[.pointer (some ⟨q,0,none⟩),p.val,.int .i64 nd,.slice A n c] w1 fun e w'=>∃ v,e=.returned v∧Row w' v d (ofZ O p nd M L)∧(∀ g,v.ownBlock=some g→w1.heap.size≤g)∧Keep w1 w':=by
 have ok:=Lib.hid (C.ok h);obtain⟨Z,hZ0,hO0⟩:=hS;have hZ:=Lib.hid hZ0;have hO:=Lib.hid hO0;clear hZ0 hO0;obtain⟨W,hW⟩:∃ W,W=(w1.alloc (.cells (zab p) 26)).alloc (.cells #[.slice none 0 0] 144):=⟨_,rfl⟩;have s0:(w1.alloc (.cells (zab p) 26)).heap.size=w1.heap.size+1:=World.size_alloc _ _;have kW:Hid (Keep w1 W):=by rw[hW];exact(Keep.one _ _).alloc _
 have bP:Hid (W.heap[w1.heap.size]?=some (.cells (zab p) 26 (0,0))):=by rw[hW];exact(Keep.one _ _).block (heap_alloc_new _ _)
 have bB:Hid (Boxed W (w1.heap.size+1) 144 (.slice none 0 0)):=by rw[hW,← s0];exact Boxed.new _ _ _
 have cS:=Lib.hid (aam C (C.keep h kW.out) p nd hd hl h64);have P0:=zah bP.out;have c0:=P0.e0;have c1:=P0.e1;have c2:=P0.e2;have c3:=P0.e3;have c4:=P0.e4;have c5:=P0.e5;have c6:=P0.e6;have c7:=P0.e7;have c8:=P0.e8;clear P0;rw[hW] at c0 c1 c2 c3 c4 c5 c6 c7 c8;have hmf:=@hmf;replace h:=Lib.hid h;replace s0:=Lib.hid s0;replace hd:=Lib.hid hd;unfold zab at hW c0 c1 c2 c3 c4 c5 c6 c7 c8;unfold zaa.val at cS;unfold zaa.val
 go_enter Tryz.func109,Tryz.ntmps109
 go_wp2_with fail;rw[← hW];replace hW:=Lib.hid hW;clear c0 c1 c2 c3 c4 c5 c6 c7 c8;refine cS.out.mono ?_;rintro e w2 ⟨g,rfl,g1,g2,rz,k2⟩;obtain⟨pb,hpb⟩:∃ b,b=w1.heap.size+1:=⟨_,rfl⟩;rw[← hpb] at bB ⊢;have gW:Hid (pb<g):=Nat.lt_of_lt_of_le bB.out.lt g1;have b2:Hid (Boxed w2 pb 144 (.slice none 0 0)):=Keep.block k2 bB.out;obtain⟨bs,hbs⟩:∃ b,b=w2.heap.size:=⟨_,rfl⟩;have gb:Hid (g<bs):=by rw[hbs];exact g2
 have K2:Hid (Keep w1 w2):=kW.out.trans k2;have r2:Hid (w2.ownsRow bs 24 1 (.slice none 0 0) 0 []):=World.ownsRow_nil _ _ _ _;have d1:=Lib.hid (zve (some ⟨g,0,none⟩) d d b2.out r2.out (Nat.le_of_eq hbs) (by omega))
 replace rz:=Lib.hid rz;replace k2:=Lib.hid k2;replace g1:=Lib.hid g1;replace g2:=Lib.hid g2;replace hbs:=Lib.hid hbs;have pb1:Hid (w1.heap.size≤pb):=by rw[hpb];exact Nat.le_succ _
 replace hpb:=Lib.hid hpb;clear cS bB;go_wp2_with fail;refine d1.out.mono ?_;rintro e w3 ⟨rfl,v3,b3,r3,f3⟩;have K3:Hid (Keep w1 w3):=Fr.low K2.out f3 fun i hi=>by
  rcases hi with e | e
  ·rw[e];exact pb1.out
  ·cases e
 have z3:Hid (Rd w3 (some ⟨g,0,none⟩) d (zdb (zbv p nd L))):=zjw rz.out (f3.block g g2.out fun hi=>by
  rcases hi with e | e
  ·have:=gW.out;omega
  ·cases e)
 have s3:Hid (bs≤w3.heap.size):=by rw[hbs.out];exact f3.size
 have cT:=Lib.hid (aed A n c Z w3 (hZ.out.keep K3.out));replace b3:=Lib.hid b3;replace r3:=Lib.hid r3;replace f3:=Lib.hid f3;clear d1 b2 r2;go_wp2_with fail;refine cT.out.mono ?_;rintro e w4 ⟨mb,l,rfl,hmb,I4,S4,k4⟩;have b4:Hid (Boxed w4 pb 144 v3):=Keep.block k4 b3.out;have r4:=Lib.hid (own_keep r3.out k4);have z4:=Lib.hid (z3.out.keep k4);have K4:Hid (Keep w1 w4):=K3.out.trans k4;have s4:Hid (bs≤w4.heap.size):=Nat.le_trans s3.out k4.size;have cE:=Lib.hid (zlh C (C.keep h.out K4.out) nd hd.out hl I4 (S4.look I4.nodup hO.out) b4.out r4.out s4.out);replace I4:=Lib.hid I4;replace S4:=Lib.hid S4;replace hmb:=Lib.hid hmb;replace k4:=Lib.hid k4;clear cT b3 r3 z3;go_wp2_with fail;refine cE.out.mono ?_;rintro e w5 ⟨rfl,v5,T,b5,r5,T5,e5,f5⟩;have K5:Hid (Keep w1 w5):=Fr.low K4.out f5 fun i hi=>by
  rcases hi with e | e
  ·rw[e];exact pb1.out
  ·have:=K2.out.size;have:=hbs.out;omega
 have z5:Rd w5 (some ⟨g,0,none⟩) d (zdb (zbv p nd L)):=zjw z4.out (f5.block g (Nat.lt_of_lt_of_le gb.out s4.out) fun hi=>by
  have:=gW.out;have:=gb.out
  rcases hi with e | e<;>omega)
 have tl:T.length≤100:=by
  have h1:=congrArg List.length e5;rw[List.length_map] at h1;rw[h1];exact Nat.le_trans (Nat.le_trans (List.length_filter_le _ _) (List.length_filter_le _ _)) hl
 obtain⟨B5,c5,hv5,RD⟩:=afe r5 z5 T5 tl;subst hv5;have mem:∀ y∈T,∃ x∈L,nm y=x:=fun y hy=>by
  have h2:nm y∈(L.filter (onB nd)).filter (zel O):=by rw[← e5];exact List.mem_map_of_mem hy
  exact⟨_,(List.mem_filter.1 (List.mem_filter.1 h2).1).1,rfl⟩
 have hm:∀ y∈T,y.m=d∧∀ i,i<d→Amt (y.Z i):=fun y hy=>by
  obtain⟨x,hx,e⟩:=mem y hy;have:=ok.out.req x hx;rw[← e] at this;exact this
 have sm:∀ i,sumTo (T.length+1) (fun r=>(if r=0 then zdb (zbv p nd L) else(nth T (r - 1)).Z) i)=ofZ O p nd M L i:=fun i=>by
  rw[abd,zit ok.out,← zmg e5,zkl];unfold zca;omega
 have rg:∀ i,i<d→0≤ofZ O p nd M L i∧ofZ O p nd M L i≤219902325555200:=fun i hi=>by
  rw[zit ok.out];unfold zca;rw[← zkl,zmg e5];have h1:=zfw (L:=T) (j:=i) fun y hy=>(hm y hy).2 i hi
  have h2:=zfw (L:=zbv p nd L) (j:=i) fun y hy=>(ok.out.req y (List.mem_filter.1 hy).1).2 i hi
  have h3:(zbv p nd L).length≤100:=Nat.le_trans (List.length_filter_le _ _) hl;omega
 have ml:∀ r,r<T.length+1→(if r=0 then d else(nth T (r - 1)).m)=d:=fun r hr=>by
  rcases r with _ | r
  ·rfl
  ·exact(hm _ (zqt (by omega))).1
 have cA:=ziz B5 (T.length+1) c5 _ _ _ _ w5 RD (by omega) (fun r hr=>by
  show(if r=0 then d else(nth T (r - 1)).m)≤_
  rw[ml r hr]
  omega) (by omega)
 have aOk:zhw (T.length+1) (fun r=>if r=0 then d else(nth T (r - 1)).m) (fun r=>if r=0 then zdb (zbv p nd L) else(nth T (r - 1)).Z):=by
  refine⟨by omega,fun r hr=>(ml r hr).trans (ml 0 (by omega)).symm,fun i hi=>?_⟩
  have hi':i<d:=hi;rw[sm i];unfold inR;have:=rg i hi';exact decide_eq_true (by omega)
 have cA2:Hid (Calls Tryz.prog 100 #[.slice B5 (T.length+1) c5] w5 fun e w'=>∃ v,e=.returned (.tuple #[v,.bool true])∧Row w' v d (ofZ O p nd M L)∧(∀ g,v.ownBlock=some g→w1.heap.size≤g)∧Keep w1 w'):=by
  refine cA.mono ?_;rintro e w' ⟨k',⟨_,he,hr⟩ | ⟨hno,_⟩⟩
  ·refine⟨_,he,⟨_,_,rfl,zec (World.rowIs.congr hr fun i hi=>by rw[sm i]) (by omega) fun i hi=>by have:=rg i hi;omega⟩,fun g hg=>?_,K5.out.trans k'⟩
   cases hg
   exact K5.out.size
  ·exact absurd aOk hno
 have y5:=b5.cell;replace b5:=Lib.hid b5;replace r5:=Lib.hid r5;replace T5:=Lib.hid T5;replace e5:=Lib.hid e5;replace f5:=Lib.hid f5;clear cA RD mem hm sm rg ml aOk tl z5 cE;go_wp2_with fail;refine cA2.out.mono ?_;rintro e w6 ⟨v,rfl,h1,h2,h3⟩;replace h1:=Lib.hid h1;replace h2:=Lib.hid h2;replace h3:=Lib.hid h3;go_wp2;go_ret
 exact⟨v,rfl,h1.out,h2.out,h3.out⟩
end
end Go.Proofs.YtihjgcibpfajkaaGreatDoor.T16
namespace Go.Proofs.YtihjgcibpfajkaaGreatDoor.T16
open Go.RowKit Go.Sort Go.Lib V12 T13 T14 T15
section
variable{CS:zba}{w w1:World}{d q:Nat}{M:List NV}{L:List zaa}{X:Nat→Prop}
end
end Go.Proofs.YtihjgcibpfajkaaGreatDoor.T16
