/-
  Which nodes a pod fits on, and why not on the others, as lists; the contracts of package filter (ConF). No walk.
  Appends of numbers that can be read to an own row of numbers. No condition, no walk.
  The reference's Lower and IDs of layer 18. Conditions: at most 100 pods, priorities up to 2^30, no ID twice.
  The reference's Of of layer 18, over what its Lower and Fits answer. Conditions: at most 100 lower pods.
  The reference's Possible and Minimal of layer 18, over what its Lower and Fits answer. Conditions: at most 100 pods.
  The reference's Possible of layer 18, over what its Lower and Fits answer. Conditions: at most 100 pods.
-/
import Derived.Test.YtcogiogjpbkeaaaGreatDoorJ0
import Derived.Test.YtcogiogjpbkeaaaGreatDoorJ17
import Derived.Test.YtcogiogjpbkeaaaGreatDoorJ18
namespace Go.Proofs.YtcogiogjpbkeaaaGreatDoor.T17
open Go.RowKit Go.Sort Go.Lib V12 T13 T14 T15 T16
def zax(l:List Int)(j:Nat):Int:=l.getD j 0
theorem zhp{l:List Int}{j:Nat}(h:j<l.length):l[j]?=some (zax l j):=by
 unfold zax;rw[List.getD_eq_getElem?_getD,List.getElem?_eq_getElem h];rfl
theorem zdo{l:List Int}{j:Nat}(h:j<l.length):zax l j∈l:=List.mem_of_getElem? (zhp h)
theorem zei{l:List Int}{k:Int}(h:k∈l):∃ j,j<l.length/\zax l j=k:=by
 obtain⟨j,hj,e⟩:=List.mem_iff_getElem.1 h;refine⟨j,hj,?_⟩;unfold zax;rw[List.getD_eq_getElem?_getD,List.getElem?_eq_getElem hj];exact e
def zbv(w:World)(v:Value)(l:List Int):Prop:=∃ A c,v=.slice A l.length c/\Rd w A l.length (zax l)/\(A=none->l.length=0/\c=0)/\l.length<=c
theorem zbv.keep{w w':World}{v:Value}{l:List Int}(h:zbv w v l)(k:Keep w w'):zbv w' v l:=by
 obtain⟨A,c,h1,h2,h3⟩:=h;exact⟨A,c,h1,h2.keep k,h3⟩
structure RdP(w:World)(A:Option Addr)(n:Nat)(Z Y:Nat->Int):Prop where
 small:n<=9223372036854775807
 range:∀ k,k<n->(-9223372036854775808<=Z k/\Z k<=9223372036854775807)/\-9223372036854775808<=Y k/\Y k<=9223372036854775807
 adr:0<n->∃ b off,A=some ⟨b,off,none⟩/\∀ j,j<n->w.cell? ⟨b,off+j * 2,none⟩=some (.int .i64 (Z j))/\w.cell? ⟨b,off+j * 2+1,none⟩=some (.int .i64 (Y j))
theorem RdP.keep{w w':World}{A:Option Addr}{n:Nat}{Z Y:Nat->Int}(h:RdP w A n Z Y)(k:Keep w w'):RdP w' A n Z Y :=
 ⟨h.small,h.range,fun hn=>by
  obtain⟨b,off,e,hc⟩:=h.adr hn
  exact⟨b,off,e,fun j hj=>⟨k.cell (hc j hj).1,k.cell (hc j hj).2⟩⟩⟩
section
variable{p q:zaa}{M:List NV}{L:List zaa}{d:Nat}
end
end Go.Proofs.YtcogiogjpbkeaaaGreatDoor.T17
namespace Go.Proofs.YtcogiogjpbkeaaaGreatDoor.T16
open Go.RowKit Go.Sort Go.Lib V12 T13 T14 T15
theorem Tryz.infoI16:(Tryz.prog.info? 3).map (fun i=>(i.zero,i.size,i.bytes))=some (some (.int .i64 0),1,8):=by kernel_rfl
theorem zno(m:Nat)(Z:Nat->Int):∀ u∈zba m Z,u.oneCell'=true:=by
 intro u hu;unfold zba at hu;obtain⟨j,_,rfl⟩:=List.mem_map.1 hu;rfl
theorem zta{m:Nat}{Z:Nat->Int}{j:Nat}{u:Value}(h:(zba m Z)[j]?=some u):j<m/\u=.int .i64 (Z j):=by
 unfold zba at h;rw[List.getElem?_map] at h
 by_cases hj:j<m
 ·rw[List.getElem?_range hj] at h
  exact⟨hj,(Option.some.inj h).symm⟩
 ·rw[List.getElem?_eq_none (by rw[List.length_range];omega)] at h
  cases h
theorem ztc(m:Nat)(Z:Nat->Int):(zba m Z).length=m:=by unfold zba;rw[List.length_map,List.length_range]
theorem zux{W:World}{base k:Nat}{e:TypeId}(hb:base<=k)(h:W.heap[k]?=some (.cells #[] e (0,0))):W.ownsRow base e 1 (.slice (some ⟨k,0,none⟩) 0 0) 0 []:=
 ⟨rfl,.inr ⟨k,0,#[],rfl,hb,h,Nat.le_refl _,Nat.zero_le _,rfl,rfl⟩⟩
section
variable{ops:Array Oper}{rest:List Oper}{o:Oper}{a:Act}{w:World}{Q:Exit->Act->World->Prop}{es e:TypeId}
theorem zla(hu:Tryz.prog.underlying es=some (.slice e))(hinfo:(Tryz.prog.info? e).map (fun i=>(i.zero,i.size,i.bytes))=some (some (.int .i64 0),1,8))(hgd:o.guard=none)(s x:Operand)(ho:o.op=.call { callee:=.builtin .append,args:=#[s,x],argTypes:=#[es,es] })
  (base:Nat) (v:Value) (n:Nat) (xs:List Value) (hs:a.eval s=v) (hown:w.ownsRow base e 1 v n xs) (B:Option Addr) (m c:Nat) (Z:Nat->Int) (hx:a.eval x=.slice B m c) (hB:Rd w B m Z) (nilB:B=none->m=0/\c=0)
  (hlim:n+m<=1048577) (hbase:base<=w.heap.size) (N:Nat) (hN:n+m=N)
  (h:∀ v' w',w'.ownsRow base e 1 v' N (xs++zba m Z)->w.grownBy w' v.ownBlock->wpList Tryz.prog ops Q rest (a.put o.dst v') w'):wpList Tryz.prog ops Q (o :: rest) a w:=by
 subst hN;obtain⟨i0,hi0,hz0,hz1,hz2⟩:=info_parts hinfo;cases B with
 | none =>
   obtain⟨rfl,rfl⟩:=nilB rfl;exact wpList_append_own_none hgd s x es ho base e i0 1 hu hi0 v n xs hs hown hx (h v w (by rw[show zba 0 Z=[] from rfl,List.append_nil];exact hown) ⟨rfl,rfl,rfl,Nat.le_refl _,fun _ _ _=>rfl⟩)
 | some ad =>
   exact wpList_append_own (P:=Tryz.prog) w hgd s x es ho base e i0 _ 1 8 hu hi0 hz0 hz1 hz2 rfl (by decide) v n xs hs hown ad m c (zba m Z) hx (by rw[Nat.mul_one];exact ztc m Z) (fun j u hu=>by
    obtain⟨hj,rfl⟩:=zta hu;obtain⟨b,off,e2,hc⟩:=hB.adr (by omega)
    obtain rfl:=Option.some.inj e2;rw[WideShapes.add_plain]
    exact hc j hj) (zno m Z) (by unfold maxLen;omega) (by omega) hbase fun v' w' h2 h3 _=>h v' w' h2 h3
end
theorem own_row{w:World}{base n:Nat}{e:TypeId}{v:Value}{Z:Nat->Int}(h:w.ownsRow base e 1 v n (zba n Z))(hn:n<=9223372036854775807)(hz:∀ j,j<n->-9223372036854775808<=Z j/\Z j<=9223372036854775807):∃ A c,v=.slice A n c/\Rd w A n Z/\∀ g o,A=some ⟨g,o,none⟩->base<=g/\o=0:=by
 obtain⟨A,c,rfl,h0⟩:=zan h;refine⟨A,c,rfl,⟨hn,hz,fun hp=>?_⟩,fun g o e2=>?_⟩
 ·obtain⟨g,cap,e2,_,_⟩:=h.form hp
  simp only[Value.slice.injEq] at e2;obtain⟨rfl,_,rfl⟩:=e2;refine⟨g,0,rfl,fun j hj=>?_⟩
  rw[Nat.zero_add];have h2:=h.cellAt j (by rw[Nat.mul_one];exact hj)
  rw[h2];unfold zba;rw[List.getElem?_map,List.getElem?_range hj];rfl
 ·subst e2
  rcases h.2 with ⟨e3,_⟩ | ⟨g2,cap,cur,e3,hb,_⟩
  ·cases e3
  ·cases e3
   exact⟨hb,rfl⟩
theorem acw(n:Nat)(Z:Nat->Int)(z:Int):zba n Z++zba 1 (fun _=>z)=zba (n+1) (fun j=>if j<n then Z j else z):=by
 rw[<- zik n (fun j=>if j<n then Z j else z),if_neg (Nat.lt_irrefl n)]
 congr 1
 unfold zba;refine List.map_congr_left fun j hj=>?_
 show Value.int .i64 (Z j)=.int .i64 (if j<n then Z j else z)
 rw[if_pos (List.mem_range.1 hj)]
def zln(w:World)(g n:Nat)(Z:Nat->Int):Prop:=∃ cur:Array Value,w.heap[g]?=some (.cells cur 2 (0,0))/\∀ j,j<n->cur[j]?=some (.int .i64 (Z j))
section
variable{w:World}{g n:Nat}{Z:Nat->Int}
theorem zln.cell(h:zln w g n Z){j:Nat}(hj:j<n):w.cell? ⟨g,j,none⟩=some (.int .i64 (Z j)):=by
 obtain⟨cur,h1,h2⟩:=h;rw[cell_of_row w g j _ _ _ h1];exact h2 j hj
theorem zln.frozen(h:zln w g n Z)(j:Nat):w.frozen? ⟨g,j,none⟩=false:=by
 obtain⟨cur,h1,_⟩:=h;simp[World.frozen?,h1]
theorem zln.same{w':World}(h:zln w g n Z)(e:w'.heap[g]?=w.heap[g]?):zln w' g n Z:=by
 obtain⟨cur,h1,h2⟩:=h;exact⟨cur,e.trans h1,h2⟩
theorem zln.set(h:zln w g n Z){i:Nat}(u:Int):zln (w.setCell ⟨g,i,none⟩ (.int .i64 u)) g n (fun j=>if j=i then u else Z j):=by
 obtain⟨cur,h1,h2⟩:=h;refine⟨_,heap_setCell_same w g i _ _ _ h1,fun j hj=>?_⟩
 have h3:=h2 j hj;show _=some (Value.int .i64 (if j=i then u else Z j))
 by_cases e:j=i
 ·subst e
  rw[if_pos rfl];have:=(Array.getElem?_eq_some_iff.1 h3).1;simp[this]
 ·rw[if_neg e,<- h3]
  simp[Ne.symm e]
theorem zln.rd(h:zln w g n Z)(hn:n<=9223372036854775807)(hz:∀ j,j<n->-9223372036854775808<=Z j/\Z j<=9223372036854775807):Rd w (some ⟨g,0,none⟩) n Z :=
 ⟨hn,hz,fun _=>⟨g,0,rfl,fun j hj=>by rw[Nat.zero_add];exact h.cell hj⟩⟩
end
end Go.Proofs.YtcogiogjpbkeaaaGreatDoor.T16
namespace Go.Proofs.YtcogiogjpbkeaaaGreatDoor.T18
open Go.RowKit Go.Sort Go.Lib V12 T13 T14 T15 T16 T17
theorem agw(p:zaa)(nd:Int)(L:List zaa):((L.filter (onB nd)).filter (zdm 3)).filter (zjo p.p)=L.filter (zqe p nd):=by
 rw[List.filter_filter,List.filter_filter];refine List.filter_congr fun y _=>?_
 unfold onB zdm zjo zqe;rw[<- Bool.decide_and,<- Bool.decide_and,decide_eq_decide];omega
theorem zpc(z:Int):zba 1 (fun _=>z)=[.int .i64 z]:=rfl
theorem zgq{w:World}{b:Nat}{z:Int}{T:TypeId}(h:w.heap[b]?=some (.cells #[.int .i64 z] T (0,0)))(hz:I64 z):Rd w (some ⟨b,0,none⟩) 1 (fun _=>z):=
 ⟨by omega,fun _ _=>hz,fun _=>⟨b,0,rfl,fun j hj=>by
  obtain rfl:j=0:=by omega
  rw[Nat.zero_add,cell_of_row w b 0 _ _ _ h]
  rfl⟩⟩
theorem zjm{L:List zaa}(f:zaa->Bool)(h:(keys L).Nodup):(keys (L.filter f)).Nodup:=List.Nodup.sublist (List.Sublist.map _ List.filter_sublist) h
theorem zqq(L:List zaa):(zht L).length=L.length:=(zdj L).length_eq
theorem zia(p:zaa)(nd:Int)(L:List zaa):(zbr p nd L).length<=L.length:=by
 unfold zbr;rw[zqq];exact List.length_filter_le _ _
set_option maxRecDepth 100000 in
set_option maxHeartbeats 8000000 in
theorem zsr(x:RcV)(p:zaa)(nd:Int)(P:Nat->zaa)(w:World)(hR:zai w x.B x.m P)(hm:x.m<=100)(hp:PrB (T13.lst P x.m))(hu:(keys (T13.lst P x.m)).Nodup):
  Calls Tryz.prog 14 #[x.val,p.val,.int .i64 nd] w fun e w'=>∃ B d,e=.returned (.slice B (zbr p nd (T13.lst P x.m)).length d)/\Keep w w'/\zai w' B (zbr p nd (T13.lst P x.m)).length (row (zbr p nd (T13.lst P x.m))):=by
 obtain⟨xd,A,n,c,B,m,e⟩:=x;simp only at hR hm hp hu ⊢;obtain⟨W0,hW0⟩:=Zn ((w.alloc (.cells (RcV.arr ⟨xd,A,n,c,B,m,e⟩) 30)).alloc (.cells (zac p) 26));have s0:(w.alloc (.cells (RcV.arr ⟨xd,A,n,c,B,m,e⟩) 30)).heap.size=w.heap.size+1:=World.size_alloc _ _;have K0:Hid (Keep w W0):=by rw[hW0];exact(Keep.one _ _).alloc _
 have B3:Hid (W0.heap[w.heap.size]?=some (.cells (RcV.arr ⟨xd,A,n,c,B,m,e⟩) 30 (0,0))):=by rw[hW0];exact(Keep.one _ _).block (heap_alloc_new _ _)
 have B4:Hid (W0.heap[w.heap.size+1]?=some (.cells (zac p) 26 (0,0))):=by rw[hW0,<- s0];exact heap_alloc_new _ _
 obtain⟨b3,hb3⟩:=Zn (w.heap.size);obtain⟨b4,hb4⟩:=Zn (w.heap.size+1);rw[<- hb3] at B3;rw[<- hb4] at B4;obtain⟨L,hL⟩:=Zn (T13.lst P m);rw[<- hL] at hp hu ⊢;obtain⟨L1,hL1⟩:=Zn (L.filter (onB nd));obtain⟨L2,hL2⟩:=Zn (L1.filter (zdm 3));obtain⟨L3,hL3⟩:=Zn (L2.filter (zjo p.p));have e3:L3=L.filter (zqe p nd):=by rw[hL3,hL2,hL1,agw]
 have hl:L.length=m:=by rw[hL,lst_len]
 have l1:L1.length<=100:=by rw[hL1];exact Nat.le_trans (List.length_filter_le _ _) (by omega)
 have l2:L2.length<=100:=by rw[hL2];exact Nat.le_trans (List.length_filter_le _ _) l1
 have l3:L3.length<=100:=by rw[hL3];exact Nat.le_trans (List.length_filter_le _ _) l2
 have hp3:∀ j,j<L3.length->-1073741824<=(row L3 j).p/\(row L3 j).p<=1073741824:=fun j hj=>by
  have h:row L3 j∈L.filter (zqe p nd):=by rw[<- e3];exact row_mem hj
  exact hp _ (List.mem_filter.1 h).1
 have hu3:(keys (T13.lst (row L3) L3.length)).Nodup:=by rw[lst_row,e3];exact zjm _ hu
 have e4:zbr p nd L=zht L3:=by unfold zbr;rw[e3]
 rw[e4];have R0:=Zq (hR.keep K0.out);have cO:=Zq (alf B m e P nd W0 R0.out (by omega))
 rw[<- hL,<- hL1] at cO;have cW:Hid (∀ (B1:Option Addr) (d1:Nat) (w1:World),zai w1 B1 L1.length (row L1)->Calls Tryz.prog 40 #[.slice B1 L1.length d1,.int .i64 3] w1 (zjd w1 L1.length L2)):=fun B1 d1 w1 h=>by
  have:=adl B1 L1.length d1 (row L1) 3 w1 h (by omega)
  rw[lst_row,<- hL2] at this;exact this
 have cL:Hid (∀ (B1:Option Addr) (d1:Nat) (w1:World),zai w1 B1 L2.length (row L2)->Calls Tryz.prog 43 #[.slice B1 L2.length d1,.int .i64 p.p] w1 (zjd w1 L2.length L3)):=fun B1 d1 w1 h=>by
  have:=zyy B1 L2.length d1 (row L2) p.p w1 h (by omega)
  rw[lst_row,<- hL3] at this;exact this
 have cS:Hid (∀ (B1:Option Addr) (d1:Nat) (w1:World),zai w1 B1 L3.length (row L3)->Calls Tryz.prog 42 #[.slice B1 L3.length d1] w1 fun e w'=>∃ B d,e=.returned (.slice B L3.length d)/\Keep w1 w'/\zai w' B L3.length (row (zht L3))):=fun B1 d1 w1 h=>by
  have:=adh B1 L3.length d1 (row L3) w1 h (by omega) hp3 hu3
  rw[lst_row] at this;exact this
 rw[zqq];replace hR:=Zq hR;replace s0:=Zq s0;replace hL:=Zq hL;replace hL1:=Zq hL1;replace hL2:=Zq hL2;replace hL3:=Zq hL3;replace e3:=Zq e3;replace e4:=Zq e4;replace hl:=Zq hl;replace hp:=Zq hp;replace hu:=Zq hu;replace hp3:=Zq hp3;replace hu3:=Zq hu3;unfold RcV.arr zac at hW0;unfold RcV.val zaa.val;simp only at hW0
 go_enter Tryz.func14,Tryz.ntmps14
 obtain⟨c0,c1,c2,_⟩:=zab B3.out;simp only at c0 c1 c2;go_wp2_with fail;rw[<- hW0,<- hb4,<- hb3];replace hW0:=Zq hW0;replace hb3:=Zq hb3;replace hb4:=Zq hb4;go_wp2_with fail;refine cO.out.mono ?_;rintro e' w1 ⟨B1,d1,rfl,k1,R1,_⟩;have K1:Hid (Keep W0 w1):=k1;replace k1:=Zq k1;replace R1:=Zq R1;clear c0 c1 c2 cO;have c:=Zq (cW.out B1 d1 w1 R1.out);go_wp2_with fail;refine c.out.mono ?_;rintro e' w2 ⟨B2,d2,rfl,k2,R2,_⟩;have K2:Hid (Keep W0 w2):=K1.out.trans k2;replace k2:=Zq k2;replace R2:=Zq R2;clear c;have p1:=(zae (Keep.block K2.out B4.out)).e1;have c:=Zq (cL.out B2 d2 w2 R2.out);go_wp2_with fail;refine c.out.mono ?_;rintro e' w3 ⟨B3',d3,rfl,k3,R3,_⟩;have K3:Hid (Keep W0 w3):=K2.out.trans k3;replace k3:=Zq k3;replace R3:=Zq R3;clear c p1;have c:=Zq (cS.out B3' d3 w3 R3.out);go_wp2_with fail;refine c.out.mono ?_;rintro e' w4 ⟨B5,d5,rfl,k4,R4⟩;have K4:Hid (Keep W0 w4):=K3.out.trans k4;replace k4:=Zq k4;replace R4:=Zq R4;go_wp2;go_ret
 exact⟨B5,d5,rfl,K0.out.trans K4.out,R4.out⟩
set_option maxRecDepth 100000 in
set_option maxHeartbeats 4000000 in
theorem zie(A:Option Addr)(n c:Nat)(P:Nat->zaa)(w:World)(hR:zai w A n P)(hN:n<=1000):
  Calls Tryz.prog 18 #[.slice A n c] w fun e w'=>∃ v,e=.returned v/\zbv w' v (keys (T13.lst P n))/\Keep w w':=by
 replace hR:=Zq hR
 go_enter Tryz.func18,Tryz.ntmps18
 go_wp2
 go_loopg [3,4] n (fun gx s3 s4 wr=>∃ (j:Nat) (B:Option Addr) (d:Nat),j<=n/\gx=n - j/\s4=.int .i64 j/\s3=.slice B j d/\Hid (Keep w wr)/\Hid (wr.ownsRow w.heap.size 3 1 (.slice B j d) j (zba j fun t=>(P t).k)))
 case atStart=>exact⟨0,none,0,Nat.zero_le _,rfl,rfl,rfl,Keep.refl _,World.ownsRow_nil _ _ _ _⟩
 case round =>
  obtain⟨j,B,d,hj,rfl,rfl,rfl,G,RW⟩:=hrel
  by_cases hlt:j<n
  ·have R2:=hR.out.keep G.out
   obtain⟨b,off,hA,ca⟩:=R2.adr (by omega)
   subst hA;have q1:=zar b off n c j hlt;have X:=ca j hlt;clear ca;replace R2:=Zq R2;have x0:=X.e0;clear X;have gsz:Hid (w.heap.size<=wr.heap.size):=G.out.size;have rk:Hid (I64 (P j).k):=(hR.out.is j hlt).rng.1;have ap:Hid (zba j (fun t=>(P t).k)++zba 1 (fun _=>(P j).k)=zba (j+1) fun t=>(P t).k):=by show _=_;rw[zpc];exact zik j fun t=>(P t).k
   generalize (P j).k=z at *;go_wp2_with (at_builtin;refine zla Tryz.underlying43 Tryz.infoI16 rfl _ _ rfl w.heap.size (.slice B j d) j (zba j fun t=>(P t).k) (by simp[Act.eval]) (zal RW.out (Keep.one _ _)) (some ⟨wr.heap.size,0,none⟩) 1 1 (fun _=>z) (by simp[Act.eval]) (zgq (heap_alloc_new _ _) rk.out) (fun e=>by cases e) (by omega) (by rw[World.size_alloc];have:=gsz.out;omega) (j+1) rfl ?_;intro v3 w3 hr3 hg3)
   have K3:Hid (Keep w w3):=zad (G.out.trans (Keep.one _ _)) hg3 (fun q hq=>(RW.out.lt q hq).1)
   obtain⟨B4,d4,hB4,_⟩:=zan hr3;subst hB4;rw[ap.out] at hr3;replace hr3:=Zq hr3;replace hg3:=Zq hg3;clear x0 q1;go_wp2;go_roundg (n - (j+1))
   case measure=>omega
   case rel=>exact⟨j+1,B4,d4,hlt,rfl,by go_num,rfl,K3,hr3⟩
  ·obtain rfl:j=n:=by omega
   have fin:Hid (zbv wr (.slice B j d) (keys (T13.lst P j))):=by
    have hl:(keys (T13.lst P j)).length=j:=by simp[keys,T13.lst]
    have hz:∀ i,i<j->zax (keys (T13.lst P j)) i=(P i).k:=fun i hi=>by
     unfold zax;rw[List.getD_eq_getElem?_getD];simp[keys,T13.lst,hi]
    obtain⟨A',c',e,h1,h2⟩:=own_row RW.out (by omega) fun i hi=>(hR.out.is i hi).rng.1
    cases e
    unfold zbv;rw[hl];refine⟨B,d,rfl,⟨h1.small,fun i hi=>by rw[hz i hi];exact h1.range i hi,fun hp=>?_⟩,fun e=>?_,zds RW.out⟩
    ·obtain⟨b,o,e,hc⟩:=h1.adr hp
     exact⟨b,o,e,fun i hi=>by rw[hz i hi];exact hc i hi⟩
    ·obtain⟨A2,c2,e2,h3⟩:=zan RW.out
     cases e2
     exact h3 e
   go_wp2;go_ret
   exact⟨_,rfl,fin.out,G.out⟩
end Go.Proofs.YtcogiogjpbkeaaaGreatDoor.T18
namespace Go.Proofs.YtcogiogjpbkeaaaGreatDoor.T18
open Go.RowKit Go.Sort Go.Lib V12 T13 T14 T15 T16 T17
def zfa(f:(Int->Bool)->Bool):List zaa->List zaa->List zaa
 | acc,[]=>acc
 | acc,y :: r=>if f (zdx (acc++r))=true then zfa f acc r else zfa f (acc++[y]) r
theorem aev(p:zaa)(nd:Int)(M:List NV)(L:List zaa)(d:Nat):∀ l acc,zhd p nd M L d acc l=zfa (fun O=>zcc O p nd M L d) acc l
 | [],_=>by unfold zhd zfa;rfl
 | y :: r,acc=>by
   unfold zhd zfa;rw[aev p nd M L d r acc,aev p nd M L d r (acc++[y])]
theorem zwh(l:List zaa):zdx (l.map nm)=zdx l:=by
 funext k
 unfold zdx;rw[zbq]
theorem zqw(f:(Int->Bool)->Bool):∀ l acc,zfa f (acc.map nm) (l.map nm)=(zfa f acc l).map nm
 | [],_=>by unfold zfa;rfl
 | y :: r,acc=>by
   rw[List.map_cons];unfold zfa;rw[<- List.map_append,zwh,zqw f r acc,show acc.map nm++[nm y]=(acc++[y]).map nm by rw[List.map_append];rfl,zqw f r (acc++[y])]
   split<;>rfl
def zdw(l:List zaa)(S:Nat->Bool)(i:Nat):List zaa:=((List.range i).filter fun t=>!S t).map (row l)
theorem zmi(l:List zaa)(S:Nat->Bool)(i:Nat):zdw l S (i+1)=zdw l S i++if S i=true then[] else[row l i]:=by
 unfold zdw;rw[List.range_succ,List.filter_append,List.map_append]
 congr 1
 cases h:S i<;>simp[h]
theorem zog{l:List zaa}{S R:Nat->Bool}{i:Nat}(h:∀ t,t<i->S t=R t):zdw l S i=zdw l R i:=by
 unfold zdw
 congr 1
 exact List.filter_congr fun t ht=>by rw[h t (List.mem_range.1 ht)]
def znp(l:List zaa)(S:Nat->Bool)(i k:Nat):List Int:=((List.range k).filter fun t=>!S t&&decide (t≠i)).map fun t=>(row l t).k
theorem adi(l:List zaa)(S:Nat->Bool)(i k:Nat):znp l S i (k+1)=znp l S i k++if (!S k&&decide (k≠i))=true then[(row l k).k] else[]:=by
 unfold znp;rw[List.range_succ,List.filter_append,List.map_append,List.filter_cons,List.filter_nil]
 split<;>rfl
theorem zin{l:List zaa}{a:Nat}{y:zaa}:y∈l.drop a↔∃ s,a<=s/\s<l.length/\row l s=y:=by
 refine⟨mem_drop_row,fun ⟨s,h1,h2,e⟩=>?_⟩
 rw[<- zfj (n:=l.length) rfl,<- e];exact lst_mem.2 ⟨s - a,by omega,by rw[show a+(s - a)=s by omega]⟩
theorem ahy{l:List zaa}{S:Nat->Bool}{i:Nat}(hi:i<=l.length)(hs:∀ t,i<=t->S t=false)(z:Int):zdx (zdw l S i++l.drop (i+1)) z=true↔z∈znp l S i l.length:=by
 unfold zdx;rw[decide_eq_true_iff];unfold keys;rw[List.mem_map];unfold znp;rw[List.mem_map];constructor
 ·rintro⟨y,hy,rfl⟩
  rcases List.mem_append.1 hy with hy | hy
  ·unfold zdw at hy
   obtain⟨t,ht,rfl⟩:=List.mem_map.1 hy;obtain⟨h1,h2⟩:=List.mem_filter.1 ht;have h1:=List.mem_range.1 h1;exact⟨t,List.mem_filter.2 ⟨List.mem_range.2 (by omega),by rw[h2];exact decide_eq_true (by omega)⟩,rfl⟩
  ·obtain⟨t,h1,h2,rfl⟩:=mem_drop_row hy
   exact⟨t,List.mem_filter.2 ⟨List.mem_range.2 h2,by rw[hs t (by omega)];exact decide_eq_true (by omega)⟩,rfl⟩
 ·rintro⟨t,ht,rfl⟩
  obtain⟨h1,h2⟩:=List.mem_filter.1 ht;have h1:=List.mem_range.1 h1;rw[Bool.and_eq_true] at h2;have h3:=of_decide_eq_true h2.2;refine⟨row l t,List.mem_append.2 ?_,rfl⟩
  by_cases e:t<i
  ·left
   unfold zdw;exact List.mem_map.2 ⟨t,List.mem_filter.2 ⟨List.mem_range.2 e,h2.1⟩,rfl⟩
  ·right
   exact zin.2 ⟨t,by omega,h1,rfl⟩
end Go.Proofs.YtcogiogjpbkeaaaGreatDoor.T18
namespace Go.Proofs.YtcogiogjpbkeaaaGreatDoor.T18
open Go.RowKit Go.Sort Go.Lib V12 T13 T14 T15 T16 T17
def zci(I:List Int)(k:Int):Bool:=decide (k∈I)
theorem agk(l:List zaa):zdx l=zci (keys l):=rfl
def zgn(f:(Int->Bool)->Bool)(I:List Int):Bool:=f (zci I)&&(List.range I.length).all fun i=>!f (zci (I.take i++I.drop (i+1)))
theorem abg{f:(Int->Bool)->Bool}{I:List Int}(h:f (zci I)=false):zgn f I=false:=by
 unfold zgn;rw[h];rfl
theorem ahe{f:(Int->Bool)->Bool}{I:List Int}{i:Nat}(hi:i<I.length)(h:f (zci (I.take i++I.drop (i+1)))=true):zgn f I=false:=by
 unfold zgn;rw[Bool.and_eq_false_iff]
 right
 rw[List.all_eq_false];exact⟨i,List.mem_range.2 hi,by rw[h];decide⟩
theorem zqg{f:(Int->Bool)->Bool}{I:List Int}(h:f (zci I)=true)(hh:∀ i,i<I.length->f (zci (I.take i++I.drop (i+1)))=false):zgn f I=true:=by
 unfold zgn;rw[h,Bool.true_and,List.all_eq_true];exact fun i hi=>by rw[hh i (List.mem_range.1 hi)];rfl
theorem zon{w:World}{A:Option Addr}{n c:Nat}{I:List Int}(h:zbv w (.slice A n c) I):zcq w A n (zci I):=by
 obtain⟨A',c',e,h1,_⟩:=h;cases e
 exact⟨zax I,h1,fun k=>⟨fun hk=>zei (of_decide_eq_true hk),fun ⟨j,hj,e⟩=>decide_eq_true (by rw[<- e];exact zdo hj)⟩⟩
theorem cut_row(I:List Int){i n:Nat}(hn:I.length=n)(hi:i<n):zba i (zax I)++zba (n - (i+1)) (fun t=>zax I (i+1+t))=zba (n - 1) (zax (I.take i++I.drop (i+1))):=by
 have hl:(I.take i).length=i:=by rw[List.length_take];omega
 refine List.ext_getElem? fun j=>?_
 unfold zba
 by_cases h1:j<i
 ·rw[List.getElem?_append_left (by simp;omega),List.getElem?_map,List.getElem?_range h1,List.getElem?_map,List.getElem?_range (by omega)]
  simp only[Option.map_some];unfold zax;rw[List.getD_eq_getElem?_getD,List.getD_eq_getElem?_getD,List.getElem?_append_left (by omega),List.getElem?_take,if_pos h1]
 ·rw[List.getElem?_append_right (by simp;omega)]
  simp only[List.length_map,List.length_range]
  by_cases h2:j<n - 1
  ·rw[List.getElem?_map,List.getElem?_range (by omega),List.getElem?_map,List.getElem?_range h2]
   simp only[Option.map_some];unfold zax;rw[List.getD_eq_getElem?_getD,List.getD_eq_getElem?_getD,List.getElem?_append_right (by omega),hl,List.getElem?_drop]
  ·rw[List.getElem?_eq_none (by simp;omega),List.getElem?_eq_none (by simp;omega)]
section
variable{ops:Array Oper}{o:Oper}{a:Act}{w:World}{K:Act->World->Prop}{Q:Exit->Act->World->Prop}{E:Prop}{es e:TypeId}
theorem zxh(hu:Tryz.prog.underlying es=some (.slice e))(hinfo:(Tryz.prog.info? e).map (fun i=>(i.zero,i.size,i.bytes))=some (some (.int .i64 0),1,8))(hgd:o.guard=none)(s x:Operand)(ho:o.op=.call { callee:=.builtin .append,args:=#[s,x],argTypes:=#[es,es] })
  (base:Nat) (v:Value) (n:Nat) (xs:List Value) (hs:a.eval s=v) (hown:w.ownsRow base e 1 v n xs) (B:Option Addr) (m c:Nat) (Z:Nat->Int) (hx:a.eval x=.slice B m c) (hB:Rd w B m Z) (nilB:B=none->m=0/\c=0)
  (hlim:n+m<=1048577) (hbase:base<=w.heap.size) (N:Nat) (hN:n+m=N)
  (h:∀ v' w',w'.ownsRow base e 1 v' N (xs++zba m Z)->w.grownBy w' v.ownBlock->K (a.put o.dst v') w') :
  if Region.wanted o (yielded ops a.tmps)=true then Oper.wp Tryz.prog o a w K Q else E:=by
 have hw:Region.wanted o (yielded ops a.tmps)=true:=by simp[Region.wanted,hgd]
 rw[if_pos hw];subst hN;obtain⟨i0,hi0,hz0,hz1,hz2⟩:=info_parts hinfo;cases B with
 | none =>
   obtain⟨rfl,rfl⟩:=nilB rfl;have hrun:=run_append_owned_none (P:=Tryz.prog) (w:=w) base es o.type e i0 1 hu hi0 v n xs hown;have hg:w.grownBy w v.ownBlock:=⟨rfl,rfl,rfl,Nat.le_refl _,fun _ _ _=>rfl⟩
   have:=h v w (by rw[show zba 0 Z=[] from rfl,List.append_nil];exact hown) hg
   unfold Oper.wp;simp[execOp,ho,resolve,invoke,builtin,hs,hx,hrun,Result.andThen]
   exact this
 | some ad =>
   exact wp_append_own (P:=Tryz.prog) w s x es ho base e i0 _ 1 8 hu hi0 hz0 hz1 hz2 rfl (by decide) v n xs hs hown ad m c (zba m Z) hx (by rw[Nat.mul_one];exact ztc m Z) (fun j u hu=>by
    obtain⟨hj,rfl⟩:=zta hu;obtain⟨b,off,e2,hc⟩:=hB.adr (by omega)
    obtain rfl:=Option.some.inj e2;rw[WideShapes.add_plain]
    exact hc j hj) (zno m Z) (by unfold maxLen;omega) (by omega) hbase fun v' w' h2 h3 _=>h v' w' h2 h3
end
set_option maxRecDepth 100000 in
set_option maxHeartbeats 16000000 in
theorem zoc(x:RcV)(p:zaa)(nd:Int)(I:List Int)(v:Value)(f:(Int->Bool)->Bool)(w:World)(hI:zbv w v I)(hl:I.length<=100)
  (cF:∀ W A n c O,Keep w W->zcq W A n O->n<=200->Calls Tryz.prog 21 #[x.val,p.val,.int .i64 nd,.slice A n c] W fun e w'=>e=.returned (.bool (f O))/\Keep W w') :
  Calls Tryz.prog 19 #[x.val,p.val,.int .i64 nd,v] w fun e w'=>e=.returned (.bool (zgn f I))/\Keep w w':=by
 have mixed:Tryz.prog.follows .mixedOrders=true:=by kernel_rfl
 obtain⟨xd,XA,Xn,Xc,XB,Xm,Xe⟩:=x;obtain⟨r,hr⟩:=Zn (zgn f I);rw[<- hr];have hI0:=hI;obtain⟨A,c,rfl,hR,hnil,hcap⟩:=hI;obtain⟨N,hN⟩:=Zn (I.length);rw[<- hN] at hI0 hR hnil hcap hl ⊢;obtain⟨W0,hW0⟩:=Zn ((w.alloc (.cells (RcV.arr ⟨xd,XA,Xn,Xc,XB,Xm,Xe⟩) 30)).alloc (.cells (zac p) 26));have s0:(w.alloc (.cells (RcV.arr ⟨xd,XA,Xn,Xc,XB,Xm,Xe⟩) 30)).heap.size=w.heap.size+1:=World.size_alloc _ _;have K0:Hid (Keep w W0):=by rw[hW0];exact(Keep.one _ _).alloc _
 have B3:Hid (W0.heap[w.heap.size]?=some (.cells (RcV.arr ⟨xd,XA,Xn,Xc,XB,Xm,Xe⟩) 30 (0,0))):=by rw[hW0];exact(Keep.one _ _).block (heap_alloc_new _ _)
 have B4:Hid (W0.heap[w.heap.size+1]?=some (.cells (zac p) 26 (0,0))):=by rw[hW0,<- s0];exact heap_alloc_new _ _
 obtain⟨b3,hb3⟩:=Zn (w.heap.size);obtain⟨b4,hb4⟩:=Zn (w.heap.size+1);rw[<- hb3] at B3;rw[<- hb4] at B4;obtain⟨b,hb⟩:=Zn (f (zci I));have cO:=cF W0 A N c _ K0.out (zon (zbv.keep hI0 K0.out)) (by omega)
 rw[<- hb] at cO;replace cO:=Zq cO;replace cF:=Zq cF;replace hr:=Zq hr;replace hb:=Zq hb;replace hN:=Zq hN;replace hR:=Zq hR;replace hnil:=Zq hnil;replace hI0:=Zq hI0;replace s0:=Zq s0;obtain⟨c0,c1,c2,_⟩:=zab B3.out;have P4:=zae B4.out;have p0:=P4.e0;have p1:=P4.e1;have p2:=P4.e2;have p3:=P4.e3;have p4:=P4.e4;have p5:=P4.e5;have p6:=P4.e6;have p7:=P4.e7;have p8:=P4.e8;clear P4;simp only at c0 c1 c2;unfold RcV.val zaa.val at cO cF;unfold RcV.arr zac at hW0;unfold RcV.val zaa.val;simp only at hW0 cO cF
 go_enter Tryz.func19,Tryz.ntmps19
 go_wp2_with fail;rw[<- hW0,<- hb4,<- hb3];replace hW0:=Zq hW0;replace hb3:=Zq hb3;replace hb4:=Zq hb4;go_wp2_with fail;refine cO.out.mono ?_;rintro e' w1 ⟨rfl,k1⟩;have K1:Hid (Keep W0 w1):=k1;replace k1:=Zq k1;clear c0 c1 c2 p0 p1 p2 p3 p4 p5 p6 p7 p8 cO;cases b with
 | false =>
   have e1:Hid (r=false):=hr.out.trans (abg hb.out.symm);go_wp2;go_ret
   exact⟨by rw[e1.out];rfl,K0.out.trans K1.out⟩
 | true =>
   go_wp2
   go_loopg [9,10] N (fun gx s9 _ wr=>∃ i:Nat,i<=N/\gx=N - i/\s9=.int .i64 i/\Hid (Keep W0 wr)/\Hid (∀ t,t<i->f (zci (I.take t++I.drop (t+1)))=false))
   case atStart=>exact⟨0,Nat.zero_le _,rfl,rfl,K1,fun t h=>absurd h (Nat.not_lt_zero _)⟩
   case round =>
    obtain⟨i,hi,rfl,rfl,KR,SF⟩:=hrel
    by_cases hlt:i<N
    ·have KW:Hid (Keep w wr):=K0.out.trans KR.out
     have R1:=hR.out.keep KW.out;obtain⟨g,off,hA,ca⟩:=R1.adr (by omega)
     subst hA;have hic:i+1<=c:=by omega
     have lo:Hid (∀ W,Keep wr W->Rd W (some ⟨g,off,none⟩) i (zax I)):=fun W kk=>⟨by omega,fun k hk=>hR.out.range k (by omega),fun _=>⟨g,off,rfl,fun j hj=>kk.cell (ca j (by omega))⟩⟩
     obtain⟨o2,ho2,hX⟩:∃ o2,(N - (i+1)≠0->o2=off+(i+1))/\(if c=i+1 then some (⟨g,off,none⟩:Addr) else some ⟨g,off+(i+1),none⟩)=some ⟨g,o2,none⟩:=by
      by_cases h:c=i+1
      ·exact⟨off,fun h2=>by omega,if_pos h⟩
      ·exact⟨off+(i+1),fun _=>rfl,if_neg h⟩
     have hi2:Hid (∀ W,Keep wr W->Rd W (some ⟨g,o2,none⟩) (N - (i+1)) (fun t=>zax I (i+1+t))):=fun W kk=>by
      refine⟨by omega,fun k hk=>hR.out.range _ (by omega),fun hp=>?_⟩
      exact⟨g,o2,rfl,fun j hj=>by rw[ho2 (by omega),Nat.add_assoc];exact kk.cell (ca _ (by omega))⟩
     replace ho2:=Zq ho2;have CR:Hid (zba i (zax I)++zba (N - (i+1)) (fun t=>zax I (i+1+t))=zba (N - 1) (zax (I.take i++I.drop (i+1)))):=cut_row I hN.out.symm hlt
     clear ca R1;have hwp:IntKind.i64.wrap ((i:Int)+1)=(i:Int)+1:=by rw[IntKind.wrap_i64];omega
     have htn:((i:Int)+1).toNat=i+1:=by omega
     have hz1:(i:Int)+1<=(c:Int):=by omega
     have hz2:(i:Int)+1<=(N:Int):=by omega
     have hz3:(0:Int)<=(i:Int)+1:=by omega
     have hz4:(i:Int)<=(c:Int):=by omega
     have hz5:(i:Int)<=(N:Int):=by omega
     go_wp2_with fail
     go_region_law (first
      | (refine zxh Tryz.underlying43 Tryz.infoI16 rfl (.tmp 23) (.tmp 26) rfl wr.heap.size (.slice (some ⟨wr.heap.size,0,none⟩) 0 0) 0 [] (by simp[Act.eval]) (zux (Nat.le_refl _) (heap_alloc_new _ _)) (some ⟨g,off,none⟩) i c (zax I) (by simp[Act.eval]) (lo.out _ (by repeat (first | exact Keep.refl _ | apply Keep.alloc | apply Keep.drew))) (fun e=>by cases e) (by omega) (by simp<;>omega) i (Nat.zero_add _) ?_;intro v3 w3 hr3 hg3;have K3:Hid (Keep wr w3):=zad (by repeat (first | exact Keep.refl _ | apply Keep.alloc | apply Keep.drew)) hg3 (fun q hq=>by simp[Value.ownBlock] at hq;omega);simp only[List.nil_append] at hr3;replace hr3:=Zq hr3;replace hg3:=Zq hg3)
      | (refine zxh Tryz.underlying43 Tryz.infoI16 rfl (.tmp 27) (.tmp 31) rfl wr.heap.size v3 i (zba i (zax I)) (by simp[Act.eval]) hr3.out (some ⟨g,o2,none⟩) (N - (i+1)) (c - (i+1)) (fun t=>zax I (i+1+t)) (by simp[Act.eval]) (hi2.out _ K3.out) (fun e=>by cases e) (by omega) (by have:=K3.out.size;simp<;>omega) (N - 1) (by omega) ?_;intro v5 w5 hr5 hg5;have K5:Hid (Keep wr w5):=zad K3.out hg5 (fun q hq=>(hr3.out.lt q hq).1);rw[CR.out] at hr5;replace hr5:=Zq hr5;replace hg5:=Zq hg5))
     all_goals
      obtain⟨J,hJ⟩:=Zn (I.take i++I.drop (i+1));rw[<- hJ] at hr5;have ST:∃ B5 d5,v5=.slice B5 (N - 1) d5/\zcq w5 B5 (N - 1) (zci J):=by
       have hlJ:J.length=N - 1:=by rw[hJ,List.length_append,List.length_take,List.length_drop,<- hN.out];omega
       obtain⟨A',c',e,h1,_⟩:=own_row hr5.out (by omega) fun j hj=>by
        have h:zax J j∈I:=by
         have h:zax J j∈I.take i++I.drop (i+1):=by
          rw[<- hJ];exact zdo (by omega)
         rcases List.mem_append.1 h with h | h
         ·exact List.mem_of_mem_take h
         ·exact List.mem_of_mem_drop h
        obtain⟨t,ht,e⟩:=zei h;rw[<- e];exact hR.out.range t (by rw[hN.out];exact ht)
       exact⟨A',c',e,zax J,h1,fun k=>⟨fun hk=>by rw[<- hlJ];exact zei (of_decide_eq_true hk),fun ⟨j,hj,e⟩=>decide_eq_true (by rw[<- e];exact zdo (by omega))⟩⟩
      obtain⟨B5,d5,rfl,ST⟩:=ST;replace ST:=Zq ST;obtain⟨bb,hbb⟩:=Zn (f (zci J));have KX:Hid (Keep W0 w5):=KR.out.trans K5.out;have cX:=cF.out w5 B5 (N - 1) d5 _ (K0.out.trans KX.out) ST.out (by omega)
      rw[<- hbb] at cX;replace cX:=Zq cX;rw[hJ] at hbb;replace hJ:=Zq hJ;replace hbb:=Zq hbb;obtain⟨c0,c1,c2,_⟩:=zab (Keep.block KX.out B3.out);simp only at c0 c1 c2;have P4:=zae (Keep.block KX.out B4.out);have p0:=P4.e0;have p1:=P4.e1;have p2:=P4.e2;have p3:=P4.e3;have p4:=P4.e4;have p5:=P4.e5;have p6:=P4.e6;have p7:=P4.e7;have p8:=P4.e8;clear P4;go_wp2_with fail;refine cX.out.mono ?_;rintro e' w6 ⟨rfl,k6⟩;have K6:Hid (Keep W0 w6):=KX.out.trans k6;replace k6:=Zq k6;clear c0 c1 c2 p0 p1 p2 p3 p4 p5 p6 p7 p8 cX;cases bb with
      | true =>
        have e1:Hid (r=false):=hr.out.trans (ahe (by rw[<- hN.out];exact hlt) hbb.out.symm)
        go_wp2;go_ret
        exact⟨by rw[e1.out];rfl,K0.out.trans K6.out⟩
      | false =>
        have SN:Hid (∀ t,t<i+1->f (zci (I.take t++I.drop (t+1)))=false):=fun t ht=>by
         by_cases e:t=i
         ·rw[e]
          exact hbb.out.symm
         ·exact SF.out t (by omega)
        go_wp2;go_roundg (N - (i+1))
        case measure=>omega
        case rel=>exact⟨i+1,hlt,rfl,by go_num,K6,SN⟩
    ·obtain rfl:i=N:=by omega
     have e1:Hid (r=true):=hr.out.trans (zqg hb.out.symm fun t ht=>SF.out t (by rw[hN.out];exact ht))
     go_wp2;go_ret
     exact⟨by rw[e1.out];rfl,K0.out.trans KR.out⟩
end Go.Proofs.YtcogiogjpbkeaaaGreatDoor.T18
namespace Go.Proofs.YtcogiogjpbkeaaaGreatDoor.T18
open Go.RowKit Go.Sort Go.Lib V12 T13 T14 T15 T16 T17
theorem zdf(l:List zaa):(keys l).length=l.length:=by unfold keys;rw[List.length_map]
theorem zmt{w:World}{v:Value}{I:List Int}(h:zbv w v I):∃ A c,v=.slice A I.length c/\zcq w A I.length (zci I):=by
 obtain⟨A,c,rfl,_⟩:=id h;exact⟨A,c,rfl,zon h⟩
set_option maxRecDepth 100000 in
set_option maxHeartbeats 8000000 in
theorem znh(x:RcV)(p:zaa)(nd:Int)(l:List zaa)(f:(Int->Bool)->Bool)(w:World)(hl:l.length<=100)
  (cL:∀ W,Keep w W->Calls Tryz.prog 14 #[x.val,p.val,.int .i64 nd] W fun e w'=>∃ B d,e=.returned (.slice B l.length d)/\Keep W w'/\zai w' B l.length (row l))
  (cF:∀ W A n c O,Keep w W->zcq W A n O->n<=200->Calls Tryz.prog 21 #[x.val,p.val,.int .i64 nd,.slice A n c] W fun e w'=>e=.returned (.bool (f O))/\Keep W w') :
  Calls Tryz.prog 16 #[x.val,p.val,.int .i64 nd] w fun e w'=>e=.returned (.bool (f (zdx l)))/\Keep w w':=by
 have mixed:Tryz.prog.follows .mixedOrders=true:=by kernel_rfl
 obtain⟨xd,A,n,c,B,m,e⟩:=x;rw[agk];obtain⟨W0,hW0⟩:=Zn ((w.alloc (.cells (RcV.arr ⟨xd,A,n,c,B,m,e⟩) 30)).alloc (.cells (zac p) 26));have s0:(w.alloc (.cells (RcV.arr ⟨xd,A,n,c,B,m,e⟩) 30)).heap.size=w.heap.size+1:=World.size_alloc _ _;have K0:Hid (Keep w W0):=by rw[hW0];exact(Keep.one _ _).alloc _
 have B3:Hid (W0.heap[w.heap.size]?=some (.cells (RcV.arr ⟨xd,A,n,c,B,m,e⟩) 30 (0,0))):=by rw[hW0];exact(Keep.one _ _).block (heap_alloc_new _ _)
 have B4:Hid (W0.heap[w.heap.size+1]?=some (.cells (zac p) 26 (0,0))):=by rw[hW0,<- s0];exact heap_alloc_new _ _
 obtain⟨b3,hb3⟩:=Zn (w.heap.size);obtain⟨b4,hb4⟩:=Zn (w.heap.size+1);rw[<- hb3] at B3;rw[<- hb4] at B4;replace cL:=Zq cL;replace cF:=Zq cF;replace s0:=Zq s0;unfold RcV.val zaa.val at cL cF;unfold RcV.arr zac at hW0;unfold RcV.val zaa.val;simp only at hW0 cL cF
 go_enter Tryz.func16,Tryz.ntmps16
 go_upto_region 1 with fail
 rw[<- hW0,<- hb4,<- hb3];replace hW0:=Zq hW0;replace hb3:=Zq hb3;replace hb4:=Zq hb4;have HELD:∀ Wz,Keep W0 Wz->(Wz.cell? ⟨b3,0,none⟩=some (.int .i64 xd)/\Wz.cell? ⟨b3,1,none⟩=some (.slice A n c)/\Wz.cell? ⟨b3,2,none⟩=some (.slice B m e)/\Wz.cell? ⟨b4,0,none⟩=some (.int .i64 p.k)/\Wz.cell? ⟨b4,1,none⟩=some (.int .i64 p.p)/\Wz.cell? ⟨b4,2,none⟩=some (.bool p.f)/\Wz.cell? ⟨b4,3,none⟩=some (.int .i64 p.g)/\Wz.cell? ⟨b4,4,none⟩=some (.slice p.A p.m p.c)/\Wz.cell? ⟨b4,5,none⟩=some (.int .i64 p.a)/\Wz.cell? ⟨b4,6,none⟩=some (.int .i64 p.h)/\Wz.cell? ⟨b4,7,none⟩=some (.int .i64 p.d)/\Wz.cell? ⟨b4,8,none⟩=some (.int .i64 p.t)):=fun Wz KK=>⟨(zab (Keep.block KK B3.out)).1,(zab (Keep.block KK B3.out)).2.1,(zab (Keep.block KK B3.out)).2.2.1,(zae (Keep.block KK B4.out)).e0,(zae (Keep.block KK B4.out)).e1,(zae (Keep.block KK B4.out)).e2,(zae (Keep.block KK B4.out)).e3,(zae (Keep.block KK B4.out)).e4,(zae (Keep.block KK B4.out)).e5,(zae (Keep.block KK B4.out)).e6,(zae (Keep.block KK B4.out)).e7,(zae (Keep.block KK B4.out)).e8⟩
 refine OrdS.rest_start (fun w'=>w'.cell? ⟨b3,0,none⟩=some (.int .i64 xd)/\w'.cell? ⟨b3,1,none⟩=some (.slice A n c)/\w'.cell? ⟨b3,2,none⟩=some (.slice B m e)/\w'.cell? ⟨b4,0,none⟩=some (.int .i64 p.k)/\w'.cell? ⟨b4,1,none⟩=some (.int .i64 p.p)/\w'.cell? ⟨b4,2,none⟩=some (.bool p.f)/\w'.cell? ⟨b4,3,none⟩=some (.int .i64 p.g)/\w'.cell? ⟨b4,4,none⟩=some (.slice p.A p.m p.c)/\w'.cell? ⟨b4,5,none⟩=some (.int .i64 p.a)/\w'.cell? ⟨b4,6,none⟩=some (.int .i64 p.h)/\w'.cell? ⟨b4,7,none⟩=some (.int .i64 p.d)/\w'.cell? ⟨b4,8,none⟩=some (.int .i64 p.t)) [] (by kernel_rfl) ?_ (fun hHeld=>?_)
 ·exact HELD _ (Keep.refl W0).drew
 obtain⟨wt0,hwt0⟩:=Zn (W0.drew);have Kwt0:Hid (Keep W0 wt0):=by rw[hwt0];exact(Keep.refl _).drew
 rw[<- hwt0] at hHeld ⊢;replace hwt0:=Zq hwt0;refine OrdS.rt 0 (.agg #[.int .i64 xd,.slice A n c,.slice B m e]) hHeld ?_
 simp only[Act.put,Zp];refine OrdS.rt 1 (.agg #[.int .i64 p.k,.int .i64 p.p,.bool p.f,.int .i64 p.g,.slice p.A p.m p.c,.int .i64 p.a,.int .i64 p.h,.int .i64 p.d,.int .i64 p.t]) hHeld ?_
 simp only[Act.put,Zp];refine OrdS.rt 2 (.int .i64 nd) hHeld ?_
 simp only[Act.put,Zp];refine OrdS.rt 3 (.agg #[.int .i64 xd,.slice A n c,.slice B m e]) hHeld ?_
 simp only[Act.put,Zp];refine OrdS.rt 4 (.agg #[.int .i64 p.k,.int .i64 p.p,.bool p.f,.int .i64 p.g,.slice p.A p.m p.c,.int .i64 p.a,.int .i64 p.h,.int .i64 p.d,.int .i64 p.t]) hHeld ?_
 simp only[Act.put,Zp];refine OrdS.rt 5 (.int .i64 nd) hHeld ?_
 simp only[Act.put,Zp];refine OrdS.rest_ready (rs:=[6]) (by kernel_rfl) (by simp) ?_
 refine OrdS.Each.cons rfl (fun K hK=>?_) OrdS.Each.nil
 simp only[Zp];rw[if_pos (by rfl)]
 go_simp
 refine(cL.out _ (K0.out.trans Kwt0.out)).mono ?_;rintro e' w6 ⟨D,d,rfl,k6,RD⟩;have K6:Hid (Keep W0 w6):=Kwt0.out.trans k6;replace k6:=Zq k6;replace RD:=Zq RD;go_wp2_with fail;refine hK.out _ _ (fun _=>HELD _ K6.out) ?_
 have hHeld:=HELD _ K6.out;clear hK K;try simp only[Act.put,Zp]
 refine OrdS.rest_ready (rs:=[7]) (by kernel_rfl) (by simp) ?_
 refine OrdS.Each.cons rfl (fun K hK=>?_) OrdS.Each.nil
 simp only[Zp];rw[if_pos (by rfl)]
 go_simp
 refine(zie D l.length d (row l) w6 RD.out (by omega)).mono ?_
 rintro e' w7 ⟨v,rfl,IA,k7⟩;have K7:Hid (Keep W0 w7):=K6.out.trans k7;replace k7:=Zq k7;rw[lst_row] at IA;have ST:=Zq (zmt IA);replace IA:=Zq IA;go_wp2_with fail;refine hK.out _ _ (fun _=>HELD _ K7.out) ?_
 have hHeld:=HELD _ K7.out;clear hK K;try simp only[Act.put,Zp]
 obtain⟨D7,d7,rfl,SU⟩:=ST.out;replace SU:=Zq SU;refine OrdS.rest_ready (rs:=[8]) (by kernel_rfl) (by simp) ?_
 refine OrdS.Each.cons rfl (fun K hK=>?_) OrdS.Each.nil
 simp only[Zp];rw[if_pos (by rfl)]
 go_simp
 refine(cF.out w7 D7 _ d7 _ (K0.out.trans K7.out) SU.out (by rw[zdf];omega)).mono ?_
 rintro e' w8 ⟨rfl,k8⟩;have K8:Hid (Keep W0 w8):=K7.out.trans k8;replace k8:=Zq k8;go_wp2_with fail;refine hK.out _ _ (fun _=>HELD _ K8.out) ?_
 have hHeld:=HELD _ K8.out;clear hK K;try simp only[Act.put,Zp]
 refine OrdS.rt 9 (.bool (f (zci (keys l)))) hHeld ?_
 simp only[Act.put,Zp];refine OrdS.rest_done (by kernel_rfl) ?_ _
 go_wp2;go_ret
 exact⟨rfl,K0.out.trans K8.out⟩
end Go.Proofs.YtcogiogjpbkeaaaGreatDoor.T18
