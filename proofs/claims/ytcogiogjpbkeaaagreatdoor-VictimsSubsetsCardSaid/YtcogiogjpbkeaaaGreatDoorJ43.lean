/-
  reserve.Sum; On and reserve.Pods of no cluster. Conditions: at most 100 pods, the dimension is at most 64.
  load.set: the set of some IDs as a map. Condition: none.
  The closure of load.Of and load.eachHeld. Condition: at most 100 pods.
-/
import Derived.Test.YtcogiogjpbkeaaaGreatDoorJ0
import Derived.Test.YtcogiogjpbkeaaaGreatDoorJ42
import Derived.Test.YtcogiogjpbkeaaaGreatDoorJ33
namespace Go.Proofs.YtcogiogjpbkeaaaGreatDoor.T15
open Go.RowKit Go.Sort Go.Lib V12 T13 T14
def rqs(z:Value)(S:Nat->zaa)(n:Nat):List Value:=z :: (List.range n).map fun t=>.slice (S t).A (S t).m (S t).c
theorem ade(z:Value)(S:Nat->zaa)(n:Nat):rqs z S (n+1)=rqs z S n++[.slice (S n).A (S n).m (S n).c]:=by
 unfold rqs;rw[List.range_succ,List.map_append];rfl
theorem Tryz.infoS15:(Tryz.prog.info? 24).map (fun i=>(i.zero,i.size,i.bytes))=some (some (.slice none 0 0),1,24):=by kernel_rfl
section
variable{ops:Array Oper}{rest:List Oper}{o:Oper}{a:Act}{w:World}{Q:Exit->Act->World->Prop}
theorem aez(hgd:o.guard=none)(s x:Operand)(ho:o.op=.call { callee:=.builtin .append,args:=#[s,x],argTypes:=#[82,82] })
  (base:Nat) (v:Value) (n:Nat) (xs:List Value) (hs:a.eval s=v) (hown:w.ownsRow base 24 1 v n xs) (b:Nat) (u:Value) (hx:a.eval x=.slice (some ⟨b,0,none⟩) 1 1) (hc:w.cell? ⟨b,0,none⟩=some u) (h1:u.oneCell'=true)
  (hlim:n<=1000) (hbase:base<=w.heap.size)
  (h:∀ v' w',w'.ownsRow base 24 1 v' (n+1) (xs++[u])->w.grownBy w' v.ownBlock->wpList Tryz.prog ops Q rest (a.put o.dst v') w'):wpList Tryz.prog ops Q (o :: rest) a w:=by
 obtain⟨i0,hi0,hz0,hz1,hz2⟩:=info_parts Tryz.infoS15;refine wpList_append_own (P:=Tryz.prog) w hgd s x 82 ho base 24 i0 _ 1 24 Tryz.underlying82 hi0 hz0 hz1 hz2 rfl (by decide) v n xs hs hown ⟨b,0,none⟩ 1 1 [u] hx rfl (fun j y hy=>?_) (fun y hy=>?_) (by unfold maxLen;omega) (by omega) hbase fun v' w' h2 h3 _=>h v' w' h2 h3
 ·rcases j with _ | j
  ·rw[WideShapes.add_plain]
   rw[<- Option.some.inj hy];exact hc
  ·cases hy
 ·rw[List.mem_singleton.1 hy];exact h1
end
theorem znk{w w':World}{g o n:Nat}{Z:Nat->Int}(h:Rd w (some ⟨g,o,none⟩) n Z)(f:w'.heap[g]?=w.heap[g]?):Rd w' (some ⟨g,o,none⟩) n Z :=
 ⟨h.small,h.range,fun hn=>by
  obtain⟨b,off,e,hc⟩:=h.adr hn;have e2:=Option.some.inj e;simp only[Addr.mk.injEq,and_true] at e2;obtain⟨rfl,rfl⟩:=e2
  exact⟨g,o,rfl,fun j hj=>zbu (hc j hj) f⟩⟩
theorem ahm{w:World}{base b:Nat}{u:Value}{e:TypeId}(hb:base<=b)(h:w.heap[b]?=some (.cells #[u] e (0,0))):w.ownsRow base e 1 (.slice (some ⟨b,0,none⟩) 1 1) 1 [u]:=
 ⟨rfl,.inr ⟨b,1,#[u],rfl,hb,h,Nat.le_refl _,by unfold maxLen;omega,rfl,rfl⟩⟩
theorem ahr{w:World}{base b1 d n:Nat}{v pv:Value}{g:Nat}{S:Nat->zaa}(hR:zas w b1 pv n S)(hO:w.ownsRow base 24 1 v (n+1) (rqs (.slice (some ⟨g,0,none⟩) d d) S n))(hz:Rd w (some ⟨g,0,none⟩) d fun _=>0)(hn:n<=100):∃ A c,v=.slice A (n+1) c /\
  Rds w A (n+1) (fun r=>if r=0 then some ⟨g,0,none⟩ else(S (r - 1)).A) (fun r=>if r=0 then d else(S (r - 1)).m) (fun r=>if r=0 then d else(S (r - 1)).c) (fun r=>if r=0 then fun _=>0 else(S (r - 1)).Z):=by
 obtain⟨g2,cap,rfl,_⟩:=hO.form (by omega)
 refine⟨_,_,rfl,by omega,fun _=>⟨g2,0,rfl,fun r hr=>?_⟩,fun r hr=>?_⟩
 ·rw[Nat.zero_add,hO.cellAt r (by omega)]
  unfold rqs;rcases r with _ | r
  ·rfl
  ·rw[List.getElem?_cons_succ,List.getElem?_map,List.getElem?_range (by omega)]
   rfl
 ·rcases r with _ | r
  ·exact hz
  ·exact((hR.own r (by omega)).is (hR.ok r (by omega))).rd
section
variable{CS:zbn}{w w1:World}{d q:Nat}{M:List NV}{L:List zaa}{X:Nat->Prop}
set_option maxRecDepth 100000 in
set_option maxHeartbeats 8000000 in
theorem aia(C:Con CS)(h:CS w d q M L X w1)(p:zaa)(nd:Int)(hd:I64 nd)(hl:L.length<=100)(h64:d<=64):
  Calls Tryz.prog 126 #[.pointer (some ⟨q,0,none⟩),p.val,.int .i64 nd] w1 fun e w'=>∃ g,e=.returned (.slice (some ⟨g,0,none⟩) d d)/\w1.heap.size<=g/\g<w'.heap.size/\Rd w' (some ⟨g,0,none⟩) d (zbs (zbt p nd L))/\Keep w1 w':=by
 have ok:=Zq (C.ok h);obtain⟨W,hW⟩:=Zn (w1.alloc (.cells (zac p) 26));have kW:Hid (Keep w1 W):=by rw[hW];exact Keep.one _ _
 have bP:Hid (W.heap[w1.heap.size]?=some (.cells (zac p) 26 (0,0))):=by rw[hW];exact heap_alloc_new _ _
 have cD:=Zq (C.dims (C.keep h kW.out));have cPs:Hid (∀ W2,Keep w1 W2->Calls Tryz.prog 145 #[.pointer (some ⟨q,0,none⟩),p.val,.int .i64 nd] W2 fun e w'=>∃ v S,e=.returned v/\zas w' W2.heap.size v (zbt p nd L).length S/\(T13.lst S (zbt p nd L).length).map nm=zbt p nd L/\Keep W2 w'):=fun W2 k=>ada C (C.keep h k) p nd hd hl
 clear h;unfold zaa.val at cPs;unfold zac at hW;unfold zaa.val;replace hd:=Zq hd
 go_enter Tryz.func126,Tryz.ntmps126
 go_wp2_with fail;rw[<- hW];refine cD.out.mono ?_;rintro e w2 ⟨rfl,k2⟩;replace hW:=Zq hW;have cZ:=Zq (zme d w2 (by omega))
 have kz:Hid (Keep w1 w2):=kW.out.trans k2;have b2:Hid (w2.heap[w1.heap.size]?=some (.cells (zac p) 26 (0,0))):=Keep.block k2 bP.out;replace k2:=Zq k2;clear cD bP;go_wp2_with fail;refine cZ.out.mono ?_;rintro e w3 ⟨rfl,hw3⟩;obtain⟨g,hg⟩:=Zn (w2.heap.size);have k3:Hid (Keep w2 w3):=by rw[hw3];exact Keep.one _ _
 have rz:Hid (Rd w3 (some ⟨g,0,none⟩) d fun _=>0):=by
  rw[hw3,hg];exact zhr (World.rowIs_made w2 _ _ 2) (by omega) (fun _ _=>by omega)
 have lg:Hid (g<w3.heap.size):=by rw[hw3,hg,World.size_alloc];exact Nat.lt_succ_self _
 rw[<- hg];have kg:Hid (w1.heap.size<=g):=by rw[hg];exact kz.out.size
 replace hg:=Zq hg;replace hw3:=Zq hw3;clear cZ;obtain⟨W4,hW4⟩:=Zn (w3.alloc (.cells #[.slice (some ⟨g,0,none⟩) d d] 24));obtain⟨b,hb⟩:=Zn (w3.heap.size);have k4:Hid (Keep w3 W4):=by rw[hW4];exact Keep.one _ _
 have k14:Hid (Keep w1 W4):=kz.out.trans (k3.out.trans k4.out);have bR:Hid (W4.heap[b]?=some (.cells #[.slice (some ⟨g,0,none⟩) d d] 24 (0,0))):=by show _=_;rw[hW4,hb];exact heap_alloc_new _ _
 have bs:Hid (w1.heap.size<=b/\b<W4.heap.size/\w1.heap.size<=g):=⟨by rw[hb];exact(kz.out.trans k3.out).size,lt_of_block bR.out,kg.out⟩
 have P4:=zae (Keep.block k4.out (Keep.block k3.out b2.out));have c0:=P4.e0;have c1:=P4.e1;have c2:=P4.e2;have c3:=P4.e3;have c4:=P4.e4;have c5:=P4.e5;have c6:=P4.e6;have c7:=P4.e7;have c8:=P4.e8;clear P4;rw[hW4] at c0 c1 c2 c3 c4 c5 c6 c7 c8;have cP:=Zq (cPs.out W4 k14.out);go_wp2_with fail;rw[<- hW4,<- hb];replace hW4:=Zq hW4;replace hb:=Zq hb;clear c0 c1 c2 c3 c4 c5 c6 c7 c8;refine cP.out.mono ?_;rintro e w5 ⟨v,S,rfl,hR,hS,k5⟩;obtain⟨n,hn⟩:=Zn ((zbt p nd L).length);rw[<- hn] at hR hS;have n100:n<=100:=by rw[hn];exact Nat.le_trans (List.length_filter_le _ _) hl
 obtain⟨A,c,hv,_⟩:=zan hR.row;subst hv;have O5:Hid (w5.ownsRow b 24 1 (.slice (some ⟨b,0,none⟩) 1 1) 1 (rqs (.slice (some ⟨g,0,none⟩) d d) S 0)):=ahm (Nat.le_refl _) (Keep.block k5 bR.out);have K5:Hid (Keep w1 w5):=k14.out.trans k5;have Z5:Hid (Rd w5 (some ⟨g,0,none⟩) d fun _=>0):=(rz.out.keep k4.out).keep k5
 have sz5:Hid (W4.heap.size<=w5.heap.size):=k5.size;replace hR:=Zq hR;replace hS:=Zq hS;replace hn:=Zq hn;replace k5:=Zq k5;clear cP cPs;generalize hwo:w5=wo at *;clear hwo;go_wp2
 go_loopg [7,9,21] n (fun gx s7 _ s21 wr=>∃ (j:Nat) (B:Option Addr) (cc:Nat),j<=n/\gx=n - j/\s7=.slice B (j+1) cc/\s21=.int .i64 j/\Hid (wr.ownsRow b 24 1 (.slice B (j+1) cc) (j+1) (rqs (.slice (some ⟨g,0,none⟩) d d) S j))/\Hid (zas wr W4.heap.size (.slice A n c) n S)/\Hid (Rd wr (some ⟨g,0,none⟩) d fun _=>0)/\Hid (Keep w1 wr)/\Hid (W4.heap.size<=wr.heap.size))
 case atStart=>exact⟨0,_,_,Nat.zero_le _,rfl,rfl,rfl,O5.out,hR.out,Z5.out,K5.out,sz5.out⟩
 case round =>
  clear O5 K5 Z5 sz5 hR;obtain⟨j,B,cc,hj,rfl,rfl,rfl,OR,RR,ZR,KR,SR⟩:=hrel
  by_cases hlt:j<n
  ·obtain⟨g1,cap1,ev,_⟩:=RR.out.row.form (by omega)
   simp only[Value.slice.injEq] at ev;obtain⟨rfl,_,rfl⟩:=ev;have q1:=zar g1 0 n c j hlt;have V:=zcg RR.out.row hlt;rw[Nat.zero_add] at q1 V;obtain⟨x,hx⟩:=Zn (S j);rw[<- hx] at V;have eR:Hid (rqs (.slice (some ⟨g,0,none⟩) d d) S (j+1)=rqs (.slice (some ⟨g,0,none⟩) d d) S j++[.slice x.A x.m x.c]):=by show _=_;rw[ade,hx]
   replace hx:=Zq hx;have x0:=V.e0;have x1:=V.e1;have x2:=V.e2;have x3:=V.e3;have x4:=V.e4;have x5:=V.e5;have x6:=V.e6;have x7:=V.e7;have x8:=V.e8;clear V;obtain⟨W6,hW6⟩:=Zn ((wr.alloc (.cells (zac x) 26)).alloc (.cells #[.slice x.A x.m x.c] 24));have k6:Hid (Keep wr W6):=by rw[hW6];exact(Keep.one _ _).alloc _
   have cB:Hid (W6.cell? ⟨wr.heap.size+1,0,none⟩=some (.slice x.A x.m x.c)):=by
    show _=_
    have h1:=heap_alloc_new (wr.alloc (.cells (zac x) 26)) (.cells #[.slice x.A x.m x.c] 24);rw[World.size_alloc] at h1;rw[hW6,cell_of_row _ _ _ _ _ _ h1];rfl
   have y4:=(zae (heap_alloc_new wr (.cells (zac x) 26))).e4;have O6:=Zq (zal OR.out k6.out);have s6:Hid (b<=W6.heap.size):=by have:=k6.out.size;have:=bs.out;have:=SR.out;show _<=_;omega
   unfold zac at hW6 y4;go_wp2_with (at_builtin;rw[<- hW6];refine aez rfl _ _ rfl b (.slice B (j+1) cc) (j+1) (rqs (.slice (some ⟨g,0,none⟩) d d) S j) (by simp[Act.eval]) O6.out (wr.heap.size+1) (.slice x.A x.m x.c) (by simp[Act.eval]) cB.out rfl (by omega) s6.out ?_;intro v5 w6 hr5 hg5)
   rw[<- eR.out] at hr5;obtain⟨B5,c5,hv5,_⟩:=zan hr5;subst hv5;have K6:Hid (Keep w1 w6):=aau (KR.out.trans k6.out) O6.out bs.out.1 hg5;have R6:Hid (zas w6 W4.heap.size (.slice (some ⟨g1,0,none⟩) n c) n S):=by
    have R0:=RR.out.keep k6.out;exact⟨World.ownsRow.kept R0.row hg5 (zeo R0.row O6.out (by decide)),fun t ht=>World.ownsRow.kept (R0.own t ht) hg5 (zeo (R0.own t ht) O6.out (by decide)),R0.ok⟩
   have Z6:Hid (Rd w6 (some ⟨g,0,none⟩) d fun _=>0):=by
    refine znk (ZR.out.keep k6.out) (hg5.block g ?_ ?_)
    ·exact Nat.lt_of_lt_of_le (by have:=lg.out;have:=k4.out.size;omega) (Nat.le_trans SR.out k6.out.size)
    ·intro e
     have:=(O6.out.lt g e.symm).1;have:=lg.out;have:=hb.out;omega
   have S6:Hid (W4.heap.size<=w6.heap.size):=Nat.le_trans (Nat.le_trans SR.out k6.out.size) hg5.size;replace hr5:=Zq hr5;replace hg5:=Zq hg5;replace hW6:=Zq hW6;clear x0 x1 x2 x3 x4 x5 x6 x7 x8 y4 q1;go_wp2;go_roundg (n - (j+1))
   case measure=>omega
   case rel=>exact⟨j+1,B5,c5,hlt,rfl,by go_num,by go_num,hr5.out,R6.out,Z6.out,K6.out,S6.out⟩
  ·obtain rfl:j=n:=by omega
   obtain⟨A2,c2,ev,RD⟩:=ahr RR.out OR.out ZR.out n100;simp only[Value.slice.injEq] at ev;obtain⟨rfl,_,rfl⟩:=ev;have mem:∀ t,t<j->∃ y∈L,nm (S t)=y:=fun t ht=>by
    have h1:(T13.lst S j)[t]?=some (S t):=zaw ht;have h2:nm (S t)∈zbt p nd L:=by rw[<- hS.out];exact List.mem_map_of_mem (List.mem_of_getElem? h1)
    exact⟨_,(List.mem_filter.1 h2).1,rfl⟩
   have hm:∀ t,t<j->(S t).m=d:=fun t ht=>by
    obtain⟨y,hy,e⟩:=mem t ht;have:=(ok.out.req y hy).1;rw[<- e] at this;exact this
   have cA:=zmk B (j+1) cc _ _ _ _ wr RD (by omega) (fun r hr=>by
    rcases r with _ | r
    ·show d<=_;omega
    ·show(S r).m<=_
     rw[hm r (by omega)]
     omega) (by omega)
   have sm:∀ i,i<d->sumTo (j+1) (fun r=>(if r=0 then fun _=>(0:Int) else(S (r - 1)).Z) i)=zbs (zbt p nd L) i:=fun i hi=>by
    rw[zqs hS.out,<- zpf]
    congr 1
    funext r
    by_cases e:r=0
    ·rw[if_pos e,if_pos e]
    ·rw[if_neg e,if_neg e]
   have rg:∀ i,i<d->0<=zbs (zbt p nd L) i/\zbs (zbt p nd L) i<=109951162777600:=fun i hi=>by
    have:=zjz (L:=zbt p nd L) (j:=i) fun y hy=>(ok.out.req y (List.mem_filter.1 hy).1).2 i hi
    rw[<- hn.out] at this;omega
   have aOk:zlb (j+1) (fun r=>if r=0 then d else(S (r - 1)).m) (fun r=>if r=0 then fun _=>(0:Int) else(S (r - 1)).Z):=by
    refine⟨by omega,fun r hr=>?_,fun i hi=>?_⟩
    ·rcases r with _ | r
     ·rfl
     ·exact hm r (by omega)
    ·have hi':i<d:=hi
     rw[sm i hi'];unfold inR;have:=rg i hi';exact decide_eq_true (by omega)
   have cA2:Hid (Calls Tryz.prog 86 #[.slice B (j+1) cc] wr fun e w'=>∃ g,e=.returned (.tuple #[.slice (some ⟨g,0,none⟩) d d,.bool true])/\w1.heap.size<=g/\g<w'.heap.size/\Rd w' (some ⟨g,0,none⟩) d (zbs (zbt p nd L))/\Keep w1 w'):=by
    refine cA.mono ?_;rintro e w' ⟨k',⟨_,he,hr⟩ | ⟨hno,_⟩⟩
    ·refine⟨wr.heap.size,he,KR.out.size,?_,zhr (World.rowIs.congr hr fun i hi=>by rw[sm i hi]) (by omega) fun i hi=>by have:=rg i hi;omega,KR.out.trans k'⟩
     obtain⟨cs,hc,_⟩:=hr;exact lt_of_block hc
    ·exact absurd aOk hno
   clear cA RD mem hm sm rg aOk;go_wp2_with fail;refine cA2.out.mono ?_;rintro e w7 ⟨g7,rfl,h1,h2,h3,h4⟩;replace h1:=Zq h1;replace h2:=Zq h2;replace h3:=Zq h3;replace h4:=Zq h4;go_wp2;go_ret
   exact⟨g7,rfl,h1.out,h2.out,h3.out,h4.out⟩
end
theorem zox(nd:Int)(w:World):Calls Tryz.prog 73 #[.pointer none,.int .i64 nd] w fun e w'=>e=.returned (.slice none 0 0)/\Keep w w':=by
 have k1:Hid (Keep w (w.alloc (.cells #[.int .i64 nd] 3))):=Keep.one _ _;have hL:=Zq (zsf 111 #[.pointer (some ⟨w.heap.size,0,none⟩)] (w.alloc (.cells #[.int .i64 nd] 3)))
 go_enter Tryz.func73,Tryz.ntmps73
 go_wp2_with fail;refine hL.out.mono ?_;rintro e w1 ⟨rfl,k⟩;have k:=Zq k;go_wp2;go_ret
 exact⟨rfl,k1.out.trans k.out⟩
end Go.Proofs.YtcogiogjpbkeaaaGreatDoor.T15
namespace Go.Proofs.YtcogiogjpbkeaaaGreatDoor.T16
open Go.RowKit Go.Sort Go.Lib V12 T13 T14 T15
open Go.ChangeMaps (setBlock)
theorem Tryz.zbl16(w:World):(zeroValue 4).run Tryz.prog w=.ok (.bool false) w:=by kernel_rfl
theorem ako(n:Nat)(w:World):(Instr.makeMap 176 (some (.int .i64 n))).run Tryz.prog w=.ok (.map (some w.heap.size)) (w.alloc (.map #[] 0)):=by
 simp[Instr.makeMap,run_underlying Tryz.underlying176,asInt,asIntOf,Result.andThen]
structure zpn(l:List (Int × Value))(j:Nat)(Z:Nat->Int):Prop where
 val:∀ x∈l,x.2=.bool true
 key:∀ k,k∈l.map (·.1)↔∃ i,i<j/\Z i=k
theorem zpn.nil(Z:Nat->Int):zpn [] 0 Z:=⟨fun _ h=>(List.not_mem_nil h).elim,fun _=>⟨fun h=>(List.not_mem_nil h).elim,fun ⟨_,h,_⟩=>absurd h (Nat.not_lt_zero _)⟩⟩
theorem zpn.look{l:List (Int × Value)}{n:Nat}{Z:Nat->Int}{O:Int->Bool}(h:zpn l n Z)(hn:(l.map (·.1)).Nodup)(hO:∀ k,O k=true↔∃ j,j<n/\Z j=k)(k:Int):(MV.lookV l k).getD (.bool false)=.bool (O k):=by
 cases e:MV.lookV l k with
 | none =>
   have h1:=MV.look_none.1 e;have h2:O k=false:=by
    cases e2:O k with
    | false=>rfl
    | true=>exact absurd ((h.key k).2 ((hO k).1 e2)) h1
   rw[h2];rfl
 | some v =>
   have h1:=(MV.look_mem hn).1 e;have h2:v=.bool true:=h.val _ h1;have h3:O k=true:=(hO k).2 ((h.key k).1 (List.mem_map_of_mem (f:=(·.1)) h1))
   rw[h3,h2];rfl
theorem zsb{j:Nat}{Z:Nat->Int}{k:Int}:(∃ i,i<j+1/\Z i=k)↔(∃ i,i<j/\Z i=k)\/k=Z j:=by
 constructor
 ·rintro⟨i,hi,e⟩
  by_cases h:i=j
  ·subst h;exact Or.inr e.symm
  ·exact Or.inl ⟨i,by omega,e⟩
 ·rintro(⟨i,hi,e⟩ | e)
  ·exact⟨i,by omega,e⟩
  ·exact⟨j,by omega,e.symm⟩
theorem ado{w:World}{b j:Nat}{l:List (Int × Value)}{Z:Nat->Int}(h:MV.Is w b l)(s:zpn l j Z):∃ o l',MV.Obj' o l'/\zpn l' (j+1) Z/\∀ W:World,W.heap[b]?=w.heap[b]?->(Instr.mapUpdate 176 (.map (some b)) (.int .i64 (Z j)) (.bool true)).run Tryz.prog W=.ok () (setBlock W b o):=by
 by_cases hk:Z j∈l.map (·.1)
 ·obtain⟨o,ho,hu⟩:=MV.put_old Tryz.underlying176 Tryz.underlying3 h (Z j) (.bool true) hk
  refine⟨o,_,ho,⟨fun x hx=>?_,fun k=>?_⟩,hu⟩
  ·unfold MV.repV at hx
   obtain⟨y,hy,rfl⟩:=List.mem_map.1 hx
   by_cases e:y.1=Z j
   ·rw[if_pos e]
   ·rw[if_neg e];exact s.val y hy
  ·rw[MV.repV_keys,s.key,zsb]
   constructor
   ·exact Or.inl
   ·rintro(h1 | h1)
    ·exact h1
    ·exact(s.key k).1 (by rw[h1];exact hk)
 ·obtain⟨o,ho,hu⟩:=MV.put_new Tryz.underlying176 Tryz.underlying3 h (Z j) (.bool true) hk
  refine⟨o,_,ho,⟨fun x hx=>?_,fun k=>?_⟩,hu⟩
  ·rcases List.mem_append.1 hx with h1 | h1
   ·exact s.val x h1
   ·rw[List.mem_singleton.1 h1]
  ·rw[List.map_append,List.mem_append,s.key,zsb]
   simp
set_option maxRecDepth 100000 in
set_option maxHeartbeats 1000000 in
theorem alk(A:Option Addr)(n c:Nat)(Z:Nat->Int)(w:World)(hA:Rd w A n Z):Calls Tryz.prog 128 #[.slice A n c] w fun e w'=>∃ b l,e=.returned (.map (some b))/\w.heap.size<=b/\MV.Is w' b l/\zpn l n Z/\Keep w w':=by
 have hmm:=ako n w;obtain⟨W,hW⟩:=Zn (w.alloc (.map #[] 0));have hI:Hid (MV.Is W w.heap.size []):=by rw[hW];exact MV.is_new w
 have kW:Hid (Keep w W):=by rw[hW];exact Keep.one _ _
 have hn:=hA.small;have HA:=Zq hA;clear hA;obtain⟨b,hb⟩:=Zn (w.heap.size);rw[<- hb,<- hW] at hmm;rw[<- hb] at hI;replace hb:=Zq hb;replace hW:=Zq hW
 go_enter Tryz.func128,Tryz.ntmps128
 go_wp2
 go_loopg [5,11] n (fun gx _ s11 wr=>∃ (j:Nat) (l:List (Int × Value)),j<=n/\gx=n - j/\s11=.int .i64 j/\Hid (MV.Is wr b l)/\Hid (zpn l j Z)/\Hid (Keep w wr))
 case atStart=>exact⟨0,[],Nat.zero_le _,rfl,rfl,hI.out,zpn.nil Z,kW.out⟩
 case round =>
  obtain⟨j,l,hj,rfl,rfl,IR,SR,KR⟩:=hrel
  by_cases hlt:j<n
  ·obtain⟨g,off,hA2,ca⟩:=(HA.out.keep KR.out).adr (by omega)
   subst hA2;have c0:=ca j hlt;clear ca;obtain⟨o,l',ho,hs,hu⟩:=ado IR.out SR.out;have hu:=hu wr rfl;have I2:Hid (MV.Is (setBlock wr b o) b l'):=⟨o,MV.heap_setBlock IR.out.lt,ho⟩;have K2:Hid (Keep w (setBlock wr b o)):=Fr.low KR.out (Fr.put (D:=(·=b)) (Fr.refl _ wr) (by left;rfl) o) fun i hi=>by rw[hi,hb.out];exact Nat.le_refl _
   replace hs:=Zq hs;replace ho:=Zq ho;go_wp2;go_roundg (n - (j+1))
   case measure=>omega
   case rel=>exact⟨j+1,l',hlt,rfl,by go_num,I2.out,hs.out,K2.out⟩
  ·obtain rfl:j=n:=by omega
   go_wp2;go_ret
   exact⟨b,l,rfl,Nat.le_of_eq hb.out.symm,IR.out,SR.out,KR.out⟩
end Go.Proofs.YtcogiogjpbkeaaaGreatDoor.T16
namespace Go.Proofs.YtcogiogjpbkeaaaGreatDoor.T16
open Go.RowKit Go.Sort Go.Lib V12 T13 T14 T15
def rqV(y:zaa):Value:=.slice y.A y.m y.c
set_option maxRecDepth 100000 in
set_option maxHeartbeats 1000000 in
theorem abk{w:World}{pb base n:Nat}{v:Value}{xs:List Value}(A:Option Addr)(m c:Nat)(hbx:Boxed w pb 82 v)(hrow:w.ownsRow base 24 1 v n xs)(hb:base<=w.heap.size)(hn:n<=1000):
  Calls Tryz.prog 125 #[.slice A m c,.pointer (some ⟨pb,0,none⟩)] w fun e w'=>e=.returned (.tuple #[])/\∃ v',Boxed w' pb 82 v'/\w'.ownsRow base 24 1 v' (n+1) (xs++[.slice A m c])/\Fr (fun k=>k=pb\/v.ownBlock=some k) w w':=by
 obtain⟨B,cc,rfl,_⟩:=zan hrow;obtain⟨W,hW⟩:=Zn (w.alloc (.cells #[.slice A m c] 24));have kW:Hid (Keep w W):=by rw[hW];exact Keep.one _ _
 have cB:Hid (W.cell? ⟨w.heap.size,0,none⟩=some (.slice A m c)):=by
  show _=_
  rw[hW,cell_of_row _ _ _ _ _ _ (heap_alloc_new _ _)];rfl
 have c0:=hbx.cell;have O1:=Zq (zal hrow kW.out);have s1:Hid (base<=W.heap.size):=Nat.le_trans hb kW.out.size
 have fin:Hid (∀ v5 w6,w6.ownsRow base 24 1 v5 (n+1) (xs++[.slice A m c])->W.grownBy w6 (Value.slice B n cc).ownBlock->w6.cell? ⟨pb,0,none⟩=some (.slice B n cc)/\w6.frozen? ⟨pb,0,none⟩=false /\
   Boxed (w6.setCell ⟨pb,0,none⟩ v5) pb 82 v5/\(w6.setCell ⟨pb,0,none⟩ v5).ownsRow base 24 1 v5 (n+1) (xs++[.slice A m c])/\Fr (fun k=>k=pb\/(Value.slice B n cc).ownBlock=some k) w (w6.setCell ⟨pb,0,none⟩ v5)):=fun v5 w6 hr hg=>by
  have b1:Boxed W pb 82 (.slice B n cc):=Keep.block kW.out hbx;have b6:Boxed w6 pb 82 (.slice B n cc):=Boxed.kept b1 hg (b1.not_row (by decide) O1.out)
  have o:∀ i,i≠pb->(w6.setCell ⟨pb,0,none⟩ v5).heap[i]?=w6.heap[i]?:=fun i hi=>Below.heap_setCell _ _ _ _ hi
  have tb:Typ w6 pb 82:=⟨_,_,b6⟩;refine⟨b6.cell,b6.frozen,b6.set _,zao hr fun i hi=>o i fun e=>?_,((Fr.of kW.out).same (Fr.grown hg fun i e=>Or.inl (Or.inr e))).set (by left;exact Or.inl rfl) _⟩
  have h1:=zcn hr hi;rw[e] at h1;exact absurd (zck h1 tb) (by decide)
 clear hbx hrow hb
 go_enter Tryz.func125,Tryz.ntmps125
 go_wp2_with (at_builtin;rw[<- hW];refine aez rfl _ _ rfl base (.slice B n cc) n xs (by simp[Act.eval]) O1.out w.heap.size (.slice A m c) (by simp[Act.eval]) cB.out rfl hn s1.out ?_;intro v5 w6 hr5 hg5;obtain⟨B5,c5,rfl,_⟩:=zan hr5;obtain⟨b5,f5,P5⟩:=fin.out _ w6 hr5 hg5;replace P5:=Zq P5;replace hr5:=Zq hr5;replace hg5:=Zq hg5)
 go_end0
 obtain⟨P1,P2,P3⟩:=P5.out;exact⟨rfl,_,P1,P2,P3⟩
theorem zly{w:World}{b k:Nat}{l:List (Int × Value)}{T:TypeId}(h:MV.Is w b l)(ht:Typ w k T):b≠k:=by
 rintro rfl;obtain⟨o,hb,es,c,rfl,_⟩:=h;obtain⟨cs,loc,ht⟩:=ht;rw[ht] at hb;cases hb
theorem zas.off{w w':World}{base n:Nat}{v:Value}{S:Nat->zaa}{D:Nat->Prop}(h:zas w base v n S)(f:Fr D w w')(hD:∀ i,D i->Typ w i 24\/Typ w i 82):zas w' base v n S:=by
 have go:∀ {n z:Nat} {T:TypeId} {u:Value} {xs:List Value},w.ownsRow base T z u n xs->T≠24->T≠82->w'.ownsRow base T z u n xs:=fun {n z T u xs} hr h1 h2=>zao hr fun g hg=>f.block g (hr.lt g hg).2 fun e=>by
  have t:=zcn hr hg;rcases hD g e with k | k
  ·exact h1 (zck t k)
  ·exact h2 (zck t k)
 exact⟨go h.row (by decide) (by decide),fun j hj=>go (h.own j hj) (by decide) (by decide),h.ok⟩
def zfz(O:Int->Bool)(y:zaa):Bool:=hdP y.h&&!O y.k
section
variable{CS:zbn}{w w1:World}{d q:Nat}{M:List NV}{L:List zaa}{X:Nat->Prop}
set_option maxRecDepth 100000 in
set_option maxHeartbeats 8000000 in
theorem zlv(C:Con CS)(h:CS w d q M L X w1)(nd:Int)(hd:I64 nd)(hl:L.length<=100){mb:Nat}{l:List (Int × Value)}{O:Int->Bool}(hI:MV.Is w1 mb l)(hlook:∀ k,(MV.lookV l k).getD (.bool false)=.bool (O k)){pb base:Nat}{v z:Value}(hbx:Boxed w1 pb 82 v)(hrow:w1.ownsRow base 24 1 v 1 [z])(hb:base<=w1.heap.size):
  Calls Tryz.prog 127 #[.pointer (some ⟨q,0,none⟩),.int .i64 nd,.map (some mb),.func (.func 125) #[] #[.pointer (some ⟨pb,0,none⟩)]] w1 fun e w'=>e=.returned (.tuple #[])/\∃ (v':Value) (T:List zaa),Boxed w' pb 82 v'/\w'.ownsRow base 24 1 v' (T.length+1) (z :: T.map rqV)/\(∀ y∈T,zah w' y)/\T.map nm=(L.filter (onB nd)).filter (zfz O)/\Fr (fun k=>k=pb\/base<=k) w1 w':=by
 have cO:=Zq (C.on nd h hd hl);replace h:=Zq h;replace hI:=Zq hI;replace hbx:=Zq hbx;replace hrow:=Zq hrow;replace hb:=Zq hb;replace hlook:=Zq hlook;replace hd:=Zq hd
 go_enter Tryz.func127,Tryz.ntmps127
 go_wp2_with fail;refine cO.out.mono ?_;rintro e w2 ⟨va,S,rfl,hR,hS,k2⟩;obtain⟨n,hn⟩:=Zn ((L.filter (onB nd)).length);rw[<- hn] at hR hS;have n100:n<=100:=by rw[hn];exact Nat.le_trans (List.length_filter_le _ _) hl
 obtain⟨A,c,hv,_⟩:=zan hR.row;subst hv;obtain⟨TT,hTT⟩:∃ TT:Nat->List zaa,TT=fun j=>(T13.lst S j).filter (zfz O):=⟨_,rfl⟩
 have tt0:Hid (TT 0=[]):=by show _=_;rw[hTT];rfl
 have ttS:Hid (∀ j,TT (j+1)=if zfz O (S j)=true then TT j++[S j] else TT j):=fun j=>by
  rw[hTT];show(T13.lst S (j+1)).filter _=_
  rw[T13.lst_succ,List.filter_append]
  by_cases e:zfz O (S j)=true
  ·rw[if_pos e,List.filter_cons_of_pos e];rfl
  ·rw[if_neg e,List.filter_cons_of_neg e,List.filter_nil,List.append_nil]
 have ttL:Hid (∀ j,(TT j).length<=j):=fun j=>by
  rw[hTT];refine Nat.le_trans (List.length_filter_le _ _) ?_;rw[T13.lst_len];exact Nat.le_refl _
 have ttM:Hid (∀ y∈TT n,∃ j,j<n/\y=S j):=fun y hy=>by
  rw[hTT] at hy;obtain⟨j,hj,e⟩:=lst_mem.1 (List.mem_filter.1 hy).1;exact⟨j,hj,e.symm⟩
 have ttN:Hid ((TT n).map nm=(L.filter (onB nd)).filter (zfz O)):=by
  show _=_
  rw[<- hS,hTT,List.filter_map];rfl
 have b2:Hid (Boxed w2 pb 82 v):=Keep.block k2 hbx.out;have r2:Hid (w2.ownsRow base 24 1 v ((TT 0).length+1) (z :: (TT 0).map rqV)):=by rw[tt0.out];exact zal hrow.out k2
 have i2:Hid (MV.Is w2 mb l):=hI.out.of (Below.block k2 _ hI.out.lt);have f2:Hid (Fr (fun k=>k=pb\/base<=k) w1 w2):=Fr.of k2
 have s2:Hid (base<=w2.heap.size):=Nat.le_trans hb.out k2.size;replace hR:=Zq hR;replace hS:=Zq hS;replace hn:=Zq hn;replace k2:=Zq k2;replace hTT:=Zq hTT;clear cO hbx hrow hI hb;generalize hwo:w2=wo at *;clear hwo;go_wp2
 go_loopg [9,14] n (fun gx _ s14 wr=>∃ (j:Nat) (vj:Value),j<=n/\gx=n - j/\s14=.int .i64 j/\Hid (Boxed wr pb 82 vj)/\Hid (wr.ownsRow base 24 1 vj ((TT j).length+1) (z :: (TT j).map rqV))/\Hid (zas wr w1.heap.size (.slice A n c) n S)/\Hid (MV.Is wr mb l)/\Hid (Fr (fun k=>k=pb\/base<=k) w1 wr)/\Hid (base<=wr.heap.size))
 case atStart=>exact⟨0,v,Nat.zero_le _,rfl,rfl,b2.out,r2.out,hR.out,i2.out,f2.out,s2.out⟩
 case round =>
  clear b2 r2 hR i2 f2 s2;obtain⟨j,vj,hj,rfl,rfl,BX,OR,RR,IR,FR,ZR⟩:=hrel
  by_cases hlt:j<n
  ·obtain⟨g1,cap1,ev,_⟩:=RR.out.row.form (by omega)
   simp only[Value.slice.injEq] at ev;obtain⟨rfl,_,rfl⟩:=ev;have q1:=zar g1 0 n c j hlt;have V:=zcg RR.out.row hlt;rw[Nat.zero_add] at q1 V;obtain⟨x,hx⟩:=Zn (S j);have tS:=Zq (ttS.out j);rw[<- hx] at V tS;replace hx:=Zq hx;have x0:=V.e0;have x1:=V.e1;have x2:=V.e2;have x3:=V.e3;have x4:=V.e4;have x5:=V.e5;have x6:=V.e6;have x7:=V.e7;have x8:=V.e8;clear V;obtain⟨W6,hW6⟩:=Zn (wr.alloc (.cells (zac x) 26));have k6:Hid (Keep wr W6):=by rw[hW6];exact Keep.one _ _
   have Y:=zae (heap_alloc_new wr (.cells (zac x) 26));rw[<- hW6] at Y;have y0:=Y.e0;have y4:=Y.e4;have y6:=Y.e6;clear Y;have z6:=y6;rw[hW6] at z6;have cH:=Zq (zkm x.h W6);have B6:Hid (Boxed W6 pb 82 vj):=Keep.block k6.out BX.out;have O6:=Zq (zal OR.out k6.out);have R6:=Zq (RR.out.keep k6.out);have I6:Hid (MV.Is W6 mb l):=IR.out.of (Below.block k6.out _ IR.out.lt);have F6:Hid (Fr (fun k=>k=pb\/base<=k) w1 W6):=FR.out.keep k6.out
   have s6:Hid (base<=W6.heap.size):=Nat.le_trans ZR.out k6.out.size;have ml:=MV.look1 Tryz.underlying176 Tryz.underlying3 Tryz.zbl16 I6.out x.k;rw[hlook.out] at ml;obtain⟨hb2,hhb⟩:=Zn (hdP x.h);obtain⟨ob,hob⟩:=Zn (O x.k);have hB:Hid (zfz O x=(hb2&&!ob)):=by show _=_;unfold zfz;rw[hhb,hob]
   rw[<- hhb] at cH;rw[<- hob] at ml;replace hhb:=Zq hhb;replace hob:=Zq hob;unfold zac at hW6;go_wp2_with fail;rw[<- hW6];replace hW6:=Zq hW6;clear x0 x1 x2 x3 x4 x5 x6 x7 x8 z6 q1;refine cH.out.mono ?_;rintro e w3 ⟨rfl,rfl⟩;clear cH;cases hb2 with
   | false =>
     have tS2:Hid (TT (j+1)=TT j):=by show _=_;rw[tS.out,hB.out];rfl
     clear tS ml;go_wp2;go_roundg (n - (j+1))
     case measure=>omega
     case rel=>exact⟨j+1,vj,hlt,rfl,by go_num,B6.out,by rw[tS2.out];exact O6.out,R6.out,I6.out,F6.out,s6.out⟩
   | true =>
     cases ob with
     | true =>
       have tS2:Hid (TT (j+1)=TT j):=by show _=_;rw[tS.out,hB.out];rfl
       clear tS;go_wp2;go_roundg (n - (j+1))
       case measure=>omega
       case rel=>exact⟨j+1,vj,hlt,rfl,by go_num,B6.out,by rw[tS2.out];exact O6.out,R6.out,I6.out,F6.out,s6.out⟩
     | false =>
       have tS2:Hid (TT (j+1)=TT j++[x]):=by show _=_;rw[tS.out,hB.out];rfl
       have c1:=Zq (abk x.A x.m x.c B6.out O6.out s6.out (by have:=ttL.out j;omega))
       clear tS;go_wp2_with fail;refine c1.out.mono ?_;rintro e w4 ⟨rfl,v4,b4,r4,f4⟩;have B4:Hid (Boxed w4 pb 82 v4):=b4;have O4:Hid (w4.ownsRow base 24 1 v4 ((TT (j+1)).length+1) (z :: (TT (j+1)).map rqV)):=by
        rw[tS2.out,List.length_append,List.map_append];exact r4
       have D4:∀ i,(i=pb\/vj.ownBlock=some i)->Typ W6 i 24\/Typ W6 i 82:=fun i hi=>by
        rcases hi with e | e
        ·rw[e];exact Or.inr ⟨_,_,B6.out⟩
        ·exact Or.inl (zcn O6.out e)
       have R4:Hid (zas w4 w1.heap.size (.slice (some ⟨g1,0,none⟩) n c) n S):=zas.off R6.out f4 D4
       have I4:Hid (MV.Is w4 mb l):=I6.out.of (f4.block _ I6.out.lt fun e=>by
        rcases D4 _ e with t | t
        ·exact zly I6.out t rfl
        ·exact zly I6.out t rfl)
       have F4:Hid (Fr (fun k=>k=pb\/base<=k) w1 w4):=F6.out.same (f4.less fun i hi=>by
        rcases hi with e | e
        ·exact Or.inl e
        ·exact Or.inr (O6.out.lt i e).1)
       have s4:Hid (base<=w4.heap.size):=Nat.le_trans s6.out f4.size;clear b4 r4 f4 D4 c1;go_wp2;go_roundg (n - (j+1))
       case measure=>omega
       case rel=>exact⟨j+1,v4,hlt,rfl,by go_num,B4.out,O4.out,R4.out,I4.out,F4.out,s4.out⟩
  ·obtain rfl:j=n:=by omega
   go_wp2;go_end0
   refine⟨rfl,vj,TT j,BX.out,OR.out,fun y hy=>?_,ttN.out,FR.out⟩
   obtain⟨t,ht,rfl⟩:=ttM.out y hy;exact(RR.out.own t ht).is (RR.out.ok t ht)
end
end Go.Proofs.YtcogiogjpbkeaaaGreatDoor.T16
