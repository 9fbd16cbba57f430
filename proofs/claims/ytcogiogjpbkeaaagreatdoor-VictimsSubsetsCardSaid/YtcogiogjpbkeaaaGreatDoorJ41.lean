/-
  The landed victims: Lower and IDs. Conditions: at most 100 pods; for IDs at most 1000.
  Who must go, counted by what is left over: the landed victims' way, and that it finds the same. No condition, no walk.
-/
import Derived.Test.YtcogiogjpbkeaaaGreatDoorJ0
import Derived.Test.YtcogiogjpbkeaaaGreatDoorJ39
import Derived.Test.YtcogiogjpbkeaaaGreatDoorJ40
namespace Go.Proofs.YtcogiogjpbkeaaaGreatDoor.T18
open Go.RowKit Go.Sort Go.Lib V12 T13 T14 T15 T16 T17
def nbB(x:zaa):Bool:=!zdm 3 x
theorem zvv(x:zaa)(W:World):Calls Tryz.prog 37 #[x.val] W fun e w'=>e=.returned (.bool (nbB x))/\Keep W w':=by
 by_cases h:x.h=3
 ·have b1:(x.h != 3)=false:=by simp[h]
  have e:nbB x=false:=by unfold nbB zdm;simp[h]
  rw[e];replace h:=Zq h;unfold zaa.val
  go_enter Tryz.func37,Tryz.ntmps37
  go_wp2;go_ret
  exact⟨rfl,Keep.one _ _⟩
 ·have b1:(x.h != 3)=true:=by simp[h]
  have e:nbB x=true:=by unfold nbB zdm;simp[h]
  rw[e];replace h:=Zq h;unfold zaa.val
  go_enter Tryz.func37,Tryz.ntmps37
  go_wp2;go_ret
  exact⟨rfl,Keep.one _ _⟩
theorem zsj(P:Nat->zaa)(q:Int):∀ n,(K18.lowL P q n).map P=(T13.lst P n).filter fun y=>decide (y.p<q)
 | 0=>rfl
 | n+1=>by
   have e1:K18.lowL P q (n+1)=if (P n).p<q then K18.lowL P q n++[n] else K18.lowL P q n:=rfl
   rw[T13.lst_succ,List.filter_append,<- zsj P q n,e1]
   by_cases h:(P n).p<q
   ·rw[if_pos h,List.map_append,List.filter_cons_of_pos (by simpa using h)]
    rfl
   ·rw[if_neg h,List.filter_cons_of_neg (by simpa using h),List.filter_nil,List.append_nil]
theorem zyl(p:zaa)(nd:Int)(L:List zaa):((L.filter (onB nd)).filter fun y=>!nbB y).filter (fun y=>decide (y.p<p.p))=L.filter (zqe p nd):=by
 rw[List.filter_filter,List.filter_filter];refine List.filter_congr fun y _=>?_
 unfold nbB onB zdm zqe;rw[Bool.not_not,<- Bool.decide_and,<- Bool.decide_and,decide_eq_decide];omega
theorem zhy{f:zaa->Bool}(hf:∀ x,f (nm x)=f x){l K:List zaa}(h:l.map nm=K):(l.filter f).map nm=K.filter f:=by
 rw[<- h,List.filter_map];exact congrArg (List.map nm) (List.filter_congr fun x _=>(hf x).symm)
def amd(ca:Option Addr)(nd:Int)(L:List zaa)(w1:World):Prop:=∀ W,Keep w1 W->Calls Tryz.prog 36 #[.pointer ca,.int .i64 nd] W fun e w'=>∃ v S,e=.returned v/\zas w' W.heap.size v (L.filter (onB nd)).length S/\(T13.lst S (L.filter (onB nd)).length).map nm=L.filter (onB nd)/\Keep W w'
section
variable{w1:World}{L:List zaa}
set_option maxRecDepth 100000 in
set_option maxHeartbeats 8000000 in
theorem znx(ca:Option Addr)(p:zaa)(nd:Int)(hu:(keys L).Nodup)(hm:∀ y∈L,y.m<=1000)(hl:L.length<=100)(hO:amd ca nd L w1):
  Calls Tryz.prog 13 #[.pointer ca,p.val,.int .i64 nd] w1 fun e w'=>∃ v,e=.returned v/\zcu w' v (zbr p nd L)/\Keep w1 w':=by
 obtain⟨W,hW⟩:=Zn (w1.alloc (.cells (zac p) 26));have kW:Hid (Keep w1 W):=by rw[hW];exact Keep.one _ _
 have bP:Hid (W.heap[w1.heap.size]?=some (.cells (zac p) 26 (0,0))):=by rw[hW];exact heap_alloc_new _ _
 obtain⟨b,hb⟩:=Zn (w1.heap.size);rw[<- hb] at bP;obtain⟨L1,hL1⟩:=Zn (L.filter (onB nd));obtain⟨L2,hL2⟩:=Zn (L1.filter (fun y=>!nbB y))
 obtain⟨L3,hL3⟩:=Zn (L2.filter (fun y=>decide (y.p<p.p)))
 have e3:Hid (L3=L.filter (zqe p nd)):=by show _=_;rw[hL3,hL2,hL1,zyl]
 have l1:L1.length<=100:=by rw[hL1];exact Nat.le_trans (List.length_filter_le _ _) hl
 have cO:=Zq (hO W kW.out);rw[<- hL1] at cO;have mL:Hid (∀ y∈L1,y.m<=1000):=fun y hy=>by
  rw[hL1] at hy;exact hm y (List.mem_filter.1 hy).1
 have cD:Hid (∀ w2 v S,zas w2 W.heap.size v L1.length S->(T13.lst S L1.length).map nm=L1->Keep W w2->Calls Tryz.prog 35 #[v,.func (.func 37) #[] #[]] w2 fun e w'=>∃ A c S',e=.returned (.slice A L2.length c)/\zai w' A L2.length S'/\(T13.lst S' L2.length).map nm=L2/\Keep W w'):=fun w2 v S hR hS k2=>by
  refine(zxc hR (by omega) (df:=37) (caps:=#[]) (f:=nbB) ⟨enters_of Tryz.func37 (by kernel_rfl) rfl,fun W' _ x _=>zvv x W'⟩).mono ?_
  rintro e w' ⟨v',S',rfl,h1,h2,h3⟩;have e2:((T13.lst S L1.length).filter fun x=>!nbB x).map nm=L2:=by rw[hL2];exact zhy (fun _=>rfl) hS
  have eln:((T13.lst S L1.length).filter fun x=>!nbB x).length=L2.length:=by rw[<- e2,List.length_map]
  rw[eln] at h1 h2;obtain⟨A,c,rfl,hP⟩:=h1.rd (by rw[<- eln];have:=List.length_filter_le (fun x=>!nbB x) (T13.lst S L1.length);rw[T13.lst_len] at this;omega)
  exact⟨A,c,S',rfl,hP,by rw[h2];exact e2,Fr.low k2 h3 fun i hi=>(hR.row.lt i hi).1⟩
 have m2:Hid (∀ y∈L2,y.m<=1000):=fun y hy=>by
  rw[hL2] at hy;exact mL.out y (List.mem_filter.1 hy).1
 have l2:L2.length<=100:=by rw[hL2];exact Nat.le_trans (List.length_filter_le _ _) l1
 have l3:L3.length<=100:=by rw[hL3];exact Nat.le_trans (List.length_filter_le _ _) l2
 have u3:Hid ((keys L3).Nodup):=by show List.Nodup _;rw[e3.out];exact zjm _ hu
 have mm:∀ {K:List zaa} {S:Nat->zaa},(T13.lst S K.length).map nm=K->(∀ y∈K,y.m<=1000)->∀ j,j<K.length->(S j).m<=1000:=fun {K S} e hm j hj=>by
  have:nm (S j)∈K:=by
   have h1:nm (S j)∈(T13.lst S K.length).map nm:=List.mem_map_of_mem (lst_mem.2 ⟨j,hj,rfl⟩);rw[e] at h1;exact h1
  exact hm (nm (S j)) this
 have cL:Hid (∀ w3 A c S,zai w3 A L2.length S->(T13.lst S L2.length).map nm=L2->Calls Tryz.prog 39 #[.slice A L2.length c,.int .i64 p.p] w3 fun e w'=>∃ B c' T,e=.returned (.slice B L3.length c')/\zai w' B L3.length T/\(T13.lst T L3.length).map nm=L3/\Keep w3 w'):=fun w3 A c S hR hS=>by
  refine(K18.klower_fn A L2.length c S p.p w3 hR (by omega) (fun j hj=>by have:=mm hS m2.out j hj;omega)).mono ?_
  rintro e w' ⟨v,rfl,k,B,c',T,rfl,hT,sv⟩;have eT:(T13.lst T (K18.lowL S p.p L2.length).length).map nm=L3:=by
   have e1:((K18.lowL S p.p L2.length).map S).map nm=L3:=by
    rw[zsj,hL3];exact zhy (fun _=>rfl) hS
   rw[<- e1];refine List.ext_getElem? fun t=>?_
   rw[List.getElem?_map,List.getElem?_map,List.getElem?_map]
   by_cases ht:t<(K18.lowL S p.p L2.length).length
   ·rw[zaw ht,List.getElem?_eq_getElem ht,Option.map_some,Option.map_some,Option.map_some,zqi (sv t ht),List.getD_eq_getElem?_getD,List.getElem?_eq_getElem ht]
    rfl
   ·rw[List.getElem?_eq_none (by rw[T13.lst_len];omega),List.getElem?_eq_none (by omega)]
    rfl
  have eln:(K18.lowL S p.p L2.length).length=L3.length:=by rw[<- eT,List.length_map,T13.lst_len]
  rw[eln] at hT eT ⊢;exact⟨B,c',T,rfl,hT,eT,k⟩
 have m3:Hid (∀ y∈L3,y.m<=1000):=fun y hy=>by
  rw[hL3] at hy;exact m2.out y (List.mem_filter.1 hy).1
 have cS:Hid (∀ w4 B c T,zai w4 B L3.length T->(T13.lst T L3.length).map nm=L3->Calls Tryz.prog 38 #[.slice B L3.length c] w4 fun e w'=>∃ v,e=.returned v/\zcu w' v (zbr p nd L)/\Keep w4 w'):=fun w4 B c T hR hT=>by
  refine(zyg B L3.length c T w4 hR (by omega) (mm hT m3.out) hT u3.out).mono ?_
  rintro e w' ⟨v,rfl,h1,_,k⟩;refine⟨v,rfl,?_,k⟩;unfold zbr;rw[<- e3.out];exact h1
 replace hO:=Zq hO;replace hu:=Zq hu;replace hm:=Zq hm;replace hL1:=Zq hL1;replace hL2:=Zq hL2;replace hL3:=Zq hL3;unfold zac at hW;unfold zaa.val
 go_enter Tryz.func13,Tryz.ntmps13
 go_wp2_with fail;rw[<- hW,<- hb];replace hW:=Zq hW;replace hb:=Zq hb;refine cO.out.mono ?_;rintro e w2 ⟨v,S,rfl,hR,hS,k2⟩;have cD2:=Zq (cD.out w2 v S hR hS k2);clear cD cO hR hS;replace k2:=Zq k2;go_wp2_with fail;refine cD2.out.mono ?_;rintro e w3 ⟨A,c,S',rfl,hR,hS,k3⟩;have cL2:=Zq (cL.out w3 A c S' hR hS);have K3:Hid (Keep W w3):=k3;have p1:=(zae (Keep.block K3.out bP.out)).e1;clear cD2 cL hR hS k3;go_wp2_with fail;refine cL2.out.mono ?_;rintro e w4 ⟨B,c',T,rfl,hR,hT,k4⟩;have cS2:=Zq (cS.out w4 B c' T hR hT);have K4:Hid (Keep w1 w4):=kW.out.trans (K3.out.trans k4);clear cL2 cS hR hT k4 p1;go_wp2_with fail;refine cS2.out.mono ?_;rintro e w5 ⟨v5,rfl,h5,k5⟩;have K5:Hid (Keep w1 w5):=K4.out.trans k5;replace h5:=Zq h5;clear k5;go_wp2;go_ret
 exact⟨v5,rfl,h5.out,K5.out⟩
end
theorem zkz{CS:zbn}{w w1:World}{d q:Nat}{M:List NV}{L:List zaa}{X:Nat->Prop}(C:Con CS)(h:CS w d q M L X w1)(p:zaa)(nd:Int)(hd:I64 nd)(h64:d<=64)(hl:L.length<=100):
  Calls Tryz.prog 13 #[.pointer (some ⟨q,0,none⟩),p.val,.int .i64 nd] w1 fun e w'=>∃ v,e=.returned v/\zcu w' v (zbr p nd L)/\Keep w1 w' :=
 znx _ p nd (C.ok h).lok.nod (fun y hy=>by have:=((C.ok h).req y hy).1;omega) hl fun _ k=>C.on nd (C.keep h k) hd hl
set_option maxRecDepth 100000 in
set_option maxHeartbeats 4000000 in
theorem zqy(A:Option Addr)(n c:Nat)(P:Nat->zaa)(w:World)(hR:zai w A n P)(hN:n<=1000):
  Calls Tryz.prog 23 #[.slice A n c] w fun e w'=>∃ v,e=.returned v/\zbv w' v (keys (T13.lst P n))/\Keep w w':=by
 obtain⟨i0,hi0,hz0,hz1,hz2⟩:=info_parts Tryz.infoI16;obtain⟨wm,hmk,hown,hgm⟩:=Go.run_makeSlice_owned (P:=Tryz.prog) (w:=w) w.heap.size 43 3 i0 _ 1 Tryz.underlying43 hi0 hz0 hz1 .i64 .i64 n (by omega) (by rw[hz2];omega) (by unfold maxLen;omega) (Nat.le_refl _)
 have km:Keep w wm:=zad (Keep.refl w) hgm (fun g h=>by cases h)
 obtain⟨g,hg⟩:=Zn (w.heap.size);rw[<- hg] at hmk hown;have hsz:=km.size;rw[<- hg] at hsz;replace hg:=Zq hg;replace km:=Zq km;replace hgm:=Zq hgm;replace hown:=Zq hown;replace hR:=Zq hR;replace hsz:=Zq hsz
 go_enter Tryz.func23,Tryz.ntmps23
 go_wp2
 go_loopg [3,5,11] n (fun gx s3 _ s11 wr=>∃ (j:Nat) (B:Option Addr) (d:Nat),j<=n/\gx=n - j/\s11=.int .i64 j/\s3=.slice B j d/\Hid (Keep w wr)/\Hid (wr.ownsRow g 3 1 (.slice B j d) j (zba j fun t=>(P t).k)))
 case atStart=>exact⟨0,some ⟨g,0,none⟩,n,Nat.zero_le _,rfl,rfl,rfl,km,hown⟩
 case round =>
  clear hown hgm hmk hsz;obtain⟨j,B,d,hj,rfl,rfl,rfl,G,RW⟩:=hrel
  by_cases hlt:j<n
  ·have R2:=hR.out.keep G.out
   obtain⟨b,off,hA,ca⟩:=R2.adr (by omega)
   subst hA;have q1:=zar b off n c j hlt;have X:=ca j hlt;clear ca;replace R2:=Zq R2;obtain⟨x,hx⟩:=Zn (P j);rw[<- hx] at X;have x0:=X.e0;have x1:=X.e1;have x2:=X.e2;have x3:=X.e3;have x4:=X.e4;have x5:=X.e5;have x6:=X.e6;have x7:=X.e7;have x8:=X.e8;clear X;have gsz:Hid (g<=wr.heap.size):=by show _<=_;rw[hg.out];exact G.out.size
   have rk:Hid (I64 x.k):=by rw[hx];exact(hR.out.is j hlt).rng.1
   have ap:Hid (zba j (fun t=>(P t).k)++zba 1 (fun _=>x.k)=zba (j+1) fun t=>(P t).k):=by show _=_;rw[zpc,hx];exact zik j fun t=>(P t).k
   replace hx:=Zq hx;go_wp2_with (at_builtin;refine zla Tryz.underlying43 Tryz.infoI16 rfl _ _ rfl g (.slice B j d) j (zba j fun t=>(P t).k) (by simp[Act.eval]) (zal RW.out ((Keep.one _ _).alloc _)) (some ⟨wr.heap.size+1,0,none⟩) 1 1 (fun _=>x.k) (by simp[Act.eval]) (zgq (by rw[<- World.size_alloc];exact heap_alloc_new _ _) rk.out) (fun e=>by cases e) (by omega) (by rw[World.size_alloc,World.size_alloc];have:=gsz.out;omega) (j+1) rfl ?_;intro v3 w3 hr3 hg3)
   have K3:Hid (Keep w w3):=zad (G.out.trans ((Keep.one _ _).alloc _)) hg3 (fun q hq=>by rw[<- hg.out];exact(RW.out.lt q hq).1)
   obtain⟨B4,d4,hB4,_⟩:=zan hr3;subst hB4;rw[ap.out] at hr3;replace hr3:=Zq hr3;replace hg3:=Zq hg3;clear x0 x1 x2 x3 x4 x5 x6 x7 x8 q1;go_wp2;go_roundg (n - (j+1))
   case measure=>omega
   case rel=>exact⟨j+1,B4,d4,hlt,rfl,by go_num,rfl,K3,hr3⟩
  ·obtain rfl:j=n:=by omega
   have fin:Hid (zbv wr (.slice B j d) (keys (T13.lst P j))):=by
    have hl:(keys (T13.lst P j)).length=j:=by simp[keys,T13.lst]
    have hz:∀ i,i<j->zax (keys (T13.lst P j)) i=(P i).k:=fun i hi=>by
     unfold zax;rw[List.getD_eq_getElem?_getD];simp[keys,T13.lst,hi]
    obtain⟨A',c',e,h1,h2⟩:=own_row RW.out (by omega) fun i hi=>(hR.out.is i hi).rng.1
    cases e
    unfold zbv;rw[hl];refine⟨B,d,rfl,⟨h1.small,fun i hi=>by rw[hz i hi];exact h1.range i hi,fun hp=>?_⟩,fun e=>?_,zds RW.out⟩
    ·obtain⟨b,o,e,hc⟩:=h1.adr hp
     exact⟨b,o,e,fun i hi=>by rw[hz i hi];exact hc i hi⟩
    ·obtain⟨A2,c2,e2,h3⟩:=zan RW.out
     cases e2
     exact h3 e
   go_wp2;go_ret
   exact⟨_,rfl,fin.out,G.out⟩
end Go.Proofs.YtcogiogjpbkeaaaGreatDoor.T18
namespace Go.Proofs.YtcogiogjpbkeaaaGreatDoor.T18
open Go.RowKit Go.Sort Go.Lib V12 T13 T14 T15 T16 T17
def zhh(d:Nat)(S:Nat->Int)(y:zaa):Bool:=decide (∀ i,i<d->y.Z i<=S i)
theorem ahu{d:Nat}{S:Nat->Int}{y:zaa}{i:Nat}(hi:i<d)(h:S i<y.Z i):zhh d S y=false:=decide_eq_false fun h2=>by have:=h2 i hi;omega
theorem acp{d:Nat}{S:Nat->Int}{y:zaa}(h:∀ i,i<d->y.Z i<=S i):zhh d S y=true:=decide_eq_true h
def zcz(H:List zaa)(k:Int):Option zaa:=H.find? fun y=>decide (y.k=k)
def zcv(H:List zaa)(k:Int):List zaa:=H.filter fun y=>decide (y.k≠k)
def zda(d:Nat):List zaa->(Nat->Int)->List zaa->List zaa->List zaa
 | _,_,acc,[]=>acc
 | H,S,acc,q :: r=>match zcz H q.k with
   | none=>zda d (zcv H q.k) S acc r
   | some y=>if zhh d S y=true then zda d (zcv H q.k) (fun i=>S i - y.Z i) acc r else zda d (zcv H q.k) S (acc++[q]) r
theorem zgp{d:Nat}{H:List zaa}{S:Nat->Int}{acc:List zaa}{q:zaa}{r:List zaa}(h:zcz H q.k=none):zda d H S acc (q :: r)=zda d (zcv H q.k) S acc r:=by
 rw[zda,h]
theorem zfc{d:Nat}{H:List zaa}{S:Nat->Int}{acc:List zaa}{q:zaa}{r:List zaa}{y:zaa}(h:zcz H q.k=some y)(hr:zhh d S y=true):zda d H S acc (q :: r)=zda d (zcv H q.k) (fun i=>S i - y.Z i) acc r:=by
 rw[zda,h];simp only[hr,if_true]
theorem zfd{d:Nat}{H:List zaa}{S:Nat->Int}{acc:List zaa}{q:zaa}{r:List zaa}{y:zaa}(h:zcz H q.k=some y)(hr:zhh d S y=false):zda d H S acc (q :: r)=zda d (zcv H q.k) S (acc++[q]) r:=by
 rw[zda,h];simp only[hr,Bool.false_eq_true,if_false]
theorem zgx(H:List zaa)(k z:Int):zcz (zcv H k) z=if z=k then none else zcz H z:=by
 unfold zcz zcv
 induction H with
 | nil=>simp
 | cons y H ih =>
   rw[List.filter_cons]
   by_cases h:y.k=k
   ·rw[if_neg (by simpa using h),ih]
    by_cases e:z=k
    ·rw[if_pos e,if_pos e]
    ·rw[if_neg e,if_neg e,List.find?_cons,show decide (y.k=z)=false from decide_eq_false (by omega)]
   ·rw[if_pos (by simpa using h),List.find?_cons,List.find?_cons,ih]
    by_cases e:z=k
    ·rw[if_pos e,if_pos e,show decide (y.k=z)=false from decide_eq_false (by omega)]
    ·rw[if_neg e,if_neg e]
theorem zwb(H:List zaa)(k:Int):zcz (H.map nm) k=(zcz H k).map nm:=by
 unfold zcz;rw[List.find?_map];rfl
theorem zpy(H:List zaa)(k:Int):zcv (H.map nm) k=(zcv H k).map nm:=by
 unfold zcv;rw[List.filter_map];rfl
theorem zlz(d:Nat):∀ (l H:List zaa) (S:Nat->Int) (acc:List zaa),(zda d H S acc l).map nm=zda d (H.map nm) S (acc.map nm) (l.map nm)
 | [],_,_,_=>rfl
 | q :: r,H,S,acc=>by
   rw[List.map_cons];cases h:zcz H q.k with
   | none =>
     rw[zgp h,zlz d r,zgp (q:=nm q) (by rw[zwb,show(nm q).k=q.k from rfl,h];rfl),zpy]
     rfl
   | some y =>
     have h2:zcz (H.map nm) (nm q).k=some (nm y):=by rw[zwb,show(nm q).k=q.k from rfl,h];rfl
     cases hr:zhh d S y with
     | true =>
       rw[zfc h hr,zlz d r,zfc h2 (y:=nm y) hr,zpy];rfl
     | false =>
       rw[zfd h hr,zlz d r,zfd h2 (y:=nm y) hr,zpy,List.map_append];rfl
theorem zgo(d:Nat):∀ (l H:List zaa) (S:Nat->Int) (acc:List zaa),(zda d H S acc l).length<=acc.length+l.length
 | [],_,_,acc=>Nat.le_refl _
 | q :: r,H,S,acc=>by
   cases h:zcz H q.k with
   | none =>
     rw[zgp h];have:=zgo d r (zcv H q.k) S acc;rw[List.length_cons];omega
   | some y =>
     cases hr:zhh d S y with
     | true =>
       rw[zfc h hr];have:=zgo d r (zcv H q.k) (fun i=>S i - y.Z i) acc
       rw[List.length_cons];omega
     | false =>
       rw[zfd h hr];have:=zgo d r (zcv H q.k) S (acc++[q]);rw[List.length_append] at this;rw[List.length_cons];have e:([q]:List zaa).length=1:=rfl;omega
theorem zsk(d:Nat):∀ (l H:List zaa) (S:Nat->Int) (acc:List zaa),(zda d H S acc l).length=acc.length+l.length↔(keys l).Nodup/\∀ q∈l,∃ y,zcz H q.k=some y/\zhh d S y=false
 | [],_,_,acc=>⟨fun _=>⟨List.nodup_nil,fun q h=>by cases h⟩,fun _=>rfl⟩
 | q :: r,H,S,acc=>by
   cases h:zcz H q.k with
   | none =>
     have:=zgo d r (zcv H q.k) S acc;rw[zgp h,List.length_cons];refine⟨fun h2=>by omega,fun h2=>?_⟩
     obtain⟨y,h3,_⟩:=h2.2 q (by simp)
     rw[h] at h3;cases h3
   | some y =>
     cases hr:zhh d S y with
     | true =>
       have:=zgo d r (zcv H q.k) (fun i=>S i - y.Z i) acc
       rw[zfc h hr,List.length_cons];refine⟨fun h2=>by omega,fun h2=>?_⟩
       obtain⟨y',h3,h4⟩:=h2.2 q (by simp)
       rw[h] at h3;obtain rfl:=Option.some.inj h3;rw[hr] at h4;cases h4
     | false =>
       have ih:=zsk d r (zcv H q.k) S (acc++[q]);rw[zfd h hr,List.length_cons];rw[List.length_append,show([q]:List zaa).length=1 from rfl] at ih
       rw[show acc.length+(r.length+1)=acc.length+1+r.length by omega,ih]
       show _↔(q.k :: keys r).Nodup/\_
       rw[List.nodup_cons];constructor
       ·rintro⟨h1,h2⟩
        refine⟨⟨fun hm=>?_,h1⟩,fun z hz=>?_⟩
        ·obtain⟨z,hz,e⟩:=List.mem_map.1 hm
         obtain⟨y',h3,_⟩:=h2 z hz;rw[zgx,if_pos e] at h3;cases h3
        ·rcases List.mem_cons.1 hz with rfl | hz
         ·exact⟨y,h,hr⟩
         ·obtain⟨y',h3,h4⟩:=h2 z hz
          rw[zgx] at h3
          split at h3
          ·cases h3
          ·exact⟨y',h3,h4⟩
       ·rintro⟨⟨h0,h1⟩,h2⟩
        refine⟨h1,fun z hz=>?_⟩
        obtain⟨y',h3,h4⟩:=h2 z (by simp[hz])
        refine⟨y',?_,h4⟩;rw[zgx,if_neg fun e=>h0 (by rw[<- e];exact List.mem_map_of_mem hz)]
        exact h3
def zlo(O:Int->Bool)(k:Int):Int->Bool:=fun z=>O z&&decide (z≠k)
theorem zxe{f g:zaa->Int}{c:Int}{y:zaa}:∀ {L:List zaa},(keys L).Nodup->y∈L->(∀ z,z.k≠y.k->f z=g z)->f y=g y+c->smF f L=smF g L+c
 | [],_,hy,_,_=>by cases hy
 | z :: L,hn,hy,h1,h2=>by
   have hn2:(z.k :: keys L).Nodup:=hn;rw[List.nodup_cons] at hn2;show f z+smF f L=g z+smF g L+c
   rcases List.mem_cons.1 hy with rfl | hy
   ·rw[zkx (f:=f) (g:=g) fun x hx=>h1 x fun e=>hn2.1 (by rw[<- e];exact List.mem_map_of_mem hx),h2]
    omega
   ·rw[h1 z fun e=>hn2.1 (by rw[e];exact List.mem_map_of_mem hy),zxe hn2.2 hy h1 h2]
    omega
section
variable{p:zaa}{nd:Int}{M:List NV}{L:List zaa}{d:Nat}
def zhl(p:zaa)(nd:Int)(M:List NV)(L:List zaa)(O:Int->Bool):Nat->Int:=fun j=>(nget M nd).C j - (zbo O p nd L j+p.Z j)
theorem zmx(hn:(keys L).Nodup){O:Int->Bool}{y:zaa}(hy:y∈L)(hh:holds nd y=true)(hO:O y.k=true)(j:Nat):zbo (zlo O y.k) p nd L j=zbo O p nd L j+y.Z j:=by
 rw[zex,zex];refine zxe hn hy (fun z hz=>?_) ?_
 ·unfold ldF zlo
  rw[show decide (z.k≠y.k)=true from decide_eq_true hz,Bool.and_true]
 ·unfold ldF zlo zbm
  rw[show decide (y.k≠y.k)=false from decide_eq_false (by simp),Bool.and_false,if_neg (by simp),hO,if_pos rfl,if_pos hh]
  omega
theorem zlg{O:Int->Bool}{k:Int}(h:∀ z∈L,z.k=k->holds nd z=false)(j:Nat):zbo (zlo O k) p nd L j=zbo O p nd L j:=by
 rw[zex,zex];refine zkx fun z hz=>?_
 unfold ldF zlo
 by_cases e:z.k=k
 ·have:zbm nd j z=0:=by
   unfold zbm;rw[h z hz e];rfl
  rw[this,ite_self,ite_self]
 ·rw[show decide (z.k≠k)=true from decide_eq_true e,Bool.and_true]
theorem afo(hn:(keys L).Nodup){O:Int->Bool}{y:zaa}(hy:y∈L)(hh:holds nd y=true)(hO:O y.k=true):zhl p nd M L (zlo O y.k)=fun j=>zhl p nd M L O j - y.Z j:=by
 funext j
 unfold zhl;rw[zmx hn hy hh hO];omega
theorem zmr(hn:(keys L).Nodup){O:Int->Bool}{y:zaa}(hy:y∈L)(hh:holds nd y=true)(hO:O y.k=true)(hf:zcc O p nd M L d=true):zcc (zlo O y.k) p nd M L d=zhh d (zhl p nd M L O) y:=by
 have h:=of_decide_eq_true hf;unfold zcc zhh;rw[decide_eq_decide];constructor
 ·rintro⟨_,_,h3⟩ i hi
  have:=h3 i hi;rw[zmx hn hy hh hO] at this;unfold zhl;omega
 ·intro h3
  refine⟨h.1,h.2.1,fun i hi=>?_⟩
  have:=h3 i hi;rw[zmx hn hy hh hO];unfold zhl at this;omega
theorem zrv{O:Int->Bool}{k:Int}(h:∀ z∈L,z.k=k->holds nd z=false):zcc (zlo O k) p nd M L d=zcc O p nd M L d:=by
 unfold zcc;rw[decide_eq_decide];constructor
 ·rintro⟨h1,h2,h3⟩
  exact⟨h1,h2,fun i hi=>by rw[<- zlg h];exact h3 i hi⟩
 ·rintro⟨h1,h2,h3⟩
  exact⟨h1,h2,fun i hi=>by rw[zlg h];exact h3 i hi⟩
def zfh(nd:Int)(L:List zaa):List zaa:=L.filter (holds nd)
theorem zki{H:List zaa}{k:Int}{y:zaa}(h:zcz H k=some y):y∈H/\y.k=k:=⟨List.mem_of_find?_eq_some h,by simpa using List.find?_some h⟩
theorem zjh{H:List zaa}(hn:(keys H).Nodup){y:zaa}(hy:y∈H):zcz H y.k=some y:=by
 unfold zcz
 induction H with
 | nil=>cases hy
 | cons z H ih =>
   have hn2:(z.k :: keys H).Nodup:=hn;rw[List.nodup_cons] at hn2;rw[List.find?_cons];rcases List.mem_cons.1 hy with rfl | hy
   ·rw[show decide (y.k=y.k)=true from decide_eq_true rfl]
   ·rw[show decide (z.k=y.k)=false from decide_eq_false fun e=>hn2.1 (by rw[e];exact List.mem_map_of_mem hy)]
    exact ih hn2.2 hy
theorem zhm{H:List zaa}{k:Int}(h:zcz H k=none):∀ z∈H,z.k≠k:=fun z hz=>by simpa using List.find?_eq_none.1 h z hz
theorem aao(hn:(keys L).Nodup):(keys (zfh nd L)).Nodup:=hn.sublist ((List.filter_sublist).map _)
theorem aap{k:Int}(h:zcz (zfh nd L) k=none):∀ z∈L,z.k=k->holds nd z=false:=fun z hz e=>by
 cases hh:holds nd z with
 | false=>rfl
 | true=>exact absurd e (zhm h z (List.mem_filter.2 ⟨hz,hh⟩))
theorem agj{acc r:List zaa}{q:zaa}(h:(keys (acc++q :: r)).Nodup):zlo (zdx (acc++q :: r)) q.k=zdx (acc++r):=by
 have e:keys (acc++q :: r)=keys acc++q.k :: keys r:=by unfold keys;rw[List.map_append];rfl
 have e2:keys (acc++r)=keys acc++keys r:=by unfold keys;rw[List.map_append]
 rw[e] at h;obtain⟨_,h2,h3⟩:=List.nodup_append.1 h;rw[List.nodup_cons] at h2
 funext z
 unfold zlo zdx;rw[e,e2,Bool.eq_iff_iff,Bool.and_eq_true,decide_eq_true_iff,decide_eq_true_iff,decide_eq_true_iff,List.mem_append,List.mem_append,List.mem_cons];constructor
 ·rintro⟨h4 | h4 | h4,h5⟩
  ·exact Or.inl h4
  ·exact absurd h4 h5
  ·exact Or.inr h4
 ·rintro(h4 | h4)
  ·exact⟨Or.inl h4,fun e=>h3 z h4 q.k (by simp) e⟩
  ·exact⟨Or.inr (Or.inr h4),fun e=>h2.1 (by rw[<- e];exact h4)⟩
theorem zna(hn:(keys L).Nodup):∀ (l acc H:List zaa) (S:Nat->Int),(∀ y∈l,zcz H y.k=some y/\y∈L/\holds nd y=true)->(keys (acc++l)).Nodup->zcc (zdx (acc++l)) p nd M L d=true->S=zhl p nd M L (zdx (acc++l))->zda d H S acc l=zhd p nd M L d acc l
 | [],_,_,_,_,_,_,_=>rfl
 | q :: r,acc,H,S,hl,hk,hf,hS=>by
   obtain⟨h1,h2,h3⟩:=hl q (by simp)
   have hq:zdx (acc++q :: r) q.k=true:=decide_eq_true (List.mem_map_of_mem (by simp))
   have fc:=zmr (p:=p) (M:=M) hn h2 h3 hq hf;have cc:=afo (p:=p) (M:=M) hn h2 h3 hq;rw[agj hk] at fc cc;rw[<- hS] at fc cc;have hk2:(keys (acc++r)).Nodup:=by
    refine hk.sublist (List.Sublist.map _ ?_);exact(List.sublist_cons_self q r).append_left acc
   have hr:∀ y∈r,zcz (zcv H q.k) y.k=some y/\y∈L/\holds nd y=true:=fun y hy=>by
    obtain⟨k1,k2,k3⟩:=hl y (by simp[hy])
    refine⟨?_,k2,k3⟩;rw[zgx,if_neg fun e=>?_]
    ·exact k1
    ·have e3:keys (acc++q :: r)=keys acc++q.k :: keys r:=by unfold keys;rw[List.map_append];rfl
     rw[e3] at hk;have h5:=(List.nodup_append.1 hk).2.1;rw[List.nodup_cons] at h5;exact h5.1 (by rw[<- e];exact List.mem_map_of_mem hy)
   unfold zhd;cases hb:zhh d S q with
   | true =>
     rw[hb] at fc;rw[zfc h1 hb,if_pos fc];exact zna hn r acc _ _ hr hk2 fc cc.symm
   | false =>
     rw[hb] at fc;rw[zfd h1 hb,if_neg (by rw[fc];decide)]
     have e4:acc++[q]++r=acc++q :: r:=by rw[List.append_assoc];rfl
     exact zna hn r (acc++[q]) _ _ hr (by rw[e4];exact hk) (by rw[e4];exact hf) (by rw[e4];exact hS)
theorem agy(hn:(keys L).Nodup):(keys (zbr p nd L)).Nodup:=by
 unfold zbr;refine(List.Perm.nodup_iff ((zdj _).map _)).2 ?_;exact hn.sublist ((List.filter_sublist).map _)
theorem akl{y:zaa}(h:y∈zbr p nd L):y∈L/\holds nd y=true:=by
 have h1:=List.mem_filter.1 ((zdj _).mem_iff.1 h);have h2:=of_decide_eq_true h1.2;exact⟨h1.1,decide_eq_true ⟨h2.1,Or.inl h2.2.1⟩⟩
theorem ahg(hn:(keys L).Nodup)(h:zek p nd M L d=true):zda d (zfh nd L) (zhl p nd M L (zdx (zbr p nd L))) [] (zbr p nd L)=zct p nd M L d :=
 zna hn (zbr p nd L) [] _ _ (fun y hy=>by
  obtain⟨h1,h2⟩:=akl hy
  exact⟨zjh (aao hn) (List.mem_filter.2 ⟨h1,h2⟩),h1,h2⟩) (agy hn) h rfl
theorem aak{I:List Int}{i:Nat}(hi:i<I.length)(hu:I.Nodup):zci (I.take i++I.drop (i+1))=zlo (zci I) (zax I i):=by
 have e:I=I.take i++zax I i :: I.drop (i+1):=by
  conv=>lhs;rw[<- List.take_append_drop i I]
  rw[List.drop_eq_getElem_cons hi];have:zax I i=I[i]:=by unfold zax;rw[List.getD_eq_getElem?_getD,List.getElem?_eq_getElem hi];rfl
  rw[this]
 have hu2:=hu;rw[e] at hu2;obtain⟨_,h2,h3⟩:=List.nodup_append.1 hu2;rw[List.nodup_cons] at h2
 funext z
 unfold zci zlo;rw[Bool.eq_iff_iff,Bool.and_eq_true,decide_eq_true_iff,decide_eq_true_iff,decide_eq_true_iff,List.mem_append];constructor
 ·intro h
  refine⟨?_,fun e2=>?_⟩
  ·rcases h with h | h
   ·exact List.mem_of_mem_take h
   ·exact List.mem_of_mem_drop h
  ·rcases h with h | h
   ·exact h3 z h _ (by simp) e2
   ·exact h2.1 (by rw[<- e2];exact h)
 ·rintro⟨h,h5⟩
  rw[e,List.mem_append,List.mem_cons] at h;rcases h with h | h | h
  ·exact Or.inl h
  ·exact absurd h h5
  ·exact Or.inr h
theorem abh(hn:(keys L).Nodup){l:List zaa}(hf:zdn p nd M L d (zci (keys l))=true):decide ((zda d (zfh nd L) (zhl p nd M L (zci (keys l))) [] l).length=l.length)=zgn (zdn p nd M L d) (keys l):=by
 have ha:=zsk d l (zfh nd L) (zhl p nd M L (zci (keys l))) [];rw[List.length_nil,Nat.zero_add] at ha;have one:∀ i,i<(keys l).length->∃ q∈l,zax (keys l) i=q.k:=fun i hi=>by
  obtain⟨q,hq,e⟩:=List.mem_map.1 (zdo hi);exact⟨q,hq,e.symm⟩
 cases hm:zgn (zdn p nd M L d) (keys l) with
 | true =>
   refine decide_eq_true (ha.2 ?_);unfold zgn at hm;rw[Bool.and_eq_true,List.all_eq_true] at hm;have hc:∀ i,i<(keys l).length->zdn p nd M L d (zci ((keys l).take i++(keys l).drop (i+1)))=false:=fun i hi=>by
    have:=hm.2 i (List.mem_range.2 hi)
    simpa using this
   have hu:(keys l).Nodup:=by
    refine List.pairwise_iff_getElem.2 fun s t hs ht hst e=>?_
    have h1:=hc t ht;have e2:zci ((keys l).take t++(keys l).drop (t+1))=zci (keys l):=by
     funext z
     unfold zci;rw[decide_eq_decide];constructor
     ·intro h
      rcases List.mem_append.1 h with h | h
      ·exact List.mem_of_mem_take h
      ·exact List.mem_of_mem_drop h
     ·intro h
      obtain⟨u,hu,e3⟩:=zei h
      by_cases e4:u=t
      ·have e5:zax (keys l) s=z:=by
        rw[<- e3,e4];unfold zax;rw[List.getD_eq_getElem?_getD,List.getD_eq_getElem?_getD,List.getElem?_eq_getElem hs,List.getElem?_eq_getElem ht];exact e
       rw[<- e5];exact zpx hs (by omega)
      ·rw[<- e3]
       exact zpx hu e4
    rw[e2,hf] at h1;cases h1
   refine⟨hu,fun q hq=>?_⟩
   have hqk:q.k∈keys l:=List.mem_map_of_mem hq;obtain⟨i,hi,e⟩:=zei hqk;have h1:=hc i hi;rw[aak hi hu,show zax (keys l) i=q.k from e] at h1
   have hO:zci (keys l) q.k=true:=decide_eq_true (List.mem_map_of_mem hq);cases hF:zcz (zfh nd L) q.k with
   | none =>
     have:=zrv (p:=p) (M:=M) (d:=d) (O:=zci (keys l)) (aap hF);unfold zdn at h1 hf;rw[this,hf] at h1;cases h1
   | some y =>
     obtain⟨h2,h3⟩:=zki hF;obtain⟨h4,h5⟩:=List.mem_filter.1 h2;have:=zmr (p:=p) (M:=M) hn h4 h5 (by rw[h3];exact hO) hf
     rw[h3] at this;refine⟨y,rfl,?_⟩;rw[<- this];exact h1
 | false =>
   refine decide_eq_false fun h=>?_
   obtain⟨hu,h2⟩:=ha.1 h;refine absurd (zqg hf fun i hi=>?_) (by rw[hm];decide)
   obtain⟨q,hq,e⟩:=one i hi;obtain⟨y,h3,h4⟩:=h2 q hq;obtain⟨h5,h6⟩:=zki h3;obtain⟨h7,h8⟩:=List.mem_filter.1 h5;have hO:zci (keys l) q.k=true:=decide_eq_true (List.mem_map_of_mem hq);have:=zmr (p:=p) (M:=M) hn h7 h8 (by rw[h6];exact hO) hf
   rw[aak hi hu,e,<- h6];unfold zdn;rw[this];exact h4
end
end Go.Proofs.YtcogiogjpbkeaaaGreatDoor.T18
