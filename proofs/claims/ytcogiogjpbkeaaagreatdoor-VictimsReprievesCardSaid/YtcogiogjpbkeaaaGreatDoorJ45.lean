/-
  The landed victims: what is left over of a node, and the closure that takes a request from it. Conditions: at most 100 nodes and pods, the dimension is at most 64.
  The landed victims: needed: who must go, counted by what is left over. Conditions: at most 100 nodes and pods, the dimension is at most 64.
-/
import Derived.Test.YtcogiogjpbkeaaaGreatDoorJ0
import Derived.Test.YtcogiogjpbkeaaaGreatDoorJ35
import Derived.Test.YtcogiogjpbkeaaaGreatDoorJ44
namespace Go.Proofs.YtcogiogjpbkeaaaGreatDoor.T18
open Go.RowKit Go.Sort Go.Lib V12 T13 T14 T15 T16 T17
def zof(CS:zbn):Prop:=∀ {w d q M L X w1} (id:Int),CS w d q M L X w1->id∈nk M->Calls Tryz.prog 84 #[.pointer (some ⟨q,0,none⟩),.int .i64 id] w1 fun e w'=>∃ A c,e=.returned (.tuple #[.agg #[.int .i64 id,.slice A d c],.bool true])/\T12.Row w1 w' A d c (nget M id).C/\Keep w1 w'
theorem ahi:zof CSd:=by
 rintro w d q M L X w1 id ⟨qn,qp,N,Xn,Xp,h⟩ hk;refine(zoh h id).mono ?_;rintro e w' ⟨k,A,n,c,rfl,a,_,kk⟩;obtain⟨rfl,rfl,r⟩:=a hk;exact⟨A,c,by rw[decide_eq_true hk],r,kk⟩
theorem zii{w0 w:World}{A:Option Addr}{d c:Nat}{S:Nat->Int}(h:T12.Row w0 w A d c S)(hd:0<d):∃ g o,A=some ⟨g,o,none⟩/\w0.heap.size<=g/\(∀ j,j<d->w.cell? ⟨g,o+j,none⟩=some (.int .i64 (S j)))/\∀ j,j<d->w.frozen? ⟨g,o+j,none⟩=false:=by
 obtain⟨g,o,e,hc⟩:=h.rd.adr hd;obtain⟨g2,o2,e2,hb,hf⟩:=h.new hd;rw[e] at e2;cases e2
 exact⟨g,o,e,hb,hc,hf⟩
theorem zee{w0 w:World}{A:Option Addr}{d c:Nat}{S Z:Nat->Int}(h:T12.Row w0 w A d c S)(e:∀ k,k<d->S k=Z k):T12.Row w0 w A d c Z:=⟨h.rd.congr e,h.nil,h.new,h.ty⟩
theorem zpb{w0 w:World}{A:Option Addr}{d c g o j:Nat}{S:Nat->Int}(h:T12.Row w0 w A d c S)(hA:A=some ⟨g,o,none⟩)(hj:j<d){z:Int}(hz:I64 z):T12.Row w0 (w.setCell ⟨g,o+j,none⟩ (.int .i64 z)) A d c (fun i=>if i=j then z else S i):=by
 obtain⟨g2,o2,e2,hb,hc,hf⟩:=zii h (by omega)
 rw[hA] at e2;cases e2
 refine⟨⟨h.rd.small,fun i hi=>?_,fun hn=>⟨g,o,hA,fun i hi=>?_⟩⟩,h.nil,fun hn=>⟨g,o,hA,hb,fun i hi=>?_⟩,fun hn b2 o2 e=>?_⟩
 ·split
  ·exact hz
  ·exact h.rd.range i hi
 ·by_cases e:i=j
  ·subst e
   rw[if_pos rfl];exact World.cell?_setCell_same _ _ _ (hc i hi)
  ·rw[if_neg e,World.cell?_setCell_other (a:=⟨g,o+j,none⟩) (b:=⟨g,o+i,none⟩) (h:=by simp only[ne_eq,Addr.mk.injEq,not_and];intro _ e2;omega)]
   exact hc i hi
 ·rw[World.frozen?_setCell]
  exact hf i hi
 ·exact(h.ty hn b2 o2 e).set _ _
def zew(A:Option Addr)(d k:Nat):Prop:=0<d/\∃ o,A=some ⟨k,o,none⟩
theorem zsu{w w':World}{A B:Option Addr}{d m:Nat}{Z:Nat->Int}(h:Rd w B m Z)(f:Fr (zew A d) w w')(hne:∀ g o,0<m->B=some ⟨g,o,none⟩->¬zew A d g):Rd w' B m Z :=
 ⟨h.small,h.range,fun hm=>by
  obtain⟨g,o,e,hc⟩:=h.adr hm
  exact⟨g,o,e,fun j hj=>f.cell (hc j hj) (hne g o hm e)⟩⟩
set_option maxRecDepth 100000 in
set_option maxHeartbeats 8000000 in
theorem aix{w0 w:World}{pb d c m cz:Nat}{A B:Option Addr}{S Z:Nat->Int}(hbx:Boxed w pb 24 (.slice A d c))(hS:T12.Row w0 w A d c S)(hZ:Rd w B m Z)(hm:m<=d)(hd:d<=64)(hr:∀ i,i<m->0<=Z i/\Z i<=S i)(hne:∀ g o,0<m->B=some ⟨g,o,none⟩->¬zew A d g):
  Calls Tryz.prog 69 #[.slice B m cz,.pointer (some ⟨pb,0,none⟩)] w fun e w'=>e=.returned (.tuple #[])/\T12.Row w0 w' A d c (fun i=>if i<m then S i - Z i else S i)/\Fr (zew A d) w w':=by
 have pb0:Hid (¬zew A d pb):=fun ⟨hd,o,e⟩=>by
  have t1:T13.Typ w pb 2:=hS.ty hd pb o e;have t2:T13.Typ w pb 24:=⟨_,_,hbx⟩;exact absurd (zck t1 t2) (by decide)
 replace hbx:=Zq hbx;replace hS:=Zq hS;replace hZ:=Zq hZ;replace hr:=Zq hr;replace hne:=Zq hne
 go_enter Tryz.func69,Tryz.ntmps69
 go_wp2
 go_loopg [3,4,7] m (fun gx _ _ s7 wr=>∃ j:Nat,j<=m/\gx=m - j/\s7=.int .i64 j/\Hid (T12.Row w0 wr A d c (fun i=>if i<j then S i - Z i else S i))/\Hid (Fr (zew A d) w wr))
 case atStart=>exact⟨0,Nat.zero_le _,rfl,rfl,zee hS.out fun i _=>by rw[if_neg (Nat.not_lt_zero _)],Fr.refl _ _⟩
 case round =>
  obtain⟨j,hj,rfl,rfl,SR,FR⟩:=hrel
  by_cases hlt:j<m
  ·have hjd:j<d:=by omega
   have bx:=hbx.out.cell;have bx1:=FR.out.cell bx pb0.out;clear bx;obtain⟨gz,oz,eB,cz2⟩:=(zsu hZ.out FR.out hne.out).adr (by omega)
   have z0:=cz2 j hlt;obtain⟨g,o,eA,hb,cs,fs⟩:=zii SR.out (by omega)
   have s0:=cs j hjd;have f0:=fs j hjd;rw[if_neg (Nat.lt_irrefl j)] at s0;obtain⟨h1,h2⟩:=hr.out j hlt;have h3:=hS.out.rd.range j hjd;have i64s:I64 (S j - Z j):=by unfold I64 at h3 ⊢;omega
   have hwp:IntKind.i64.wrap (S j - Z j)=S j - Z j:=by rw[IntKind.wrap_i64];unfold I64 at i64s;omega
   have nx:=zpb SR.out eA hjd i64s;have N1:Hid (T12.Row w0 (wr.setCell ⟨g,o+j,none⟩ (.int .i64 (S j - Z j))) A d c (fun i=>if i<j+1 then S i - Z i else S i)):=zee nx fun i hi=>by
    by_cases e:i=j
    ·rw[if_pos e,if_pos (by omega),e]
    ·rw[if_neg e]
     by_cases e2:i<j
     ·rw[if_pos e2,if_pos (by omega)]
     ·rw[if_neg e2,if_neg (by omega)]
   have F1:Hid (Fr (zew A d) w (wr.setCell ⟨g,o+j,none⟩ (.int .i64 (S j - Z j)))):=FR.out.set (by left;exact⟨by omega,o,eA⟩) _
   clear nx cs fs cz2;subst eB;subst eA;replace hb:=Zq hb;replace i64s:=Zq i64s;replace h1:=Zq h1;replace h2:=Zq h2;replace h3:=Zq h3;generalize hy:S j=y at *;generalize hu:Z j=u at *;replace hy:=Zq hy;replace hu:=Zq hu;go_wp2;go_roundg (m - (j+1))
   case measure=>omega
   case rel=>exact⟨j+1,hlt,rfl,by go_num,N1,F1⟩
  ·obtain rfl:j=m:=by omega
   go_wp2;go_end0
   exact⟨rfl,SR.out,FR.out⟩
def amb(f:Bool)(d:Nat)(S:Nat->Int)(w1:World)(e:Ending)(w':World):Prop:=(f=false->e=.returned (.tuple #[.slice none 0 0,.bool false]))/\(f=true->∃ B cb,e=.returned (.tuple #[.slice B d cb,.bool true])/\T12.Row w1 w' B d cb S)/\Keep w1 w'
section
variable{CS:zbn}{w w1:World}{d q:Nat}{M:List NV}{L:List zaa}{X:Nat->Prop}
set_option maxRecDepth 100000 in
set_option maxHeartbeats 16000000 in
theorem aex(C:Con CS)(NW:zof CS)(F:zqz CS)(h:CS w d q M L X w1)(hg:zbk w1)(p:zaa)(hp:zah w1 p)(nd:Int)(hd:I64 nd)(A:Option Addr)(n c:Nat)(O:Int->Bool)(hS:zcq w1 A n O)(hn:n<=200)(h64:d<=64)(pm:p.m<=1000)(hM:M.length<=100)(hl:L.length<=100):
  Calls Tryz.prog 68 #[.pointer (some ⟨q,0,none⟩),p.val,.int .i64 nd,.slice A n c] w1 (amb (zcc O p nd M L d) d (zhl p nd M L O) w1):=by
 have mixed:Tryz.prog.follows .mixedOrders=true:=by kernel_rfl
 have ok:=Zq (C.ok h);obtain⟨W,hW⟩:=Zn (w1.alloc (.cells (zac p) 26));have kW:Hid (Keep w1 W):=by rw[hW];exact Keep.one _ _
 have bP:Hid (W.heap[w1.heap.size]?=some (.cells (zac p) 26 (0,0))):=by rw[hW];exact heap_alloc_new _ _
 obtain⟨b,hb⟩:=Zn (w1.heap.size);rw[<- hb] at bP;have cF:=Zq (F.fits p nd A n c O (C.keep h kW.out) (hg.keep kW.out) (hp.keep kW.out) hd (hS.keep kW.out) hn h64 pm hM hl);obtain⟨f,hf⟩:=Zn (zcc O p nd M L d);rw[<- hf] at cF ⊢;have cN:Hid (nd∈nk M->∀ W',Keep W W'->Calls Tryz.prog 84 #[.pointer (some ⟨q,0,none⟩),.int .i64 nd] W' fun e w'=>∃ B cb,e=.returned (.tuple #[.agg #[.int .i64 nd,.slice B d cb],.bool true])/\T12.Row W' w' B d cb (nget M nd).C/\Keep W' w'):=fun hk W' k=>NW nd (C.keep h (kW.out.trans k)) hk
 have cL:Hid (∀ W',Keep W W'->Calls Tryz.prog 87 #[.pointer (some ⟨q,0,none⟩),p.val,.int .i64 nd,.slice A n c] W' fun e w'=>∃ v,e=.returned v/\Row w' v d (ofZ O p nd M L)/\(∀ g,v.ownBlock=some g->W'.heap.size<=g)/\Keep W' w'):=fun W' k=>F.of p nd A n c O (C.keep h (kW.out.trans k)) (hg.keep (kW.out.trans k)) (hp.keep (kW.out.trans k)) hd (hS.keep (kW.out.trans k)) hn h64 hM hl
 replace h:=Zq h;replace hg:=Zq hg;replace hS:=Zq hS;replace hp:=Zq hp;have P0:=zae bP.out;have c0:=P0.e0;have c1:=P0.e1;have c2:=P0.e2;have c3:=P0.e3;have c4:=P0.e4;have c5:=P0.e5;have c6:=P0.e6;have c7:=P0.e7;have c8:=P0.e8;clear P0;replace hf:=Zq hf;unfold zac at hW c0 c1 c2 c3 c4 c5 c6 c7 c8;unfold zaa.val at cF cL;unfold zaa.val;rw[hW,hb] at c0 c1 c2 c3 c4 c5 c6 c7 c8
 go_enter Tryz.func68,Tryz.ntmps68
 go_wp2_with fail;rw[<- hW,<- hb];replace hW:=Zq hW;replace hb:=Zq hb;clear c0 c1 c2 c3 c4 c5 c6 c7 c8;refine cF.out.mono ?_;rintro e w2 ⟨rfl,k2⟩;have K2:Hid (Keep W w2):=k2;clear cF k2;cases f with
 | false =>
   go_wp2;go_ret2
   exact⟨fun _=>rfl,(fun h=>by cases h),kW.out.trans K2.out⟩
 | true =>
   have ft:=of_decide_eq_true hf.out.symm;have hk:=ft.1;obtain⟨epm,pam⟩:=T12.wrong_no ft.2.1;replace epm:=Zq epm;have fit:=Zq ft.2.2;clear ft;have cN2:=Zq (cN.out hk w2 K2.out);replace pam:=Zq pam;replace hk:=Zq hk;go_wp2_with fail;refine cN2.out.mono ?_;rintro e w3 ⟨B,cb,rfl,R3,k3⟩;obtain⟨W4,hW4⟩:=Zn (w3.alloc (.cells #[.int .i64 nd,.slice B d cb] 56));have k4:Keep w3 W4:=by rw[hW4];exact Keep.one _ _
   have K4:Hid (Keep W W4):=(K2.out.trans k3).trans k4;have R4:Hid (T12.Row W W4 B d cb (nget M nd).C):=zfo (R3.keep k4) K2.out.size;obtain⟨y0,y1,_⟩:=T12.cel2 (show W4.heap[w3.heap.size]?=some (.cells #[.int .i64 nd,.slice B d cb] 56 (0,0)) by rw[hW4];exact heap_alloc_new _ _)
   have cL4:=Zq (cL.out W4 K4.out);have P4:=zae (Keep.block K4.out bP.out);have d0:=P4.e0;have d1:=P4.e1;have d2:=P4.e2;have d3:=P4.e3;have d4:=P4.e4;have d5:=P4.e5;have d6:=P4.e6;have d7:=P4.e7;have d8:=P4.e8;clear P4 R3 k3 k4 cN2 cN cL y0;rw[hW4] at y1 d0 d1 d2 d3 d4 d5 d6 d7 d8;go_wp2_with fail;rw[<- hW4];replace hW4:=Zq hW4;clear y1 d0 d1 d2 d3 d4 d5 d6 d7 d8;refine cL4.out.mono ?_;rintro e w5 ⟨v,rfl,⟨D,cd,rfl,RL⟩,hv,k5⟩;have R5:Hid (T12.Row W w5 B d cb (nget M nd).C):=R4.out.keep k5;have RL5:Hid (Rd w5 D d (ofZ O p nd M L)):=RL;have K5:Hid (Keep W w5):=K4.out.trans k5;have ne:Hid (∀ g o,0<d->D=some ⟨g,o,none⟩->¬zew B d g):=fun g o hd2 e ⟨_,o2,e2⟩=>by
    have h1:=hv g (by rw[e];rfl)
    have h2:=R4.out.rd.adr hd2;obtain⟨g3,o3,e3,hc⟩:=h2;rw[e2] at e3;cases e3
    have h4:=zbl (hc 0 hd2);have h5:g<W4.heap.size:=h4;omega
   clear RL k5 hv cL4;have rg:Hid (∀ j,j<d->0<=ofZ O p nd M L j/\0<=p.Z j/\p.Z j<=1099511627776/\ofZ O p nd M L j+p.Z j<=(nget M nd).C j/\(nget M nd).C j<=1099511627776/\ofZ O p nd M L j=zbo O p nd L j):=fun j hj=>by
    have h1:=(zwn ok.out hl O p nd hj).1;have h2:=pam.out j (by rw[epm.out];exact hj)
    have h3:=fit.out j hj;have h4:=(ok.out.cap _ (ajz hk.out).1 j hj).2;rw[zjr ok.out];exact⟨h1,h2.1,h2.2,h3,h4,rfl⟩
   go_wp2
   go_loopg [13,14,35] d (fun gx _ _ s35 wr=>∃ j:Nat,j<=d/\gx=d - j/\s35=.int .i64 j/\Hid (T12.Row W wr B d cb (fun i=>if i<j then zhl p nd M L O i else(nget M nd).C i))/\Hid (Fr (zew B d) w5 wr))
   case atStart=>exact⟨0,Nat.zero_le _,rfl,rfl,zee R5.out fun i _=>by rw[if_neg (Nat.not_lt_zero _)],Fr.refl _ _⟩
   case round =>
    obtain⟨j,hj,rfl,rfl,SR,FR⟩:=hrel
    by_cases hlt:j<d
    ·obtain⟨gz,oz,eD,cz2⟩:=(zsu RL5.out FR.out ne.out).adr (by omega)
     have z0:=cz2 j hlt;obtain⟨g,o,eB,hbg,cs,fs⟩:=zii SR.out (by omega)
     have s0:=cs j hlt;have f0:=fs j hlt;rw[if_neg (Nat.lt_irrefl j)] at s0;have KR:Hid (Keep W wr):=Fr.low K5.out FR.out fun i hi=>by
      obtain⟨_,o2,e2⟩:=hi;rw[eB] at e2;cases e2
      exact hbg
     have p4:=(zae (Keep.block KR.out bP.out)).e4;obtain⟨gp,op,eP,cp⟩:=(hp.out.rd.keep (kW.out.trans KR.out)).adr (by rw[epm.out];omega)
     have u0:=cp j (by rw[epm.out];exact hlt)
     obtain⟨h1,h2,h3,h4,h5,h6⟩:=rg.out j hlt;have ng:gp≠g:=by
      intro e;obtain⟨_,_,e3,c3⟩:=hp.out.rd.adr (by rw[epm.out];omega)
      rw[eP] at e3;cases e3
      have:=zbl (c3 0 (by rw[epm.out];omega))
      have h7:gp<w1.heap.size:=this;have:=kW.out.size;omega
     have ngz:gz≠g:=fun e=>ne.out gz oz (by omega) eD ⟨by omega,o,by rw[eB,e]⟩
     have nb:b≠g:=by
      have h7:=lt_of_block bP.out;omega
     have nx:=zpb SR.out eB hlt (z:=(nget M nd).C j - (ofZ O p nd M L j+p.Z j)) (by unfold I64;omega)
     have N1:Hid (T12.Row W (wr.setCell ⟨g,o+j,none⟩ (.int .i64 ((nget M nd).C j - (ofZ O p nd M L j+p.Z j)))) B d cb (fun i=>if i<j+1 then zhl p nd M L O i else(nget M nd).C i)):=zee nx fun i hi=>by
      by_cases e:i=j
      ·rw[if_pos e,if_pos (by omega),e,h6]
       rfl
      ·rw[if_neg e]
       by_cases e2:i<j
       ·rw[if_pos e2,if_pos (by omega)]
       ·rw[if_neg e2,if_neg (by omega)]
     have F1:Hid (Fr (zew B d) w5 (wr.setCell ⟨g,o+j,none⟩ (.int .i64 ((nget M nd).C j - (ofZ O p nd M L j+p.Z j))))):=FR.out.set (by left;exact⟨by omega,o,eB⟩) _
     clear nx cs fs cz2 cp;have hw1:IntKind.i64.wrap (ofZ O p nd M L j+p.Z j)=ofZ O p nd M L j+p.Z j:=by rw[IntKind.wrap_i64];omega
     have hw2:IntKind.i64.wrap ((nget M nd).C j - (ofZ O p nd M L j+p.Z j))=(nget M nd).C j - (ofZ O p nd M L j+p.Z j):=by rw[IntKind.wrap_i64];omega
     subst eD;subst eB;rw[eP,epm.out] at p4;replace eP:=Zq eP;generalize ofZ O p nd M L j=y at *;generalize p.Z j=u at *;generalize (nget M nd).C j=t at *;replace h1:=Zq h1;replace h2:=Zq h2;replace h3:=Zq h3;replace h4:=Zq h4;replace h5:=Zq h5;replace h6:=Zq h6;replace hbg:=Zq hbg;replace KR:=Zq KR.out;go_wp2_with fail
     go_region
     go_wp2;go_roundg (d - (j+1))
     case measure=>omega
     case rel=>exact⟨j+1,hlt,rfl,by go_num,N1.out.keep (Keep.refl _).drew,F1.out.keep (Keep.refl _).drew⟩
    ·obtain rfl:j=d:=by omega
     have fin:Hid (Keep w1 wr/\T12.Row w1 wr B j cb (zhl p nd M L O)):=by
      refine⟨kW.out.trans (Fr.low K5.out FR.out fun i hi=>?_),zfo (zee SR.out fun i hi=>by rw[if_pos hi]) kW.out.size⟩
      obtain⟨hd0,o2,e2⟩:=hi;exact zij SR.out hd0 e2
     go_wp2;go_ret2
     exact⟨(fun h=>by cases h),fun _=>⟨B,cb,rfl,fin.out.2⟩,fin.out.1⟩
end
end Go.Proofs.YtcogiogjpbkeaaaGreatDoor.T18
namespace Go.Proofs.YtcogiogjpbkeaaaGreatDoor.T18
open Go.RowKit Go.Sort Go.Lib V12 T13 T14 T15 T16 T17
open Go.ChangeMaps (setBlock)
theorem acz(acc:List zaa)(x:zaa){t:Nat}(ht:t<acc.length):T13.row (acc++[x]) t=T13.row acc t:=by
 unfold T13.row;rw[List.getD_eq_getElem?_getD,List.getD_eq_getElem?_getD,List.getElem?_append_left ht]
theorem zod(acc:List zaa)(x:zaa):T13.row (acc++[x]) acc.length=x:=by
 unfold T13.row;rw[List.getD_eq_getElem?_getD,List.getElem?_append_right (Nat.le_refl _),Nat.sub_self];rfl
theorem zuz(acc:List zaa)(x:zaa):zaj (T13.row (acc++[x])) (acc.length+1)=zaj (T13.row acc) acc.length++x.cells:=by
 show zaj (T13.row (acc++[x])) acc.length++(T13.row (acc++[x]) acc.length).cells=_
 rw[zod,zet (R:=T13.row acc) acc.length fun t ht=>acz acc x ht]
theorem ajj{w:World}{base:Nat}{v:Value}{acc:List zaa}(h:w.ownsRow base 26 9 v acc.length (zaj (T13.row acc) acc.length))(hp:∀ y∈acc,zah w y)(hl:acc.length<=1000):zcu w v (acc.map nm):=by
 obtain⟨B,d,rfl,h0⟩:=zan h;unfold zcu;rw[List.length_map];refine⟨B,d,T13.row acc,rfl,⟨by omega,fun hn=>?_,fun t ht=>hp _ (T16.row_mem ht)⟩,by rw[lst_row],h0⟩
 obtain⟨g,cap,e,_,_⟩:=h.form hn;simp only[Value.slice.injEq] at e;obtain⟨rfl,_,rfl⟩:=e;exact⟨g,0,rfl,fun t ht=>zcg h ht⟩
theorem zjb{w w' w2:World}{A:Option Addr}{n c:Nat}{Z:Nat->Int}(h:T12.Row w w' A n c Z)(hs:∀ b,zew A n b->w2.heap[b]?=w'.heap[b]?):T12.Row w w2 A n c Z:=by
 refine⟨⟨h.rd.small,h.rd.range,fun hn=>?_⟩,h.nil,fun hn=>?_,fun hn b o e=>(h.ty hn b o e).same (hs b ⟨hn,o,e⟩)⟩
 ·obtain⟨b,o,e,hc⟩:=h.rd.adr hn
  exact⟨b,o,e,fun j hj=>(World.cell?_of_block (hs b ⟨hn,o,e⟩)).trans (hc j hj)⟩
 ·obtain⟨b,o,e,hb,hf⟩:=h.new hn
  refine⟨b,o,e,hb,fun j hj=>?_⟩
  have h1:=hf j hj;unfold World.frozen? at h1 ⊢;simp only at h1 ⊢;rw[hs b ⟨hn,o,e⟩];exact h1
theorem zgs{w w':World}{A:Option Addr}{n c b:Nat}{Z:Nat->Int}(h:T12.Row w w' A n c Z)(hb:zew A n b):T13.Typ w' b 2:=by
 obtain⟨hn,o,e⟩:=hb;exact h.ty hn b o e
structure NM(W:World)(s5 s6 pb mb:Nat)(B:Option Addr)(d cb:Nat)(H0 H acc:List zaa)(Sp:Nat->Int)(vv:Value)(wr:World):Prop where
 mp:MV.Is wr mb (hvL H)
 bx:Boxed wr pb 24 (.slice B d cb)
 sp:T12.Row W wr B d cb Sp
 vo:wr.ownsRow s6 26 9 vv acc.length (zaj (T13.row acc) acc.length)
 rq:∀ y∈H0,Req wr s5 y
 kp:Keep W wr
 s6:s6<=wr.heap.size
structure NL(W:World)(s5 s6 pb mb:Nat)(B:Option Addr)(d:Nat):Prop where
 pb:W.heap.size<=pb/\pb<s5
 sp:∀ g,zew B d g->W.heap.size<=g/\g<s5
 mb:s5<=mb/\mb<s6
section
variable{W:World}{s5 s6 pb mb d cb:Nat}{B:Option Addr}{H0 H acc:List zaa}{Sp:Nat->Int}{vv:Value}{wr w':World}
theorem NM.keep(h:NM W s5 s6 pb mb B d cb H0 H acc Sp vv wr)(k:Keep wr w'):NM W s5 s6 pb mb B d cb H0 H acc Sp vv w' :=
 ⟨h.mp.of (Below.block k _ h.mp.lt),Keep.block k h.bx,h.sp.keep k,zal h.vo k,fun y hy=>zal (h.rq y hy) k,h.kp.trans k,Nat.le_trans h.s6 k.size⟩
theorem NM.npb(h:NM W s5 s6 pb mb B d cb H0 H acc Sp vv wr):¬zew B d pb:=fun e=>by
 have t1:=zgs h.sp e;have t2:T13.Typ wr pb 24:=⟨_,_,h.bx⟩;exact absurd (zck t1 t2) (by decide)
theorem NM.del(h:NM W s5 s6 pb mb B d cb H0 H acc Sp vv wr)(l:NL W s5 s6 pb mb B d){o:Obj}{k:Int}(ho:MV.Obj' o ((hvL H).filter fun x=>decide (x.1≠k))):NM W s5 s6 pb mb B d cb H0 (zcv H k) acc Sp vv (setBlock wr mb o):=by
 have f:Fr (·=mb) wr (setBlock wr mb o):=Fr.put (D:=(·=mb)) (Fr.refl _ wr) (by left;rfl) o
 refine⟨⟨o,MV.heap_setBlock h.mp.lt,by rw[<- agh];exact ho⟩,?_,zjb h.sp fun b hb=>f.block b (zgs h.sp hb).lt fun e=>?_,zao h.vo fun g hg=>f.block g (h.vo.lt g hg).2 fun e=>?_,fun y hy=>zao (h.rq y hy) fun g hg=>f.block g (zcn (h.rq y hy) hg).lt fun e=>?_,Fr.low h.kp f fun i hi=>?_,Nat.le_trans h.s6 f.size⟩
 ·exact(f.block pb h.bx.lt fun e=>by have:=l.pb;have:=l.mb;omega).trans h.bx
 ·have:=l.sp b hb;have:=l.mb;omega
 ·have:=(h.vo.lt g hg).1;have:=l.mb;omega
 ·exact zly h.mp (zcn (h.rq y hy) hg) e.symm
 ·have:=l.mb;have:=l.pb;omega
theorem NM.take(h:NM W s5 s6 pb mb B d cb H0 H acc Sp vv wr)(l:NL W s5 s6 pb mb B d){S':Nat->Int}(hS:T12.Row W w' B d cb S')(f:Fr (zew B d) wr w'):NM W s5 s6 pb mb B d cb H0 H acc S' vv w':=by
 have nr:∀ {n z base:Nat} {T:TypeId} {u:Value} {xs:List Value},wr.ownsRow base T z u n xs->s5<=base->w'.ownsRow base T z u n xs:=fun {n z base T u xs} hr hb=>zao hr fun g hg=>f.block g (hr.lt g hg).2 fun e=>by
  have:=(hr.lt g hg).1;have:=l.sp g e;omega
 refine⟨h.mp.of (f.block _ h.mp.lt fun e=>?_),(f.block pb h.bx.lt h.npb).trans h.bx,hS,nr h.vo (by have:=l.mb;omega),fun y hy=>nr (h.rq y hy) (Nat.le_refl _),Fr.low h.kp f fun i hi=>(l.sp i hi).1,Nat.le_trans h.s6 f.size⟩
 have:=l.sp _ e;have:=l.mb;omega
theorem NM.more(h:NM W s5 s6 pb mb B d cb H0 H acc Sp vv wr)(l:NL W s5 s6 pb mb B d){x:zaa}{v2:Value}(hr:w'.ownsRow s6 26 9 v2 (acc.length+1) (zaj (T13.row acc) acc.length++x.cells))(hg:wr.grownBy w' vv.ownBlock):NM W s5 s6 pb mb B d cb H0 H (acc++[x]) Sp v2 w':=by
 have f:Fr (fun i=>vv.ownBlock=some i) wr w':=Fr.grown (D:=fun i=>vv.ownBlock=some i) hg fun _ e=>Or.inl e
 have lo6:∀ i,vv.ownBlock=some i->s6<=i:=fun i e=>(h.vo.lt i e).1
 refine⟨h.mp.of (f.block _ h.mp.lt fun e=>?_),(f.block pb h.bx.lt fun e=>?_).trans h.bx,zjb h.sp fun b hb=>f.block b (zgs h.sp hb).lt fun e=>?_,?_,fun y hy=>zao (h.rq y hy) fun g hg2=>f.block g (zcn (h.rq y hy) hg2).lt fun e=>?_,Fr.low h.kp f fun i hi=>?_,Nat.le_trans h.s6 f.size⟩
 ·have:=lo6 _ e;have:=l.mb;omega
 ·have:=lo6 _ e;have:=l.mb;have:=l.pb;omega
 ·have:=lo6 _ e;have:=l.mb;have:=l.sp b hb;omega
 ·rw[show(acc++[x]).length=acc.length+1 by rw[List.length_append];rfl,zuz]
  exact hr
 ·exact absurd (zck (zcn (h.rq y hy) hg2) (zcn h.vo e)) (by decide)
 ·have:=lo6 i hi;have:=l.mb;have:=l.pb;omega
end
theorem abj{w:World}{s5 d:Nat}{H acc rest R:List zaa}{Sp:Nat->Int}{x:zaa}(hq:∀ y∈H,Req w s5 y/\zcy y/\y.m=d/\∀ i,i<d->Amt (y.Z i))(h:zda d H Sp acc (x :: rest)=R):
  ∃ (rA:Option Addr) (m rc:Nat) (Zr Sp':Nat->Int),(MV.lookV (hvL H) x.k).getD (.slice none 0 0)=.slice rA m rc/\Rd w rA m Zr/\m<=d/\(∀ i,i<m->0<=Zr i/\Zr i<=1099511627776)/\(∀ g o,0<m->rA=some ⟨g,o,none⟩->s5<=g/\T13.Typ w g 2)/\(∀ i,i<d->(if i<m then Sp i - Zr i else Sp i)=Sp' i) /\
   ((∀ i,i<m->Zr i<=Sp i)->zda d (zcv H x.k) Sp' acc rest=R)/\(∀ i,i<m->Sp i<Zr i->zda d (zcv H x.k) Sp (acc++[x]) rest=R):=by
 rw[agv];cases hf:zcz H x.k with
 | none =>
   refine⟨none,0,0,fun _=>0,Sp,rfl,⟨by omega,fun _ h=>absurd h (Nat.not_lt_zero _),fun h=>absurd h (Nat.lt_irrefl _)⟩,Nat.zero_le _,fun _ h=>absurd h (Nat.not_lt_zero _),fun _ _ h=>absurd h (Nat.lt_irrefl _),fun i _=>by rw[if_neg (Nat.not_lt_zero _)],fun _=>?_,fun _ h=>absurd h (Nat.not_lt_zero _)⟩
   rw[<- zgp hf];exact h
 | some y =>
   obtain⟨hy,_⟩:=zki hf;obtain⟨h1,h2,h3,h4⟩:=hq y hy;refine⟨y.A,y.m,y.c,y.Z,fun i=>Sp i - y.Z i,rfl,(h1.is h2).rd,Nat.le_of_eq h3,fun i hi=>h4 i (by omega),fun g o hm e=>?_,fun i hi=>by rw[if_pos (by omega)],fun hr=>?_,fun i hi hlt=>?_⟩
   ·have hb:(Value.slice y.A y.m y.c).ownBlock=some g:=by rw[e];rfl
    exact⟨(World.ownsRow.lt h1 g hb).1,zcn h1 hb⟩
   ·rw[<- zfc hf (acp fun i hi=>hr i (by omega))]
    exact h
   ·rw[<- zfd hf (ahu (i:=i) (by omega) hlt)]
    exact h
def amc(f:Bool)(l:List zaa)(w1:World)(e:Ending)(w':World):Prop:=(f=false->e=.returned (.tuple #[.slice none 0 0,.bool false]))/\(f=true->∃ v,e=.returned (.tuple #[v,.bool true])/\zcu w' v l)/\Keep w1 w'
section
variable{CS:zbn}{w w1:World}{d q:Nat}{M:List NV}{L:List zaa}{X:Nat->Prop}
set_option maxRecDepth 100000 in
set_option maxHeartbeats 32000000 in
theorem zto(C:Con CS)(NW:zof CS)(F:zqz CS)(h:CS w d q M L X w1)(hg:zbk w1)(p:zaa)(hp:zah w1 p)(nd:Int)(hd:I64 nd)(A:Option Addr)(n c:Nat)(P:Nat->zaa)(hR:zai w1 A n P)(nilA:A=none->n=0/\c=0)(hn:n<=100)(h64:d<=64)(pm:p.m<=1000)(hM:M.length<=100)(hl:L.length<=100):
  Calls Tryz.prog 33 #[.pointer (some ⟨q,0,none⟩),p.val,.int .i64 nd,.slice A n c] w1 (amc (zcc (zci (keys (T13.lst P n))) p nd M L d) (zda d (zfh nd L) (zhl p nd M L (zci (keys (T13.lst P n)))) [] ((T13.lst P n).map nm)) w1):=by
 have mixed:Tryz.prog.follows .mixedOrders=true:=by kernel_rfl
 have ok:=Zq (C.ok h);obtain⟨I,hI⟩:=Zn (keys (T13.lst P n));have hIl:I.length=n:=by rw[hI,zdf,T13.lst_len]
 rw[<- hI];obtain⟨W,hW⟩:=Zn (w1.alloc (.cells (zac p) 26));have kW:Hid (Keep w1 W):=by rw[hW];exact Keep.one _ _
 have bP:Hid (W.heap[w1.heap.size]?=some (.cells (zac p) 26 (0,0))):=by rw[hW];exact heap_alloc_new _ _
 obtain⟨b,hb⟩:=Zn (w1.heap.size);rw[<- hb] at bP;obtain⟨f,hf⟩:=Zn (zcc (zci I) p nd M L d);obtain⟨C0,hC0⟩:=Zn (zhl p nd M L (zci I));have cI:Hid (∀ W',Keep W W'->Calls Tryz.prog 23 #[.slice A n c] W' fun e w'=>∃ Ai ci,e=.returned (.slice Ai n ci)/\zcq w' Ai n (zci I)/\Keep W' w'):=fun W' k=>by
  refine(zqy A n c P W' (hR.keep (kW.out.trans k)) (by omega)).mono ?_
  rintro e w' ⟨v,rfl,hv,k2⟩;rw[<- hI] at hv;obtain⟨Ai,ci,rfl,hS⟩:=zmt hv;rw[hIl] at hS ⊢;exact⟨Ai,ci,rfl,hS,k2⟩
 have cL:Hid (∀ W' Ai ci,Keep W W'->zcq W' Ai n (zci I)->Calls Tryz.prog 68 #[.pointer (some ⟨q,0,none⟩),p.val,.int .i64 nd,.slice Ai n ci] W' fun e w'=>∃ (vA:Option Addr) (vn vc:Nat),e=.returned (.tuple #[.slice vA vn vc,.bool f])/\((f=true->∃ B cb,Value.slice vA vn vc=.slice B d cb/\T12.Row W w' B d cb C0)/\(f=false->Value.slice vA vn vc=.slice none 0 0))/\Keep W' w'):=fun W' Ai ci k hS=>by
  refine(aex C NW F (C.keep h (kW.out.trans k)) (hg.keep (kW.out.trans k)) p (hp.keep (kW.out.trans k)) nd hd Ai n ci (zci I) hS (by omega) h64 pm hM hl).mono ?_
  rintro e w' ⟨h1,h2,k2⟩;rw[<- hf,<- hC0] at h2;rw[<- hf] at h1;cases f with
  | false=>exact⟨none,0,0,h1 rfl,⟨(fun h=>by cases h),fun _=>rfl⟩,k2⟩
  | true =>
    obtain⟨B,cb,e,r⟩:=h2 rfl;exact⟨B,d,cb,e,⟨fun _=>⟨B,cb,rfl,zfo r k.size⟩,(fun h=>by cases h)⟩,k2⟩
 have cH:Hid (∀ W',Keep W W'->Calls Tryz.prog 70 #[.pointer (some ⟨q,0,none⟩),.int .i64 nd] W' fun e w'=>∃ b H,e=.returned (.map (some b))/\W'.heap.size<=b/\MV.Is w' b (hvL H)/\H.map nm=zfh nd L/\(∀ y∈H,Req w' W'.heap.size y/\zcy y)/\Keep W' w'):=fun W' k=>aet C (C.keep h (kW.out.trans k)) nd hd hl
 have fin:Hid (∀ (wz:World) (pb:Nat) (v:Value),Boxed wz pb 24 (.slice none 0 0)->W.heap.size<=pb->Keep W wz->(f=true->∃ B cb,v=.slice B d cb/\T12.Row W wz B d cb C0)->Boxed (wz.setCell ⟨pb,0,none⟩ v) pb 24 v/\Keep W (wz.setCell ⟨pb,0,none⟩ v)/\(f=true->∃ B cb,v=.slice B d cb/\T12.Row W (wz.setCell ⟨pb,0,none⟩ v) B d cb C0)):=fun wz pb v bx sb k hv=>by
  refine⟨bx.set _,Keep.set k (p:=⟨pb,0,none⟩) sb _,fun ht=>?_⟩
  obtain⟨B,cb,e,r⟩:=hv ht;refine⟨B,cb,e,zjb r fun g hg2=>Below.heap_setCell _ _ _ _ fun e2=>?_⟩
  have t1:=zgs r hg2;have t2:T13.Typ wz pb 24:=⟨_,_,bx⟩;rw[show g=pb from e2] at t1
  exact absurd (zck t1 t2) (by decide)
 replace h:=Zq h;replace hg:=Zq hg;replace hp:=Zq hp;replace hR:=Zq hR;replace hI:=Zq hI;replace hIl:=Zq hIl;replace nilA:=Zq nilA;replace hf:=Zq hf;replace hC0:=Zq hC0;rw[<- hf.out,<- hC0.out];have hmf:=@hmf;unfold zac at hW;unfold zaa.val at cL;unfold zaa.val
 go_enter Tryz.func33,Tryz.ntmps33
 go_upto_region 1 with fail
 rw[<- hW,<- hb];replace hW:=Zq hW;replace hb:=Zq hb
 go_step3
 go_upto_region 1 with fail
 go_cut [10,11] from 20 to 28 (fun s10 s11 wx=>∃ (pb:Nat) (v:Value),s10=.pointer (some ⟨pb,0,none⟩)/\s11=.bool f/\Hid (W.heap.size<=pb)/\Hid (Boxed wx pb 24 v)/\Hid (Keep W wx)/\Hid (f=true->∃ B cb,v=.slice B d cb/\T12.Row W wx B d cb C0))
 case first =>
  have HELD:∀ Wz,Keep W Wz->(Wz.cell? ⟨b,0,none⟩=some (.int .i64 p.k)/\Wz.cell? ⟨b,1,none⟩=some (.int .i64 p.p)/\Wz.cell? ⟨b,2,none⟩=some (.bool p.f)/\Wz.cell? ⟨b,3,none⟩=some (.int .i64 p.g)/\Wz.cell? ⟨b,4,none⟩=some (.slice p.A p.m p.c)/\Wz.cell? ⟨b,5,none⟩=some (.int .i64 p.a)/\Wz.cell? ⟨b,6,none⟩=some (.int .i64 p.h)/\Wz.cell? ⟨b,7,none⟩=some (.int .i64 p.d)/\Wz.cell? ⟨b,8,none⟩=some (.int .i64 p.t)):=fun Wz KK=>⟨(zae (Keep.block KK bP.out)).e0,(zae (Keep.block KK bP.out)).e1,(zae (Keep.block KK bP.out)).e2,(zae (Keep.block KK bP.out)).e3,(zae (Keep.block KK bP.out)).e4,(zae (Keep.block KK bP.out)).e5,(zae (Keep.block KK bP.out)).e6,(zae (Keep.block KK bP.out)).e7,(zae (Keep.block KK bP.out)).e8⟩
  refine wp_region_held_drew (S:=fun w'=>w'.cell? ⟨b,0,none⟩=some (.int .i64 p.k)/\w'.cell? ⟨b,1,none⟩=some (.int .i64 p.p)/\w'.cell? ⟨b,2,none⟩=some (.bool p.f)/\w'.cell? ⟨b,3,none⟩=some (.int .i64 p.g)/\w'.cell? ⟨b,4,none⟩=some (.slice p.A p.m p.c)/\w'.cell? ⟨b,5,none⟩=some (.int .i64 p.a)/\w'.cell? ⟨b,6,none⟩=some (.int .i64 p.h)/\w'.cell? ⟨b,7,none⟩=some (.int .i64 p.d)/\w'.cell? ⟨b,8,none⟩=some (.int .i64 p.t)) (by kernel_rfl) ?_ (fun hHeld=>?_)
  ·exact HELD _ (by repeat (with_reducible first | exact Keep.refl W | apply Keep.alloc | apply Keep.drew | apply Keep.drewN))
  obtain⟨wd,hwd⟩:=Zn (W.drew);have Kd:Hid (Keep W wd):=by rw[hwd];exact(Keep.refl W).drew
  rw[<- hwd] at hHeld ⊢;replace hwd:=Zq hwd;refine Zt 0 (.pointer (some ⟨q,0,none⟩)) hHeld ?_
  simp only[Act.put,Zp];refine Zt 1 (.agg #[.int .i64 p.k,.int .i64 p.p,.bool p.f,.int .i64 p.g,.slice p.A p.m p.c,.int .i64 p.a,.int .i64 p.h,.int .i64 p.d,.int .i64 p.t]) hHeld ?_
  simp only[Act.put,Zp];refine Zt 2 (.int .i64 nd) hHeld ?_
  simp only[Act.put,Zp];refine Zt 3 (.slice A n c) hHeld ?_
  simp only[Act.put,Zp];refine wpAnyH_ready (rs:=[4,9]) (by kernel_rfl) (by simp) ?_
  refine AllReadyH.cons rfl (fun K hK=>?_) (AllReadyH.cons rfl (fun K hK=>?_) AllReadyH.nil)
  ·simp only[Zp]
   rw[if_pos (by rfl)]
   go_simp
   refine(cI.out _ Kd.out).mono ?_;rintro e w2 ⟨Ai,ci,rfl,SI,k2⟩;have K2:Hid (Keep W w2):=Keep.trans Kd.out k2;replace SI:=Zq SI;replace k2:=Zq k2;go_wp2_with fail;refine hK.out _ _ ?_ (fun hHeld=>?_)
   ·exact HELD _ K2.out
   clear hK K;try simp only[Act.put,Zp]
   refine wpAnyH_ready (rs:=[5,9]) (by kernel_rfl) (by simp) ?_
   refine AllReadyH.cons rfl (fun K hK=>?_) (AllReadyH.cons rfl (fun K hK=>?_) AllReadyH.nil)
   ·simp only[Zp]
    rw[if_pos (by rfl)]
    go_simp
    refine(cL.out w2 Ai ci K2.out (SI.out)).mono ?_;rintro e w4 ⟨vA,vn,vc,rfl,hv,k4⟩;have K4:Hid (Keep W w4):=K2.out.trans k4;replace hv:=Zq hv;replace k4:=Zq k4;go_wp2_with fail;refine hK.out _ _ ?_ (fun hHeld=>?_)
    ·exact HELD _ K4.out
    clear hK K;try simp only[Act.put,Zp]
    refine Zt 6 (.tuple #[.slice vA vn vc,.bool f]) hHeld ?_
    simp only[Act.put,Zp];refine Zt 7 (.slice vA vn vc) hHeld ?_
    simp only[Act.put,Zp];refine Zt 8 (.bool f) hHeld ?_
    simp only[Act.put,Zp];refine wpAnyH_ready (rs:=[9]) (by kernel_rfl) (by simp) ?_
    refine AllReadyH.cons rfl (fun K hK=>?_) AllReadyH.nil
    simp only[Zp];rw[if_pos (by rfl)]
    obtain⟨w5,hw5⟩:∃ w',w'=w4.alloc (.cells #[.slice none 0 0] 24):=⟨_,rfl⟩;have K5:Hid (Keep W w5):=by rw[hw5];exact Keep.alloc K4.out _
    have BX5:Hid (Boxed w5 w4.heap.size 24 (.slice none 0 0)):=by rw[hw5];exact Boxed.new _ _ _
    have hv5:Hid (f=true->∃ B cb,Value.slice vA vn vc=.slice B d cb/\T12.Row W w5 B d cb C0):=fun h=>by
     obtain⟨B,cb,e,r⟩:=hv.out.1 h;exact⟨B,cb,e,r.keep (by rw[hw5];exact Keep.one _ _)⟩
    obtain⟨pb,hpb⟩:=Zn (w4.heap.size);have sb:Hid (W.heap.size<=pb):=by rw[hpb];exact K4.out.size
    rw[<- hpb] at BX5
    go_simp
    rw[<- hw5,<- hpb];replace hw5:=Zq hw5;replace hpb:=Zq hpb;refine hK.out _ _ ?_ (fun hHeld=>?_)
    ·exact HELD _ K5.out
    clear hK K;try simp only[Act.put,Zp]
    refine wpAnyH_ready (rs:=[10]) (by kernel_rfl) (by simp) ?_
    refine AllReadyH.cons rfl (fun K hK=>?_) AllReadyH.nil
    simp only[Zp];rw[if_pos (by rfl)]
    have y0:=BX5.out.cell;have yf:=BX5.out.frozen;obtain⟨z1,z2,z3⟩:=fin.out w5 pb (.slice vA vn vc) BX5.out sb.out K5.out (fun h=>hv5.out h)
    replace z1:=Zq z1;replace z2:=Zq z2;replace z3:=Zq z3
    go_simp
    refine hK.out _ _ ?_ (fun hHeld=>?_)
    ·exact HELD _ z2.out
    clear hK K y0 yf;try simp only[Act.put,Zp]
    refine Zt 11 (.bool f) hHeld ?_
    simp only[Act.put,Zp];refine wpAnyH_done (by kernel_rfl) ?_ _
    go_wp2_with fail;go_meet
    case rel=>exact⟨pb,_,rfl,rfl,sb,z1,z2,z3⟩
   ·simp only[Zp]
    rw[if_pos (by rfl)]
    obtain⟨w3,hw3⟩:∃ w',w'=w2.alloc (.cells #[.slice none 0 0] 24):=⟨_,rfl⟩;have K3:Hid (Keep W w3):=by rw[hw3];exact Keep.alloc K2.out _
    have BX3:Hid (Boxed w3 w2.heap.size 24 (.slice none 0 0)):=by rw[hw3];exact Boxed.new _ _ _
    have k23:Hid (Keep w2 w3):=by rw[hw3];exact Keep.one _ _
    obtain⟨pb,hpb⟩:=Zn (w2.heap.size);have sb:Hid (W.heap.size<=pb):=by rw[hpb];exact K2.out.size
    rw[<- hpb] at BX3
    go_simp
    rw[<- hw3,<- hpb];replace hw3:=Zq hw3;replace hpb:=Zq hpb;refine hK.out _ _ ?_ (fun hHeld=>?_)
    ·exact HELD _ K3.out
    clear hK K;try simp only[Act.put,Zp]
    refine wpAnyH_ready (rs:=[5]) (by kernel_rfl) (by simp) ?_
    refine AllReadyH.cons rfl (fun K hK=>?_) AllReadyH.nil
    simp only[Zp];rw[if_pos (by rfl)]
    go_simp
    refine(cL.out w3 Ai ci K3.out (SI.out.keep k23.out)).mono ?_;rintro e w4 ⟨vA,vn,vc,rfl,hv,k4⟩;have K4:Hid (Keep W w4):=K3.out.trans k4;replace hv:=Zq hv;have BX4:Hid (Boxed w4 pb 24 (.slice none 0 0)):=Keep.block k4 BX3.out;replace k4:=Zq k4;go_wp2_with fail;refine hK.out _ _ ?_ (fun hHeld=>?_)
    ·exact HELD _ K4.out
    clear hK K;try simp only[Act.put,Zp]
    refine Zt 6 (.tuple #[.slice vA vn vc,.bool f]) hHeld ?_
    simp only[Act.put,Zp];refine Zt 7 (.slice vA vn vc) hHeld ?_
    simp only[Act.put,Zp];refine Zt 8 (.bool f) hHeld ?_
    simp only[Act.put,Zp];refine wpAnyH_ready (rs:=[10]) (by kernel_rfl) (by simp) ?_
    refine AllReadyH.cons rfl (fun K hK=>?_) AllReadyH.nil
    simp only[Zp];rw[if_pos (by rfl)]
    have y0:=BX4.out.cell;have yf:=BX4.out.frozen;obtain⟨z1,z2,z3⟩:=fin.out w4 pb (.slice vA vn vc) BX4.out sb.out K4.out (fun h=>hv.out.1 h)
    replace z1:=Zq z1;replace z2:=Zq z2;replace z3:=Zq z3
    go_simp
    refine hK.out _ _ ?_ (fun hHeld=>?_)
    ·exact HELD _ z2.out
    clear hK K y0 yf;try simp only[Act.put,Zp]
    refine Zt 11 (.bool f) hHeld ?_
    simp only[Act.put,Zp];refine wpAnyH_done (by kernel_rfl) ?_ _
    go_wp2_with fail;go_meet
    case rel=>exact⟨pb,_,rfl,rfl,sb,z1,z2,z3⟩
  ·simp only[Zp]
   rw[if_pos (by rfl)]
   obtain⟨w1a,hw1a⟩:∃ w',w'=wd.alloc (.cells #[.slice none 0 0] 24):=⟨_,rfl⟩;have K1a:Hid (Keep W w1a):=by rw[hw1a];exact Keep.alloc Kd.out _
   have BX:Hid (Boxed w1a wd.heap.size 24 (.slice none 0 0)):=by rw[hw1a];exact Boxed.new _ _ _
   obtain⟨pb,hpb⟩:=Zn (wd.heap.size);have sb:Hid (W.heap.size<=pb):=by rw[hpb];exact Kd.out.size
   rw[<- hpb] at BX
   go_simp
   rw[<- hw1a,<- hpb];replace hw1a:=Zq hw1a;replace hpb:=Zq hpb;refine hK.out _ _ ?_ (fun hHeld=>?_)
   ·exact HELD _ K1a.out
   clear hK K;try simp only[Act.put,Zp]
   refine wpAnyH_ready (rs:=[4]) (by kernel_rfl) (by simp) ?_
   refine AllReadyH.cons rfl (fun K hK=>?_) AllReadyH.nil
   simp only[Zp];rw[if_pos (by rfl)]
   go_simp
   refine(cI.out _ K1a.out).mono ?_;rintro e w2 ⟨Ai,ci,rfl,SI,k2⟩;have K2:Hid (Keep W w2):=Keep.trans K1a.out k2;replace SI:=Zq SI;have BX2:Hid (Boxed w2 pb 24 (.slice none 0 0)):=Keep.block k2 BX.out;replace k2:=Zq k2;go_wp2_with fail;refine hK.out _ _ ?_ (fun hHeld=>?_)
   ·exact HELD _ K2.out
   clear hK K;try simp only[Act.put,Zp]
   refine wpAnyH_ready (rs:=[5]) (by kernel_rfl) (by simp) ?_
   refine AllReadyH.cons rfl (fun K hK=>?_) AllReadyH.nil
   simp only[Zp];rw[if_pos (by rfl)]
   go_simp
   refine(cL.out w2 Ai ci K2.out (SI.out)).mono ?_;rintro e w4 ⟨vA,vn,vc,rfl,hv,k4⟩;have K4:Hid (Keep W w4):=K2.out.trans k4;replace hv:=Zq hv;have BX4:Hid (Boxed w4 pb 24 (.slice none 0 0)):=Keep.block k4 BX2.out;replace k4:=Zq k4;go_wp2_with fail;refine hK.out _ _ ?_ (fun hHeld=>?_)
   ·exact HELD _ K4.out
   clear hK K;try simp only[Act.put,Zp]
   refine Zt 6 (.tuple #[.slice vA vn vc,.bool f]) hHeld ?_
   simp only[Act.put,Zp];refine Zt 7 (.slice vA vn vc) hHeld ?_
   simp only[Act.put,Zp];refine Zt 8 (.bool f) hHeld ?_
   simp only[Act.put,Zp];refine wpAnyH_ready (rs:=[10]) (by kernel_rfl) (by simp) ?_
   refine AllReadyH.cons rfl (fun K hK=>?_) AllReadyH.nil
   simp only[Zp];rw[if_pos (by rfl)]
   have y0:=BX4.out.cell;have yf:=BX4.out.frozen;obtain⟨z1,z2,z3⟩:=fin.out w4 pb (.slice vA vn vc) BX4.out sb.out K4.out (fun h=>hv.out.1 h)
   replace z1:=Zq z1;replace z2:=Zq z2;replace z3:=Zq z3
   go_simp
   refine hK.out _ _ ?_ (fun hHeld=>?_)
   ·exact HELD _ z2.out
   clear hK K y0 yf;try simp only[Act.put,Zp]
   refine Zt 11 (.bool f) hHeld ?_
   simp only[Act.put,Zp];refine wpAnyH_done (by kernel_rfl) ?_ _
   go_wp2_with fail;go_meet
   case rel=>exact⟨pb,_,rfl,rfl,sb,z1,z2,z3⟩
 case rest =>
  obtain⟨pb,v,rfl,rfl,sb,BX,KC,HV⟩:=hcut;clear cI cL fin;cases f with
  | false =>
    go_wp2
    (try rw[Exit.noGoto_ret])
    go_ret2
    exact⟨fun _=>rfl,(fun h=>by cases h),kW.out.trans KC.out⟩
  | true =>
    obtain⟨B,cb,rfl,RB⟩:=HV.out rfl;have SP:Hid (T12.Row W wc B d cb C0):=RB;have cH2:=Zq (cH.out wc KC.out);clear HV RB cH;go_wp2_with fail;refine cH2.out.mono ?_;rintro e w6 ⟨mb,H0,rfl,hmb,IM,eH,RQ,k6⟩;obtain⟨s5,hs5⟩:=Zn (wc.heap.size);obtain⟨s6,hs6⟩:=Zn (w6.heap.size);rw[<- hs5] at hmb RQ;have LL:Hid (NL W s5 s6 pb mb B d):=by
     refine⟨⟨sb.out,by rw[hs5];exact BX.out.lt⟩,fun g hg=>?_,⟨hmb,by rw[hs6];exact IM.lt⟩⟩
     have hlt:=(zgs SP.out hg).lt;obtain⟨hd0,o,e⟩:=hg;exact⟨zij SP.out hd0 e,by rw[hs5];exact hlt⟩
    have N0:Hid (NM W s5 s6 pb mb B d cb H0 H0 [] C0 (.slice none 0 0) w6):=⟨IM,Keep.block k6 BX.out,SP.out.keep k6,World.ownsRow_nil _ _ _ _,fun y hy=>(RQ y hy).1,KC.out.trans k6,Nat.le_of_eq hs6⟩
    have HQ:Hid (∀ y∈H0,zcy y/\y.m=d/\∀ i,i<d->Amt (y.Z i)):=fun y hy=>by
     have h1:nm y∈zfh nd L:=by rw[<- eH];exact List.mem_map_of_mem hy
     have h2:=ok.out.req (nm y) (List.mem_filter.1 h1).1;exact⟨(RQ y hy).2,h2.1,h2.2⟩
    obtain⟨R,hRR⟩:=Zn (zda d H0 C0 [] (T13.lst P n));have eR:Hid (zda d (zfh nd L) C0 [] ((T13.lst P n).map nm)=R.map nm):=by
     show _=_
     rw[hRR,zlz,eH];rfl
    rw[eR.out];have fc:=enters_of Tryz.func69 (by kernel_rfl) rfl
    obtain⟨i0,hi0,hz0,hz1,hz2⟩:=info_parts Tryz.infoPod;replace hs5:=Zq hs5;replace hs6:=Zq hs6;replace hRR:=Zq hRR;replace eH:=Zq eH;replace RQ:=Zq RQ;replace IM:=Zq IM;replace hmb:=Zq hmb;replace k6:=Zq k6;clear BX SP cH2;generalize hwo:w6=wo at *;clear hwo;go_wp2
    go_step3
    go_wp2
    go_loopg [13,16,17,18,19,37] n (fun gx s13 _ _ _ _ s37 wr=>∃ (j:Nat) (H acc:List zaa) (Sp:Nat->Int) (VB:Option Addr) (vc:Nat),j<=n/\gx=n - j/\s37=.int .i64 j/\s13=.slice VB acc.length vc/\Hid (NM W s5 s6 pb mb B d cb H0 H acc Sp (.slice VB acc.length vc) wr)/\Hid (∀ y∈H,y∈H0)/\Hid (∀ y∈acc,∃ t,t<n/\y=P t)/\Hid (zda d H Sp acc ((T13.lst P n).drop j)=R)/\Hid (acc.length<=j))
    case atStart=>exact⟨0,H0,[],C0,none,0,Nat.zero_le _,rfl,rfl,rfl,N0,fun y h=>h,fun y h=>absurd h List.not_mem_nil,hRR.out.symm,Nat.le_refl _⟩
    case round =>
     clear N0;obtain⟨j,H,acc,Sp,VB,vc,hj,rfl,rfl,rfl,NR,HS,AP,EQ,AJ⟩:=hrel
     by_cases hlt:j<n
     ·have R2:=hR.out.keep (kW.out.trans NR.out.kp)
      obtain⟨b2,off,hA,ca⟩:=R2.adr (by omega)
      subst hA;have q1:=zar b2 off n c j hlt;have V:=ca j hlt;have Xi:=Zq (hR.out.is j hlt);clear ca;replace R2:=Zq R2;obtain⟨x,hx⟩:=Zn (P j);obtain⟨rest,hrest⟩:=Zn ((T13.lst P n).drop (j+1));have ED:(T13.lst P n).drop j=x :: rest:=by
       rw[List.drop_eq_getElem_cons (by rw[T13.lst_len];exact hlt),hrest,hx]
       congr 1
       have h1:=zaw (Q:=P) hlt;rw[List.getElem?_eq_getElem (by rw[T13.lst_len];exact hlt)] at h1
       exact Option.some.inj h1
      have EQ2:=EQ.out;rw[ED] at EQ2;rw[<- hx] at V Xi;have x0:=V.e0;have x1:=V.e1;have x2:=V.e2;have x3:=V.e3;have x4:=V.e4;have x5:=V.e5;have x6:=V.e6;have x7:=V.e7;have x8:=V.e8;clear V EQ;obtain⟨W7,hW7⟩:∃ w',w'=wr.alloc (.cells (zac x) 26):=⟨_,rfl⟩;have k7:Keep wr W7:=by rw[hW7];exact Keep.one _ _
      have N7:=Zq (NR.out.keep k7);obtain⟨bq,hbq⟩:=Zn (wr.heap.size);have Y:Hid (W7.heap[bq]?=some (.cells (zac x) 26 (0,0))):=by rw[hW7,hbq];exact heap_alloc_new _ _
      obtain⟨rA,m,rc,Zr,Sp',hv1,hrd,hmd,hzq,hrb,hsp,hroom,htake⟩:=abj (fun y hy=>⟨N7.out.rq y (HS.out y hy),HQ.out y (HS.out y hy)⟩) EQ2
      have lk:=MV.look1 Tryz.underlying112 Tryz.underlying3 Tryz.zsl18 N7.out.mp x.k;rw[hv1] at lk;obtain⟨o,ho,hu⟩:=MV.del Tryz.underlying112 Tryz.underlying3 N7.out.mp x.k;obtain⟨W8,hW8⟩:∃ w',w'=setBlock W7 mb o:=⟨_,rfl⟩;have hu2:=fun ty=>hu W7 ty rfl
      rw[<- hW8] at hu2;have N8:Hid (NM W s5 s6 pb mb B d cb H0 (zcv H x.k) acc Sp (.slice VB acc.length vc) W8):=by rw[hW8];exact N7.out.del LL.out ho
      have f8:Fr (·=mb) W7 W8:=by rw[hW8];exact Fr.put (D:=(·=mb)) (Fr.refl _ W7) (by left;rfl) o
      have Y8:Hid (W8.heap[bq]?=some (.cells (zac x) 26 (0,0))):=(f8.block bq (lt_of_block Y.out) fun e=>by
       have h1:=LL.out.mb.2;have h2:=NR.out.s6
       omega).trans Y.out
      have rd8:Hid (Rd W8 rA m Zr):=⟨hrd.small,hrd.range,fun hm=>by
       obtain⟨g,o2,e,hc⟩:=hrd.adr hm
       exact⟨g,o2,e,fun i hi=>f8.cell (hc i hi) fun e2=>zly N7.out.mp (hrb g o2 hm e).2 e2.symm⟩⟩
      have hne:Hid (∀ g o,0<m->rA=some ⟨g,o,none⟩->¬zew B d g):=fun g o2 hm e hb=>by
       have h1:=(hrb g o2 hm e).1;have h2:=(LL.out.sp g hb).2;omega
      have HS8:Hid (∀ y∈zcv H x.k,y∈H0):=fun y hy=>HS.out y (List.mem_filter.1 hy).1
      rw[hW7] at lk hu2;unfold zac at lk hu2;replace hrd:=Zq hrd;replace hzq:=Zq hzq;replace hrb:=Zq hrb;replace hsp:=Zq hsp;replace hroom:=Zq hroom;replace htake:=Zq htake;replace ho:=Zq ho;replace hu:=Zq hu;replace hv1:=Zq hv1;replace EQ2:=Zq EQ2;replace ED:=Zq ED;replace hx:=Zq hx;replace hrest:=Zq hrest;replace hW7:=Zq hW7;replace hW8:=Zq hW8;replace k7:=Zq k7;replace f8:=Zq f8;replace E8:=Zq hu2;clear hu2 N7 Y NR;go_wp2_with (at_delete;refine MV.wpl_delete rfl (.tmp 45) (.tmp 47) 112 3 rfl rfl rfl (fun ty=>E8.out ty) ?_)
      rw[<- hbq];replace hbq:=Zq hbq;clear lk x0 x1 x2 x3 x4 x5 x6 x7 x8 q1 E8
      go_loopg [13,18,19,50] m (fun gy s13 _ _ s50 wi=>∃ i:Nat,i<=m/\gy=m - i/\s50=.int .i64 i/\s13=.slice VB acc.length vc/\wi=W8/\Hid (∀ t,t<i->Zr t<=Sp t))
      case atStart=>exact⟨0,Nat.zero_le _,rfl,rfl,rfl,rfl,fun t h=>absurd h (Nat.not_lt_zero _)⟩
      case round =>
       obtain⟨i,hi,rfl,rfl,rfl,hwi,LE⟩:=hrel;subst hwi
       by_cases hil:i<m
       ·have hid:i<d:=by omega
        obtain⟨gz,oz,eA,cz⟩:=rd8.out.adr (by omega)
        have z0:=cz i hil;obtain⟨g,o2,eB,_,cs,_⟩:=zii N8.out.sp (by omega)
        have s0:=cs i hid;have bx:=N8.out.bx.cell;clear cz cs;rw[eB] at bx;subst eA;replace eB:=Zq eB;have hcap:Hid (i<m):=hil
        by_cases hgt:Sp i<Zr i
        ·have hl2:acc.length<=1000:=by have:=AJ.out;omega
         have nx:=Zq (htake.out i hil hgt);have Y9:=zae Y8.out;have y0:=Y9.e0;have y1:=Y9.e1;have y2:=Y9.e2;have y3:=Y9.e3;have y4:=Y9.e4;have y5:=Y9.e5;have y6:=Y9.e6;have y7:=Y9.e7;have y8:=Y9.e8;clear Y9;have hs6:s6<=wr.heap.size:=N8.out.s6;have N1:Hid (∀ o:Obj,∀ i u,x.cells[i]?=some u->o=.cells #[.int .i64 x.k,.int .i64 x.p,.bool x.f,.int .i64 x.g,.slice x.A x.m x.c,.int .i64 x.a,.int .i64 x.h,.int .i64 x.d,.int .i64 x.t] 26->(wr.alloc o).cell? ((⟨wr.heap.size,0,none⟩:Addr).add i)=some u):=by
          intro o i u hu ho;subst ho;rw[WideShapes.add_plain,Nat.zero_add,World.cell?_alloc_new,<- hu,List.getElem?_toArray];rfl
         have N9:=fun o:Obj=>Zq (N8.out.keep (Keep.one wr o))
         generalize hya:Sp i=ya at *;generalize hza:Zr i=za at *;replace hya:=Zq hya;replace hza:=Zq hza;unfold zac at y0 y1 y2 y3 y4 y5 y6 y7 y8;go_wp2_with (at_builtin;refine wpList_append_own _ rfl _ _ 28 rfl s6 26 i0 _ 9 88 Tryz.underlying28 hi0 hz0 hz1 hz2 rfl (by decide) (.slice VB acc.length vc) acc.length (zaj (T13.row acc) acc.length) (by simp[Act.eval]) ((N9 _).out.vo) ⟨wr.heap.size,0,none⟩ 1 1 x.cells (by simp[Act.eval]) (by rw[zmn]) (fun i u hu=>N1.out _ i u hu rfl) (cells_one _) (by unfold maxLen;omega) (by omega) (by simp;omega) ?_;intro v2 w9 hr2 hg2 _)
         have N10:=Zq ((N9 _).out.more LL.out hr2 hg2);obtain⟨VB2,vc2,ev,_⟩:=zan hr2;subst ev;replace hr2:=Zq hr2;replace hg2:=Zq hg2;clear z0 s0 bx y0 y1 y2 y3 y4 y5 y6 y7 y8
         (try rw[Exit.noGoto_ret])
         go_roundg (n - (j+1))
         case measure=>omega
         case rel =>
          refine⟨j+1,zcv H x.k,acc++[x],Sp,VB2,vc2,hlt,rfl,by go_num,by rw[List.length_append];rfl,by rw[List.length_append];exact N10,HS8,fun y hy=>?_,by show _=_;rw[<- hrest.out];exact nx.out,by show _<=_;rw[List.length_append];have:=AJ.out;show acc.length+1<=_;omega⟩
          rcases List.mem_append.1 hy with hy | hy
          ·exact AP.out y hy
          ·exact⟨j,hlt,by rw[List.mem_singleton.1 hy,hx.out]⟩
        ·have LE2:Hid (∀ t,t<i+1->Zr t<=Sp t):=fun t ht=>by
          by_cases e:t=i
          ·rw[e]
           omega
          ·exact LE.out t (by omega)
         generalize hya:Sp i=ya at *;generalize hza:Zr i=za at *;replace hya:=Zq hya;replace hza:=Zq hza;go_wp2;go_roundg (m - (i+1))
         case measure=>omega
         case rel=>exact⟨i+1,hil,rfl,by go_num,rfl,rfl,LE2⟩
       ·obtain rfl:i=m:=by omega
        have nx:=Zq (hroom.out LE.out);have cR:=Zq (aix (cz:=rc) N8.out.bx N8.out.sp rd8.out hmd h64 (fun t ht=>⟨(hzq.out t ht).1,LE.out t ht⟩) hne.out)
        go_wp2_with fail;refine cR.out.mono ?_;rintro e w9 ⟨rfl,r9,f9⟩;have N9:=Zq (N8.out.take LL.out (zee r9 fun t ht=>hsp.out t ht) f9)
        replace r9:=Zq r9;replace f9:=Zq f9;clear cR;go_wp2;go_roundg (n - (j+1))
        case measure=>omega
        case rel=>exact⟨j+1,zcv H x.k,acc,Sp',VB,vc,hlt,rfl,by go_num,rfl,N9,HS8,AP,by show _=_;rw[<- hrest.out];exact nx.out,by have:=AJ.out;exact Nat.le_succ_of_le this⟩
     ·obtain rfl:j=n:=by omega
      have eN:Hid (acc=R):=by
       have h1:=EQ.out;rw[List.drop_eq_nil_of_le (by rw[T13.lst_len];exact Nat.le_refl _)] at h1
       exact h1
      have fp:Hid (zcu wr (.slice VB acc.length vc) (acc.map nm)):=ajj NR.out.vo (fun y hy=>by
       obtain⟨t,ht,rfl⟩:=AP.out y hy
       exact(hR.out.is t ht).keep (kW.out.trans NR.out.kp)) (by have:=AJ.out;omega)
      go_wp2
      (try rw[Exit.noGoto_ret])
      go_ret2
      exact⟨(fun h=>by cases h),fun _=>⟨_,rfl,by first | (rw[eR.out,<- eN.out];exact fp.out) | (rw[<- eN.out];exact fp.out)⟩,kW.out.trans NR.out.kp⟩
end
end Go.Proofs.YtcogiogjpbkeaaaGreatDoor.T18
