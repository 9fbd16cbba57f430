/-
  The reference's Few, SamePod, Same, Find over pods. No condition.
  The store's pods as a list: what Submit and Apply do to it. No condition, no walk.
  The reference's Submit. Condition: at most 1000 pods.
-/
import Derived.Test.YtcogiogjpbkeaaaGreatDoorJ0
import Derived.Test.YtcogiogjpbkeaaaGreatDoorJ4
namespace Go.Proofs.YtcogiogjpbkeaaaGreatDoor.T13
open Go.RowKit Go.Sort Go.Lib Go.Shelf V12
def aly(P:Nat->zaa)(n:Nat):Prop:=n<=100/\∀ j,j<n->-1073741824<=(P j).p/\(P j).p<=1073741824/\(P j).m<=20
set_option maxRecDepth 100000 in
set_option maxHeartbeats 4000000 in
theorem zif(A:Option Addr)(n c:Nat)(P:Nat->zaa)(w:World)(hR:zai w A n P)(b:Bool)(hb:b=true↔aly P n):
  Calls Tryz.prog 10 #[.slice A n c] w fun e w'=>e=.returned (.bool b)/\w=w':=by
 have hn:=hR.small;replace hR:=Zq hR;replace hb:=Zq hb
 go_enter Tryz.func10,Tryz.ntmps10
 go_wp2
 go_loopg [3] n (fun gx s3 wr=>∃ j:Nat,j<=n/\gx=n - j/\s3=.int .i64 j/\Hid (w=wr)/\Hid (∀ t,t<j->-1073741824<=(P t).p/\(P t).p<=1073741824/\(P t).m<=20))
 case atStart=>exact⟨0,Nat.zero_le _,rfl,rfl,rfl,fun t ht=>absurd ht (Nat.not_lt_zero _)⟩
 case round =>
  obtain⟨j,hj,rfl,rfl,G,I⟩:=hrel;have G:=G.out;subst G
  by_cases hlt:j<n
  ·obtain⟨bb,off,hA,ca⟩:=hR.out.adr (by omega)
   subst hA;have q1:=zar bb off n c j hlt;have X:=ca j hlt;clear ca;obtain⟨x,hx⟩:=Zn (P j);rw[<- hx] at X;have no:Hid (¬(-1073741824<=x.p/\x.p<=1073741824/\x.m<=20)->b=false):=fun h=>by
    cases hc:b with
    | false=>rfl
    | true=>exact absurd ((hb.out.1 hc).2 j hlt) (by rw[<- hx];exact h)
   have x1:=X.e1;have x4:=X.e4;clear X;have yes:Hid ((-1073741824<=x.p/\x.p<=1073741824/\x.m<=20)->∀ t,t<j+1->-1073741824<=(P t).p/\(P t).p<=1073741824/\(P t).m<=20):=fun h t ht=>by
    by_cases e:t=j
    ·rw[e,<- hx];exact h
    ·exact I.out t (by omega)
   replace hx:=Zq hx
   by_cases h1:x.p < -1073741824
   ·have e:=Zq (no.out (by omega))
    go_wp2;go_ret
    exact⟨by rw[e.out];rfl,rfl⟩
   ·by_cases h2:1073741824<x.p
    ·have e:=Zq (no.out (by omega))
     go_wp2;go_ret
     exact⟨by rw[e.out];rfl,rfl⟩
    ·by_cases h3:20<x.m
     ·have e:=Zq (no.out (by omega))
      have h3z:(20:Int)<(x.m:Int):=by omega
      go_wp2;go_ret
      exact⟨by rw[e.out];rfl,rfl⟩
     ·have e:=Zq (yes.out ⟨by omega,by omega,by omega⟩)
      have h3z:¬(20:Int)<(x.m:Int):=by omega
      go_wp2;go_roundg (n - (j+1))
      case measure=>omega
      case rel=>exact⟨j+1,hlt,rfl,by go_num,rfl,e⟩
  ·obtain rfl:j=n:=by omega
   by_cases h1:j<=100
   ·have e:Hid (b=true):=hb.out.2 ⟨h1,I.out⟩
    have hz:(j:Int)<=100:=by omega
    go_wp2;go_ret
    exact⟨by rw[e.out];rfl,rfl⟩
   ·have e:Hid (b=false):=by
     cases hc:b with
     | false=>exact rfl
     | true=>exact absurd (hb.out.1 hc).1 h1
    have hz:¬(j:Int)<=100:=by omega
    go_wp2;go_ret
    exact⟨by rw[e.out];rfl,rfl⟩
set_option maxRecDepth 100000 in
set_option maxHeartbeats 8000000 in
theorem ztd(x y:zaa)(w:World)(h:zec x y)(hx:zah w x)(hy:zah w y):Calls Tryz.prog 34 #[x.val,y.val] w fun e w'=>e=.returned (.bool true)/\Gr w w':=by
 obtain⟨A',c',rfl⟩:=h;have hs:=fun W (K:Keep w W)=>adf A' y.A y.m y.m c' y.c y.Z y.Z W (hx.rd.keep K) (hy.rd.keep K) true (decide_eq_true ⟨rfl,fun _ _=>rfl⟩)
 replace hs:=Zq hs;clear hx hy;unfold zaa.at zaa.val
 go_enter Tryz.func34,Tryz.ntmps34
 go_wp2_with fail;refine(hs.out _ (((Keep.refl w).alloc _).alloc _)).mono ?_;rintro e w1 ⟨rfl,q,rfl⟩;go_wp2;go_ret
 exact⟨rfl,(((Gr.refl w).alloc _).alloc _).drewN q⟩
set_option maxRecDepth 100000 in
set_option maxHeartbeats 8000000 in
theorem zyz(A B:Option Addr)(n c d:Nat)(P Q:Nat->zaa)(w:World)(hP:zai w A n P)(hQ:zai w B n Q)(hs:∀ j,j<n->zec (P j) (Q j)):
  Calls Tryz.prog 12 #[.slice A n c,.slice B n d] w fun e w'=>e=.returned (.bool true)/\Keep w w':=by
 have mixed:Tryz.prog.follows .mixedOrders=true:=by kernel_rfl
 have hn:=hP.small;replace hP:=Zq hP;replace hQ:=Zq hQ;replace hs:=Zq hs
 go_enter Tryz.func12,Tryz.ntmps12
 go_wp2
 go_loopg [5] n (fun gx s5 wr=>∃ j:Nat,j<=n/\gx=n - j/\s5=.int .i64 j/\Hid (Gr w wr))
 case atStart=>exact⟨0,Nat.zero_le _,rfl,rfl,Gr.refl _⟩
 case round =>
  obtain⟨j,hj,rfl,rfl,G⟩:=hrel
  by_cases hlt:j<n
  ·have R1:=hP.out.keep G.out.keep
   have R2:=hQ.out.keep G.out.keep;obtain⟨b,off,hA,ca⟩:=R1.adr (by omega)
   subst hA;obtain⟨b',off',hB,cb⟩:=R2.adr (by omega)
   subst hB;have q1:=zar b off n c j hlt;have q2:=zar b' off' n d j hlt;have X:=ca j hlt;have Y:=cb j hlt;have hk:∀ (n:Nat) (os:Array Obj),Calls Tryz.prog 34 #[(P j).val,(Q j).val] (grow (wr.drewN n) os) fun e w'=>e=.returned (.bool true)/\∃ q os',w'=grow ((grow (wr.drewN n) os).drewN q) os' :=
    fun n os=>ztd (P j) (Q j) _ (hs.out j hlt) ((R1.is j hlt).keep (Gr.keep ⟨n,os,rfl⟩)) ((R2.is j hlt).keep (Gr.keep ⟨n,os,rfl⟩))
   clear ca cb;replace R1:=Zq R1;replace R2:=Zq R2;obtain⟨x,hx⟩:=Zn (P j);obtain⟨y,hy⟩:=Zn (Q j);rw[<- hx] at X hk;rw[<- hy] at Y hk;unfold zaa.val at hk;replace hx:=Zq hx;replace hy:=Zq hy;have x0:=grows X.e0;have x1:=grows X.e1;have x2:=grows X.e2;have x3:=grows X.e3;have x4:=grows X.e4;have x5:=grows X.e5;have x6:=grows X.e6;have x7:=grows X.e7;have x8:=grows X.e8;have y0:=grows Y.e0;have y1:=grows Y.e1;have y2:=grows Y.e2;have y3:=grows Y.e3;have y4:=grows Y.e4;have y5:=grows Y.e5;have y6:=grows Y.e6;have y7:=grows Y.e7;have y8:=grows Y.e8;clear X Y;go_wp2_with fail
   go_quiet_grown (first | (go_at_call 34;refine Calls.grown_of (hk _ _)))
   clear x0 x1 x2 x3 x4 x5 x6 x7 x8 y0 y1 y2 y3 y4 y5 y6 y7 y8 hk;have G2:Hid (Gr w (grow (wr.drewN nq) osq)):=G.out.trans ⟨nq,osq,rfl⟩;generalize grow (wr.drewN nq) osq=w2 at G2 ⊢;go_wp2;go_roundg (n - (j+1))
   case measure=>omega
   case rel=>exact⟨j+1,hlt,rfl,by go_num,G2⟩
  ·obtain rfl:j=n:=by omega
   go_wp2;go_ret
   exact⟨rfl,G.out.keep⟩
def findN(P:Nat->zaa)(id:Int):Nat->Int
 | 0=>-1
 | n+1=>if 0<=findN P id n then findN P id n else if (P n).k=id then(n:Int) else -1
theorem find_no{P:Nat->zaa}{id:Int}:∀ {n},(∀ t,t<n->(P t).k≠id)->findN P id n = -1
 | 0,_=>rfl
 | n+1,h=>by rw[findN,find_no (fun t ht=>h t (by omega)),if_neg (by omega),if_neg (h n (by omega))]
theorem find_at{P:Nat->zaa}{id:Int}{j:Nat}(hj:(P j).k=id)(h:∀ t,t<j->(P t).k≠id):∀ {n},j<n->findN P id n=(j:Int)
 | n+1,hn=>by
   by_cases e:j=n
   ·subst e
    rw[findN,find_no h,if_neg (by omega),if_pos hj]
   ·rw[findN,find_at hj h (n:=n) (by omega),if_pos (by omega)]
theorem find_iff{P:Nat->zaa}{id:Int}:∀ {n},0<=findN P id n↔∃ j,j<n/\(P j).k=id
 | 0=>by
   constructor
   ·intro h;exact absurd h (show ¬(0:Int)<=-1 by decide)
   ·rintro⟨j,h,_⟩;omega
 | n+1=>by
   have ih:=find_iff (P:=P) (id:=id) (n:=n);rw[findN]
   by_cases e:0<=findN P id n
   ·rw[if_pos e]
    obtain⟨j,h1,h2⟩:=ih.1 e;exact⟨fun _=>⟨j,by omega,h2⟩,fun _=>e⟩
   ·rw[if_neg e]
    by_cases e2:(P n).k=id
    ·rw[if_pos e2]
     exact⟨fun _=>⟨n,by omega,e2⟩,fun _=>by omega⟩
    ·rw[if_neg e2]
     constructor
     ·intro h;exact absurd h (by decide)
     ·rintro⟨j,h1,h2⟩
      by_cases e3:j=n
      ·rw[e3] at h2;exact absurd h2 e2
      ·exact absurd (ih.2 ⟨j,by omega,h2⟩) e
theorem zwa{P:Nat->zaa}{id:Int}:∀ {n},0<=findN P id n->∃ j,j<n/\findN P id n=(j:Int)/\(P j).k=id
 | 0,h=>absurd h (show ¬(0:Int)<=-1 by decide)
 | n+1,h=>by
   rw[findN] at h ⊢
   by_cases e:0<=findN P id n
   ·rw[if_pos e]
    obtain⟨j,h1,h2,h3⟩:=zwa e;exact⟨j,by omega,h2,h3⟩
   ·rw[if_neg e] at h ⊢
    by_cases e2:(P n).k=id
    ·rw[if_pos e2]
     exact⟨n,by omega,rfl,e2⟩
    ·rw[if_neg e2] at h;exact absurd h (by decide)
set_option maxRecDepth 100000 in
set_option maxHeartbeats 4000000 in
theorem zdg(A:Option Addr)(n c:Nat)(P:Nat->zaa)(id:Int)(w:World)(hR:zai w A n P):Calls Tryz.prog 94 #[.slice A n c,.int .i64 id] w fun e w'=>e=.returned (.int .i64 (findN P id n))/\w=w':=by
 have hn:=hR.small;replace hR:=Zq hR;obtain⟨r,hr⟩:=Zn (findN P id n);rw[<- hr];replace hr:=Zq hr
 go_enter Tryz.func94,Tryz.ntmps94
 go_wp2
 go_loopg [5] n (fun gx s5 wr=>∃ j:Nat,j<=n/\gx=n - j/\s5=.int .i64 j/\wr=w/\Hid (∀ t,t<j->(P t).k≠id))
 case atStart=>exact⟨0,Nat.zero_le _,rfl,rfl,rfl,fun t h=>absurd h (Nat.not_lt_zero _)⟩
 case round =>
  obtain⟨j,hj,rfl,rfl,rfl,NO⟩:=hrel
  by_cases hlt:j<n
  ·obtain⟨b,off,hA,ca⟩:=hR.out.adr (by omega)
   subst hA;have q1:=zar b off n c j hlt;have x0:=(ca j hlt).e0;clear ca
   by_cases hk:(P j).k=id
   ·have e:r=(j:Int):=by rw[hr.out];exact find_at hk NO.out hlt
    obtain⟨k,hkk⟩:=Zn ((P j).k);rw[<- hkk] at x0 hk;replace hkk:=Zq hkk;subst hk;subst e;go_wp2;go_ret
    exact⟨rfl,rfl⟩
   ·have NO2:Hid (∀ t,t<j+1->(P t).k≠id):=fun t ht=>by
     by_cases e:t=j
     ·rw[e];exact hk
     ·exact NO.out t (by omega)
    obtain⟨k,hkk⟩:=Zn ((P j).k);rw[<- hkk] at x0 hk;replace hkk:=Zq hkk;go_wp2;go_roundg (n - (j+1))
    case measure=>omega
    case rel=>exact⟨j+1,hlt,rfl,by go_num,rfl,NO2⟩
  ·obtain rfl:j=n:=by omega
   have e:r = -1:=by rw[hr.out];exact find_no NO.out
   subst e;go_wp2;go_ret
   exact⟨rfl,rfl⟩
end Go.Proofs.YtcogiogjpbkeaaaGreatDoor.T13
namespace Go.Proofs.YtcogiogjpbkeaaaGreatDoor.T13
open Go.RowKit Go.Sort Go.Lib V12
def nx(p e:Int):Int :=
 if e=1 then(if p=1\/p=2 then 3 else 0)
 else if e=2 then(if p=1\/p=2 then 2 else 0)
 else if e=3 then(if p=2 then 1 else 0)
 else if e=4 then(if p=3 then 4 else 0)
 else if e=5 then(if 1<=p/\p<=4 then 5 else 0) else 0
theorem zkr{p e:Int}(h:nx p e≠0):1<=nx p e/\nx p e<=5:=by
 unfold nx at h ⊢
 repeat' split
 all_goals first | omega | (exfalso;simp_all)
def keys(L:List zaa):List Int:=L.map (·.k)
def getL(L:List zaa)(id:Int):zaa:=(L.find? fun y=>decide (y.k=id)).getD zaf
def zhi(x:zaa)(a:Int):zaa:={ nm x with a:=a,h:=1,d:=-1,t:=-1 }
def zez(L:List zaa)(s:Int)(x:zaa):Int:=if x.k∈keys L then 6 else if s<=L.length then 7 else 0
def zfs(L:List zaa)(s:Int)(x:zaa):List zaa:=if zez L s x=0 then L++[zhi x L.length] else L
def zay(x:zaa)(e nd dl:Int):zaa:={ x with h:=nx x.h e,t:=if e=4 then dl else -1,d:=if e=1\/e=2 then nd else if e=3\/e=5 then -1 else x.d }
def zca(L:List zaa)(id e:Int):Int:=if id∉keys L then 5 else if nx (getL L id).h e=0 then 8 else 0
def zde(L:List zaa)(id e nd dl:Int):List zaa:=if zca L id e=0 then L.map fun y=>if y.k=id then zay y e nd dl else y else L
def onB(nd:Int)(x:zaa):Bool:=decide (x.d=nd/\2<=x.h/\x.h<=4)
def zdm(ph:Int)(x:zaa):Bool:=decide (x.h=ph)
theorem ajl(x:zaa)(e nd dl:Int):(zay x e nd dl).h=nx x.h e:=rfl
theorem zqh(x:zaa)(e nd dl:Int):nm (zay x e nd dl)=zay (nm x) e nd dl:=rfl
theorem akq(x:zaa):(nm x).k=x.k:=rfl
theorem zbq(L:List zaa):keys (L.map nm)=keys L:=by unfold keys;rw[List.map_map];rfl
theorem zhn(L:List zaa)(id:Int):nm (getL L id)=getL (L.map nm) id:=by
 unfold getL;rw[List.find?_map];show nm ((L.find? _).getD zaf)=(Option.map nm (L.find? _)).getD zaf
 have:((fun y=>decide (y.k=id))∘nm:zaa->Bool)=fun y=>decide (y.k=id):=rfl
 rw[this];cases L.find? fun y=>decide (y.k=id)<;>rfl
theorem zjk{L:List zaa}{id:Int}(h:id∉keys L):getL L id=zaf:=by
 unfold getL;rw[List.find?_eq_none.2 fun x hx=>by simpa using fun e=>h (by unfold keys;rw[<- e];exact List.mem_map_of_mem hx)]
 rfl
theorem get_some{L:List zaa}{id:Int}(h:id∈keys L):getL L id∈L/\(getL L id).k=id:=by
 unfold getL;obtain⟨y,hy,e⟩:=List.mem_map.1 h;cases hf:L.find? fun y=>decide (y.k=id) with
 | none=>exact absurd (List.find?_eq_none.1 hf y hy) (by simpa using e)
 | some z=>exact⟨List.mem_of_find?_eq_some hf,by simpa using List.find?_some hf⟩
theorem zkl{P:Nat->zaa}{n j:Nat}{id:Int}(hj:j<n)(hk:(P j).k=id)(h:∀ t,t<j->(P t).k≠id):getL (lst P n) id=P j:=by
 unfold getL;have e:(lst P n).find? (fun y=>decide (y.k=id))=some (P j):=by
  rw[List.find?_eq_some_iff_getElem];refine⟨by simpa using hk,j,by rw[lst_len];exact hj,?_,fun t ht=>?_⟩
  ·have:=zaw (Q:=P) hj
   rw[List.getElem?_eq_getElem (by rw[lst_len];exact hj)] at this
   exact Option.some.inj this
  ·have h1:=zaw (Q:=P) (n:=n) (j:=t) (by omega)
   rw[List.getElem?_eq_getElem (by rw[lst_len];omega)] at h1
   rw[Option.some.inj h1]
   simpa using h t ht
 rw[e];rfl
structure LOk(L:List zaa):Prop where
 nod:(keys L).Nodup
 arr:∀ j (h:j<L.length),(L[j]).a=j
 ph:∀ x∈L,1<=x.h/\x.h<=5
 nm:∀ x∈L,nm x=x
theorem LOk.nil:LOk []:=⟨List.nodup_nil,fun j h=>absurd h (Nat.not_lt_zero _),(fun x h=>by cases h),fun x h=>by cases h⟩
theorem get_mem{L:List zaa}(h:LOk L){x:zaa}(hx:x∈L):getL L x.k=x:=by
 have hk:x.k∈keys L:=List.mem_map_of_mem hx;obtain⟨h1,h2⟩:=get_some hk;obtain⟨i,hi,e1⟩:=List.mem_iff_getElem.1 h1;obtain⟨j,hj,e2⟩:=List.mem_iff_getElem.1 hx;have:i=j:=by
  have hn:=h.nod;unfold keys at hn;refine(List.getElem_inj (h₀:=by rw[List.length_map];exact hi) (h₁:=by rw[List.length_map];exact hj) hn).1 ?_
  rw[List.getElem_map,List.getElem_map,e1,e2];exact h2
 subst this;rw[<- e1,<- e2]
theorem zxi{L:List zaa}{s:Int}{x:zaa}(h:LOk L):LOk (zfs L s x):=by
 unfold zfs
 split
 ·rename_i h0
  have hk:x.k∉keys L:=fun hk=>by
   unfold zez at h0;rw[if_pos hk] at h0;exact absurd h0 (by decide)
  refine⟨?_,fun j hj=>?_,fun y hy=>?_,fun y hy=>?_⟩
  ·unfold keys
   rw[List.map_append,List.nodup_append];refine⟨h.nod,by simp,fun a ha b hb e=>?_⟩
   simp only[List.map_cons,List.map_nil,List.mem_singleton] at hb;rw[e,hb] at ha;exact hk ha
  ·rw[List.getElem_append]
   split
   ·rename_i hlt;exact h.arr j hlt
   ·rename_i hge
    rw[List.length_append,List.length_singleton] at hj;have:j=L.length:=by omega
    subst this;simp
    rfl
  ·rcases List.mem_append.1 hy with hy | hy
   ·exact h.ph y hy
   ·rw[List.mem_singleton.1 hy]
    exact⟨by show(1:Int)<=1;omega,by show(1:Int)<=5;omega⟩
  ·rcases List.mem_append.1 hy with hy | hy
   ·exact h.nm y hy
   ·rw[List.mem_singleton.1 hy];rfl
 ·exact h
theorem zxr{L:List zaa}{id e nd dl:Int}:keys (zde L id e nd dl)=keys L:=by
 unfold zde
 split
 ·unfold keys
  rw[List.map_map];refine List.map_congr_left fun y _=>?_
  show(if y.k=id then zay y e nd dl else y).k=y.k
  split<;>rfl
 ·rfl
theorem zeg{L:List zaa}{id e nd dl:Int}:(zde L id e nd dl).length=L.length:=by
 unfold zde
 split
 ·rw[List.length_map]
 ·rfl
theorem zpp{L:List zaa}{id e nd dl:Int}(h:LOk L):LOk (zde L id e nd dl):=by
 refine⟨by rw[zxr];exact h.nod,fun j hj=>?_,fun y hy=>?_,fun y hy=>?_⟩
 ·rw[zeg] at hj
  have h1:=h.arr j hj;unfold zde
  split
  ·rw[List.getElem_map]
   split
   ·exact h1
   ·exact h1
  ·exact h1
 ·unfold zde at hy
  split at hy
  ·rename_i h0
   obtain⟨z,hz,rfl⟩:=List.mem_map.1 hy
   split
   ·rename_i hk
    show 1<=nx z.h e/\nx z.h e<=5
    refine zkr fun hn=>?_
    unfold zca at h0;have hm:id∈keys L:=by rw[<- hk];exact List.mem_map_of_mem hz
    rw[if_neg (not_not_intro hm),<- hk,get_mem h hz,if_pos hn] at h0;exact absurd h0 (by decide)
   ·exact h.ph z hz
  ·exact h.ph y hy
 ·unfold zde at hy
  split at hy
  ·obtain⟨z,hz,rfl⟩:=List.mem_map.1 hy
   split
   ·rw[zqh,h.nm z hz]
   ·exact h.nm z hz
  ·exact h.nm y hy
theorem ady(L:List zaa)(s:Int)(x:zaa):(zfs L s x).length<=L.length+1:=by
 unfold zfs
 split
 ·rw[List.length_append];exact Nat.le_refl _
 ·omega
theorem LOk.sorted{L:List zaa}(h:LOk L):L.Pairwise fun x y=>x.a<y.a:=by
 rw[List.pairwise_iff_getElem];intro i j hi hj hij;rw[h.arr i hi,h.arr j hj];omega
theorem LOk.filter{L:List zaa}(h:LOk L)(b:zaa->Bool):(L.filter b).Pairwise fun x y=>x.a<y.a:=h.sorted.filter b
theorem LOk.none{L:List zaa}(h:LOk L){p:Int}(hp:p<1\/5<p):L.filter (zdm p)=[]:=by
 rw[List.filter_eq_nil_iff];intro x hx;have:=h.ph x hx;unfold zdm;simp
 omega
end Go.Proofs.YtcogiogjpbkeaaaGreatDoor.T13
namespace Go.Proofs.YtcogiogjpbkeaaaGreatDoor.T13
open Go.RowKit Go.Sort Go.Lib V12
theorem zdp{W:World}{base k:Nat}(hb:base<=k)(h:W.heap[k]?=some (.cells #[] 26 (0,0))):W.ownsRow base 26 9 (.slice (some ⟨k,0,none⟩) 0 0) 0 []:=
 ⟨rfl,.inr ⟨k,0,#[],rfl,hb,h,Nat.le_refl _,Nat.zero_le _,rfl,rfl⟩⟩
def alr(x:zaa)(a:Int):zaa:={ x with a:=a,h:=1,d:=-1,t:=-1 }
def zgv(B:Option Addr)(cp N:Nat)(P:Nat->zaa)(x:zaa)(W w':World)(B':Option Addr)(c' N':Nat)(P':Nat->zaa)(code:Int):Prop :=
 (code≠0/\B'=B/\c'=cp/\N'=N/\P'=P)\/(code=0/\N'=N+1/\P'=put P N (alr x N)/\w'.ownsRow W.heap.size 26 9 (.slice B' N' c') N' (zaj P' N'))
set_option maxRecDepth 100000 in
set_option maxHeartbeats 16000000 in
theorem adj(B:Option Addr)(cp N:Nat)(P:Nat->zaa)(s:Int)(x:zaa)(W:World)(hR:zai W B N P)(hB:B=none->N=0/\cp=0)(hk:0<=findN P x.k N):
  Calls Tryz.prog 56 #[.slice B N cp,.int .i64 s,x.val] W fun e w'=>∃ B' c' N' P',e=.returned (.tuple #[.slice B' N' c',.int .i64 6])/\Keep W w'/\(B'=B/\c'=cp/\N'=N/\P'=P):=by
 obtain⟨W0,hW0⟩:=Zn (W.alloc (.cells (zac x) 26));obtain⟨b,hb⟩:=Zn (W.heap.size);have K0:Hid (Keep W W0):=by rw[hW0];exact Keep.one _ _
 have X0:W0.heap[b]?=some (.cells (zac x) 26 (0,0)):=by rw[hW0,hb];exact heap_alloc_new _ _
 have cF:=Zq (zdg B N cp P x.k W0 (hR.keep K0.out));have RW:=Zq hR;have nilB:=Zq hB;obtain⟨x0,x1,x2,x3,x4,x5,x6,x7,x8,xf⟩:=zae X0;obtain⟨r,hr⟩:=Zn (findN P x.k N);rw[<- hr] at cF;have hr0:0<=r:=by rw[hr];exact hk
 replace hr:=Zq hr;unfold zaa.val;unfold zac at hW0;replace X0:=Zq X0;clear hR hB
 go_enter Tryz.func56,Tryz.ntmps56
 go_wp2_with fail;rw[<- hW0,<- hb];replace hW0:=Zq hW0;replace hb:=Zq hb;refine cF.out.mono ?_;rintro e w1 ⟨rfl,rfl⟩;go_wp2;go_ret2
 exact⟨B,cp,N,P,rfl,K0.out,rfl,rfl,rfl,rfl⟩
set_option maxRecDepth 100000 in
set_option maxHeartbeats 16000000 in
theorem zza(B:Option Addr)(cp N:Nat)(P:Nat->zaa)(s:Int)(x:zaa)(W:World)(hR:zai W B N P)(hB:B=none->N=0/\cp=0)(hk:¬0<=findN P x.k N)(hf:s<=N):
  Calls Tryz.prog 56 #[.slice B N cp,.int .i64 s,x.val] W fun e w'=>∃ B' c' N' P',e=.returned (.tuple #[.slice B' N' c',.int .i64 7])/\Keep W w'/\(B'=B/\c'=cp/\N'=N/\P'=P):=by
 obtain⟨W0,hW0⟩:=Zn (W.alloc (.cells (zac x) 26));obtain⟨b,hb⟩:=Zn (W.heap.size);have K0:Hid (Keep W W0):=by rw[hW0];exact Keep.one _ _
 have X0:W0.heap[b]?=some (.cells (zac x) 26 (0,0)):=by rw[hW0,hb];exact heap_alloc_new _ _
 have cF:=Zq (zdg B N cp P x.k W0 (hR.keep K0.out));have RW:=Zq hR;have nilB:=Zq hB;obtain⟨x0,x1,x2,x3,x4,x5,x6,x7,x8,xf⟩:=zae X0;obtain⟨r,hr⟩:=Zn (findN P x.k N);rw[<- hr] at cF;have hr0:r<0:=by rw[hr];omega
 replace hr:=Zq hr;unfold zaa.val;unfold zac at hW0;replace X0:=Zq X0;clear hR hB
 go_enter Tryz.func56,Tryz.ntmps56
 go_wp2_with fail;rw[<- hW0,<- hb];replace hW0:=Zq hW0;replace hb:=Zq hb;refine cF.out.mono ?_;rintro e w1 ⟨rfl,rfl⟩;go_wp2;go_ret2
 exact⟨B,cp,N,P,rfl,K0.out,rfl,rfl,rfl,rfl⟩
set_option maxRecDepth 100000 in
set_option maxHeartbeats 16000000 in
theorem adk(B:Option Addr)(cp N:Nat)(P:Nat->zaa)(s:Int)(x:zaa)(W:World)(hR:zai W B N P)(hB:B=none->N=0/\cp=0)(hN:N<=1000)(hk:¬0<=findN P x.k N)(hf:¬s<=N):
  Calls Tryz.prog 56 #[.slice B N cp,.int .i64 s,x.val] W fun e w'=>∃ B' c' N' P',e=.returned (.tuple #[.slice B' N' c',.int .i64 0])/\Keep W w'/\zgv B cp N P x W w' B' c' N' P' 0:=by
 have mixed:Tryz.prog.follows .mixedOrders=true:=by kernel_rfl
 obtain⟨W0,hW0⟩:=Zn (W.alloc (.cells (zac x) 26));obtain⟨b,hb⟩:=Zn (W.heap.size);have K0:Hid (Keep W W0):=by rw[hW0];exact Keep.one _ _
 have X0:W0.heap[b]?=some (.cells (zac x) 26 (0,0)):=by rw[hW0,hb];exact heap_alloc_new _ _
 have cF:=Zq (zdg B N cp P x.k W0 (hR.keep K0.out));have RW:=Zq hR;have nilB:=Zq hB;obtain⟨x0,x1,x2,x3,x4,x5,x6,x7,x8,xf⟩:=zae X0;obtain⟨r,hr⟩:=Zn (findN P x.k N);rw[<- hr] at cF;have hr0:r<0:=by rw[hr];omega
 replace hr:=Zq hr;obtain⟨wb,hwb⟩:=Zn ((((W0.setCell ⟨b,6,none⟩ (.int .i64 1)).setCell ⟨b,7,none⟩ (.int .i64 (-1))).setCell ⟨b,8,none⟩ (.int .i64 (-1))).setCell ⟨b,5,none⟩ (.int .i64 N));obtain⟨y,hy⟩:=Zn (alr x N);have Y0:wb.heap[b]?=some (.cells (zac y) 26 (0,0)):=by
  rw[hwb,hy];exact(zch (zch (zch (zch X0).2.2.2.2.2.2.1).2.2.2.2.2.2.2.1).2.2.2.2.2.2.2.2).2.2.2.2.2.1
 have KB:Hid (Keep W wb):=by
  rw[hwb];exact(((K0.out.set (p:=⟨b,6,none⟩) (by show _<=b;omega) _).set (p:=⟨b,7,none⟩) (by show _<=b;omega) _).set (p:=⟨b,8,none⟩) (by show _<=b;omega) _).set (p:=⟨b,5,none⟩) (by show _<=b;omega) _
 obtain⟨y0,y1,y2,y3,y4,y5,y6,y7,y8,yf⟩:=zae Y0;replace RW:=Zq (RW.out.keep KB.out);unfold zaa.val;unfold zac at hW0;replace X0:=Zq X0;replace Y0:=Zq Y0;have H0:=Zq y0;have H1:=Zq y1;have H2:=Zq y2;have H3:=Zq y3;have H4:=Zq y4;have H5:=Zq y5;have H6:=Zq y6;have H7:=Zq y7;have H8:=Zq y8;clear y0 y1 y2 y3 y4 y5 y6 y7 y8 yf;replace hy:=Zq hy;clear hR hB
 go_enter Tryz.func56,Tryz.ntmps56
 go_wp2_with fail;rw[<- hW0,<- hb];replace hW0:=Zq hW0;replace hb:=Zq hb;refine cF.out.mono ?_;rintro e w1 ⟨rfl,rfl⟩;go_wp2_with fail;rw[<- hwb];replace hwb:=Zq hwb;clear x0 x1 x2 x3 x4 x5 x6 x7 x8 xf cF;have y0:=H0.out;have y1:=H1.out;have y2:=H2.out;have y3:=H3.out;have y4:=H4.out;have y5:=H5.out;have y6:=H6.out;have y7:=H7.out;have y8:=H8.out;have HELD:∀ Wz,Keep wb Wz->(Wz.cell? ⟨b,0,none⟩=some (.int .i64 y.k)/\Wz.cell? ⟨b,1,none⟩=some (.int .i64 y.p)/\Wz.cell? ⟨b,2,none⟩=some (.bool y.f)/\Wz.cell? ⟨b,3,none⟩=some (.int .i64 y.g)/\Wz.cell? ⟨b,4,none⟩=some (.slice y.A y.m y.c)/\Wz.cell? ⟨b,5,none⟩=some (.int .i64 y.a)/\Wz.cell? ⟨b,6,none⟩=some (.int .i64 y.h)/\Wz.cell? ⟨b,7,none⟩=some (.int .i64 y.d)/\Wz.cell? ⟨b,8,none⟩=some (.int .i64 y.t)):=fun Wz KK=>⟨KK.cell y0,KK.cell y1,KK.cell y2,KK.cell y3,KK.cell y4,KK.cell y5,KK.cell y6,KK.cell y7,KK.cell y8⟩
 refine wp_region_held_drew (S:=fun w'=>w'.cell? ⟨b,0,none⟩=some (.int .i64 y.k)/\w'.cell? ⟨b,1,none⟩=some (.int .i64 y.p)/\w'.cell? ⟨b,2,none⟩=some (.bool y.f)/\w'.cell? ⟨b,3,none⟩=some (.int .i64 y.g)/\w'.cell? ⟨b,4,none⟩=some (.slice y.A y.m y.c)/\w'.cell? ⟨b,5,none⟩=some (.int .i64 y.a)/\w'.cell? ⟨b,6,none⟩=some (.int .i64 y.h)/\w'.cell? ⟨b,7,none⟩=some (.int .i64 y.d)/\w'.cell? ⟨b,8,none⟩=some (.int .i64 y.t)) (by kernel_rfl) ?_ (fun hHeld=>?_)
 ·exact HELD _ (Keep.refl wb).drew
 obtain⟨wt0,hwt0⟩:=Zn (wb.drew);have Kwt0:Hid (Keep wb wt0):=by rw[hwt0];exact(Keep.refl _).drew
 rw[<- hwt0] at hHeld ⊢;replace hwt0:=Zq hwt0;refine Zt 1 (.slice B N cp) hHeld ?_
 simp only[Act.put,Zp];refine Zt 3 (.agg #[.int .i64 y.k,.int .i64 y.p,.bool y.f,.int .i64 y.g,.slice y.A y.m y.c,.int .i64 y.a,.int .i64 y.h,.int .i64 y.d,.int .i64 y.t]) hHeld ?_
 simp only[Act.put,Zp];refine wpAnyH_ready (rs:=[0,4]) (by kernel_rfl) (by simp) ?_
 refine(AllReadyH.cons rfl (fun K hK=>?_) (AllReadyH.cons rfl (fun K hK=>?_) AllReadyH.nil))
 ·simp only[Zp]
  rw[if_pos (by rfl)]
  go_simp
  obtain⟨wt1,hwt1⟩:=Zn (wt0.alloc (.cells #[] 26));have Jwt1:Hid (Keep wt0 wt1):=by rw[hwt1];exact Keep.one _ _
  have Kwt1:Hid (Keep wb wt1):=Kwt0.out.trans Jwt1.out;have F0:Hid (wt1.heap[wt0.heap.size]?=some (.cells #[] 26 (0,0))):=by rw[hwt1];exact heap_alloc_new _ _
  rw[<- hwt1];replace hwt1:=Zq hwt1;refine hK.out _ _ (HELD _ Kwt1.out) (fun hHeld=>?_)
  clear hK K;try simp only[Act.put,Zp]
  refine wpAnyH_ready (rs:=[2,4]) (by kernel_rfl) (by simp) ?_
  refine(AllReadyH.cons rfl (fun K hK=>?_) (AllReadyH.cons rfl (fun K hK=>?_) AllReadyH.nil))
  ·simp only[Zp]
   rw[if_pos (by rfl)]
   refine zhe (.tmp 25) (.tmp 26) rfl wb.heap.size (.slice (some ⟨wt0.heap.size,0,none⟩) 0 0) 0 [] (by simp[Act.eval]) (zdp (by have:=Kwt0.out.size;omega) F0.out) (.slice B N cp) N (zaj P N) (by simp[Act.eval]) (zge (RW.out.keep Kwt1.out) nilB.out) (zbf _ _) (by omega) (Kwt1.out.size) N (Nat.zero_add _) ?_
   intro v6 wt2 hr6 hg6;obtain⟨A6,c6,hv6,nl6⟩:=zan hr6;subst hv6;have Jwt2:Hid (Keep wb wt2):=zad Kwt1.out hg6 (fun q hq=>by simp[Value.ownBlock] at hq;have:=Kwt0.out.size;omega)
   have Kwt2:Hid (Keep wb wt2):=Jwt2.out;rw[List.nil_append] at hr6;have R2:Hid (wt2.ownsRow wb.heap.size 26 9 (.slice A6 N c6) N (zaj P N)):=hr6;clear hr6;replace hg6:=Zq hg6;replace nl6:=Zq nl6;clear F0;refine hK.out _ _ (HELD _ Kwt2.out) (fun hHeld=>?_)
   clear hK K;try simp only[Act.put,Zp]
   refine wpAnyH_ready (rs:=[4]) (by kernel_rfl) (by simp) ?_
   refine(AllReadyH.cons rfl (fun K hK=>?_) AllReadyH.nil)
   simp only[Zp];rw[if_pos (by rfl)]
   go_simp
   obtain⟨wt3,hwt3⟩:=Zn (wt2.alloc (.cells #[.int .i64 y.k,.int .i64 y.p,.bool y.f,.int .i64 y.g,.slice y.A y.m y.c,.int .i64 y.a,.int .i64 y.h,.int .i64 y.d,.int .i64 y.t] 26));have Jwt3:Hid (Keep wt2 wt3):=by rw[hwt3];exact Keep.one _ _
   have Kwt3:Hid (Keep wb wt3):=Kwt2.out.trans Jwt3.out;replace R2:Hid (wt3.ownsRow wb.heap.size 26 9 (.slice A6 N c6) N (zaj P N)):=zal R2.out Jwt3.out;have F4:Hid (wt3.heap[wt2.heap.size]?=some (.cells #[.int .i64 y.k,.int .i64 y.p,.bool y.f,.int .i64 y.g,.slice y.A y.m y.c,.int .i64 y.a,.int .i64 y.h,.int .i64 y.d,.int .i64 y.t] 26 (0,0))):=by rw[hwt3];exact heap_alloc_new _ _
   rw[<- hwt3];replace hwt3:=Zq hwt3;refine hK.out _ _ (HELD _ Kwt3.out) (fun hHeld=>?_)
   clear hK K;try simp only[Act.put,Zp]
   refine wpAnyH_ready (rs:=[5]) (by kernel_rfl) (by simp) ?_
   refine(AllReadyH.cons rfl (fun K hK=>?_) AllReadyH.nil)
   simp only[Zp];rw[if_pos (by rfl)]
   refine zhe (.tmp 27) (.tmp 29) rfl wb.heap.size (.slice A6 N c6) N (zaj P N) (by simp[Act.eval]) R2.out (.slice (some ⟨wt2.heap.size,0,none⟩) 1 1) 1 y.cells (by simp[Act.eval]) (zbh F4.out) (cells_one _) (by omega) (Kwt3.out.size) (N+1) rfl ?_
   intro v7 wt4 hr7 hg7;obtain⟨A7,c7,hv7,nl7⟩:=zan hr7;subst hv7;have Kwt4:Hid (Keep wb wt4):=zad Kwt3.out hg7 (fun q hq=>(R2.out.lt q hq).1)
   rw[<- zid] at hr7;have R5:Hid (wt4.ownsRow wb.heap.size 26 9 (.slice A7 (N+1) c7) (N+1) (zaj (put P N y) (N+1))):=hr7;clear hr7;replace hg7:=Zq hg7;replace nl7:=Zq nl7;refine hK.out _ _ (HELD _ Kwt4.out) (fun hHeld=>?_)
   clear hK K;try simp only[Act.put,Zp]
   refine Zt 6 (.slice A7 (N+1) c7) hHeld ?_
   simp only[Act.put,Zp];refine Zt 7 (.int .i64 0) hHeld ?_
   simp only[Act.put,Zp];refine wpAnyH_done (by kernel_rfl) ?_ _
   have KF:Hid (Keep W wt4):=KB.out.trans Kwt4.out;have RF:=Zq (zbx R5.out KB.out.size);go_wp2;go_ret2
   exact⟨A7,c7,N+1,put P N y,rfl,KF.out,Or.inr ⟨rfl,rfl,by rw[hy.out],RF.out⟩⟩
  ·simp only[Zp]
   rw[if_pos (by rfl)]
   go_simp
   obtain⟨wt5,hwt5⟩:=Zn (wt1.alloc (.cells #[.int .i64 y.k,.int .i64 y.p,.bool y.f,.int .i64 y.g,.slice y.A y.m y.c,.int .i64 y.a,.int .i64 y.h,.int .i64 y.d,.int .i64 y.t] 26));have Jwt5:Hid (Keep wt1 wt5):=by rw[hwt5];exact Keep.one _ _
   have Kwt5:Hid (Keep wb wt5):=Kwt1.out.trans Jwt5.out;have L04:Hid (wt0.heap.size<wt1.heap.size):=lt_of_block F0.out;replace F0:Hid (wt5.heap[wt0.heap.size]?=some (.cells #[] 26 (0,0))):=Jwt5.out.block F0.out;have F4:Hid (wt5.heap[wt1.heap.size]?=some (.cells #[.int .i64 y.k,.int .i64 y.p,.bool y.f,.int .i64 y.g,.slice y.A y.m y.c,.int .i64 y.a,.int .i64 y.h,.int .i64 y.d,.int .i64 y.t] 26 (0,0))):=by rw[hwt5];exact heap_alloc_new _ _
   rw[<- hwt5];replace hwt5:=Zq hwt5;refine hK.out _ _ (HELD _ Kwt5.out) (fun hHeld=>?_)
   clear hK K;try simp only[Act.put,Zp]
   refine wpAnyH_ready (rs:=[2]) (by kernel_rfl) (by simp) ?_
   refine(AllReadyH.cons rfl (fun K hK=>?_) AllReadyH.nil)
   simp only[Zp];rw[if_pos (by rfl)]
   refine zhe (.tmp 25) (.tmp 26) rfl wb.heap.size (.slice (some ⟨wt0.heap.size,0,none⟩) 0 0) 0 [] (by simp[Act.eval]) (zdp (by have:=Kwt0.out.size;omega) F0.out) (.slice B N cp) N (zaj P N) (by simp[Act.eval]) (zge (RW.out.keep Kwt5.out) nilB.out) (zbf _ _) (by omega) (Kwt5.out.size) N (Nat.zero_add _) ?_
   intro v6 wt6 hr6 hg6;obtain⟨A6,c6,hv6,nl6⟩:=zan hr6;subst hv6;have Jwt6:Hid (Keep wb wt6):=zad Kwt5.out hg6 (fun q hq=>by simp[Value.ownBlock] at hq;have:=Kwt0.out.size;omega)
   have Kwt6:Hid (Keep wb wt6):=Jwt6.out;replace F4:Hid (wt6.heap[wt1.heap.size]?=some (.cells #[.int .i64 y.k,.int .i64 y.p,.bool y.f,.int .i64 y.g,.slice y.A y.m y.c,.int .i64 y.a,.int .i64 y.h,.int .i64 y.d,.int .i64 y.t] 26 (0,0))):=(hg6.block _ (lt_of_block F4.out) (by have:=L04.out;simp[Value.ownBlock];omega)).trans F4.out
   rw[List.nil_append] at hr6;have R2:Hid (wt6.ownsRow wb.heap.size 26 9 (.slice A6 N c6) N (zaj P N)):=hr6;clear hr6;replace hg6:=Zq hg6;replace nl6:=Zq nl6;clear F0;refine hK.out _ _ (HELD _ Kwt6.out) (fun hHeld=>?_)
   clear hK K;try simp only[Act.put,Zp]
   refine wpAnyH_ready (rs:=[5]) (by kernel_rfl) (by simp) ?_
   refine(AllReadyH.cons rfl (fun K hK=>?_) AllReadyH.nil)
   simp only[Zp];rw[if_pos (by rfl)]
   refine zhe (.tmp 27) (.tmp 29) rfl wb.heap.size (.slice A6 N c6) N (zaj P N) (by simp[Act.eval]) R2.out (.slice (some ⟨wt1.heap.size,0,none⟩) 1 1) 1 y.cells (by simp[Act.eval]) (zbh F4.out) (cells_one _) (by omega) (Kwt6.out.size) (N+1) rfl ?_
   intro v7 wt7 hr7 hg7;obtain⟨A7,c7,hv7,nl7⟩:=zan hr7;subst hv7;have Kwt7:Hid (Keep wb wt7):=zad Kwt6.out hg7 (fun q hq=>(R2.out.lt q hq).1)
   rw[<- zid] at hr7;have R5:Hid (wt7.ownsRow wb.heap.size 26 9 (.slice A7 (N+1) c7) (N+1) (zaj (put P N y) (N+1))):=hr7;clear hr7;replace hg7:=Zq hg7;replace nl7:=Zq nl7;refine hK.out _ _ (HELD _ Kwt7.out) (fun hHeld=>?_)
   clear hK K;try simp only[Act.put,Zp]
   refine Zt 6 (.slice A7 (N+1) c7) hHeld ?_
   simp only[Act.put,Zp];refine Zt 7 (.int .i64 0) hHeld ?_
   simp only[Act.put,Zp];refine wpAnyH_done (by kernel_rfl) ?_ _
   have KF:Hid (Keep W wt7):=KB.out.trans Kwt7.out;have RF:=Zq (zbx R5.out KB.out.size);go_wp2;go_ret2
   exact⟨A7,c7,N+1,put P N y,rfl,KF.out,Or.inr ⟨rfl,rfl,by rw[hy.out],RF.out⟩⟩
 ·simp only[Zp]
  rw[if_pos (by rfl)]
  go_simp
  obtain⟨wt8,hwt8⟩:=Zn (wt0.alloc (.cells #[.int .i64 y.k,.int .i64 y.p,.bool y.f,.int .i64 y.g,.slice y.A y.m y.c,.int .i64 y.a,.int .i64 y.h,.int .i64 y.d,.int .i64 y.t] 26));have Jwt8:Hid (Keep wt0 wt8):=by rw[hwt8];exact Keep.one _ _
  have Kwt8:Hid (Keep wb wt8):=Kwt0.out.trans Jwt8.out;have F4:Hid (wt8.heap[wt0.heap.size]?=some (.cells #[.int .i64 y.k,.int .i64 y.p,.bool y.f,.int .i64 y.g,.slice y.A y.m y.c,.int .i64 y.a,.int .i64 y.h,.int .i64 y.d,.int .i64 y.t] 26 (0,0))):=by rw[hwt8];exact heap_alloc_new _ _
  rw[<- hwt8];replace hwt8:=Zq hwt8;refine hK.out _ _ (HELD _ Kwt8.out) (fun hHeld=>?_)
  clear hK K;try simp only[Act.put,Zp]
  refine wpAnyH_ready (rs:=[0]) (by kernel_rfl) (by simp) ?_
  refine(AllReadyH.cons rfl (fun K hK=>?_) AllReadyH.nil)
  simp only[Zp];rw[if_pos (by rfl)]
  go_simp
  obtain⟨wt9,hwt9⟩:=Zn (wt8.alloc (.cells #[] 26));have Jwt9:Hid (Keep wt8 wt9):=by rw[hwt9];exact Keep.one _ _
  have Kwt9:Hid (Keep wb wt9):=Kwt8.out.trans Jwt9.out;have L40:Hid (wt0.heap.size<wt8.heap.size):=lt_of_block F4.out;replace F4:Hid (wt9.heap[wt0.heap.size]?=some (.cells #[.int .i64 y.k,.int .i64 y.p,.bool y.f,.int .i64 y.g,.slice y.A y.m y.c,.int .i64 y.a,.int .i64 y.h,.int .i64 y.d,.int .i64 y.t] 26 (0,0))):=Jwt9.out.block F4.out;have F0:Hid (wt9.heap[wt8.heap.size]?=some (.cells #[] 26 (0,0))):=by rw[hwt9];exact heap_alloc_new _ _
  rw[<- hwt9];replace hwt9:=Zq hwt9;refine hK.out _ _ (HELD _ Kwt9.out) (fun hHeld=>?_)
  clear hK K;try simp only[Act.put,Zp]
  refine wpAnyH_ready (rs:=[2]) (by kernel_rfl) (by simp) ?_
  refine(AllReadyH.cons rfl (fun K hK=>?_) AllReadyH.nil)
  simp only[Zp];rw[if_pos (by rfl)]
  refine zhe (.tmp 25) (.tmp 26) rfl wb.heap.size (.slice (some ⟨wt8.heap.size,0,none⟩) 0 0) 0 [] (by simp[Act.eval]) (zdp (by have:=Kwt8.out.size;omega) F0.out) (.slice B N cp) N (zaj P N) (by simp[Act.eval]) (zge (RW.out.keep Kwt9.out) nilB.out) (zbf _ _) (by omega) (Kwt9.out.size) N (Nat.zero_add _) ?_
  intro v6 wt10 hr6 hg6;obtain⟨A6,c6,hv6,nl6⟩:=zan hr6;subst hv6;have Jwt10:Hid (Keep wb wt10):=zad Kwt9.out hg6 (fun q hq=>by simp[Value.ownBlock] at hq;have:=Kwt8.out.size;omega)
  have Kwt10:Hid (Keep wb wt10):=Jwt10.out;replace F4:Hid (wt10.heap[wt0.heap.size]?=some (.cells #[.int .i64 y.k,.int .i64 y.p,.bool y.f,.int .i64 y.g,.slice y.A y.m y.c,.int .i64 y.a,.int .i64 y.h,.int .i64 y.d,.int .i64 y.t] 26 (0,0))):=(hg6.block _ (lt_of_block F4.out) (by have:=L40.out;simp[Value.ownBlock];omega)).trans F4.out
  rw[List.nil_append] at hr6;have R2:Hid (wt10.ownsRow wb.heap.size 26 9 (.slice A6 N c6) N (zaj P N)):=hr6;clear hr6;replace hg6:=Zq hg6;replace nl6:=Zq nl6;clear F0;refine hK.out _ _ (HELD _ Kwt10.out) (fun hHeld=>?_)
  clear hK K;try simp only[Act.put,Zp]
  refine wpAnyH_ready (rs:=[5]) (by kernel_rfl) (by simp) ?_
  refine(AllReadyH.cons rfl (fun K hK=>?_) AllReadyH.nil)
  simp only[Zp];rw[if_pos (by rfl)]
  refine zhe (.tmp 27) (.tmp 29) rfl wb.heap.size (.slice A6 N c6) N (zaj P N) (by simp[Act.eval]) R2.out (.slice (some ⟨wt0.heap.size,0,none⟩) 1 1) 1 y.cells (by simp[Act.eval]) (zbh F4.out) (cells_one _) (by omega) (Kwt10.out.size) (N+1) rfl ?_
  intro v7 wt11 hr7 hg7;obtain⟨A7,c7,hv7,nl7⟩:=zan hr7;subst hv7;have Kwt11:Hid (Keep wb wt11):=zad Kwt10.out hg7 (fun q hq=>(R2.out.lt q hq).1)
  rw[<- zid] at hr7;have R5:Hid (wt11.ownsRow wb.heap.size 26 9 (.slice A7 (N+1) c7) (N+1) (zaj (put P N y) (N+1))):=hr7;clear hr7;replace hg7:=Zq hg7;replace nl7:=Zq nl7;refine hK.out _ _ (HELD _ Kwt11.out) (fun hHeld=>?_)
  clear hK K;try simp only[Act.put,Zp]
  refine Zt 6 (.slice A7 (N+1) c7) hHeld ?_
  simp only[Act.put,Zp];refine Zt 7 (.int .i64 0) hHeld ?_
  simp only[Act.put,Zp];refine wpAnyH_done (by kernel_rfl) ?_ _
  have KF:Hid (Keep W wt11):=KB.out.trans Kwt11.out;have RF:=Zq (zbx R5.out KB.out.size);go_wp2;go_ret2
  exact⟨A7,c7,N+1,put P N y,rfl,KF.out,Or.inr ⟨rfl,rfl,by rw[hy.out],RF.out⟩⟩
theorem ahz(B:Option Addr)(cp N:Nat)(P:Nat->zaa)(s:Int)(x:zaa)(W:World)(hR:zai W B N P)(hB:B=none->N=0/\cp=0)(hN:N<=1000):
  Calls Tryz.prog 56 #[.slice B N cp,.int .i64 s,x.val] W fun e w'=>∃ B' c' N' P',e=.returned (.tuple #[.slice B' N' c',.int .i64 (zez ((lst P N).map nm) s x)])/\Keep W w'/\zgv B cp N P x W w' B' c' N' P' (zez ((lst P N).map nm) s x):=by
 have hi:0<=findN P x.k N↔x.k∈keys ((lst P N).map nm):=by
  rw[find_iff,zbq];unfold keys;rw[List.mem_map];constructor
  ·rintro⟨j,hj,e⟩
   exact⟨P j,lst_mem.2 ⟨j,hj,rfl⟩,e⟩
  ·rintro⟨y,hy,e⟩
   obtain⟨j,hj,rfl⟩:=lst_mem.1 hy;exact⟨j,hj,e⟩
 have hl:((lst P N).map nm).length=N:=by rw[List.length_map,lst_len]
 unfold zez;rw[hl]
 by_cases h1:0<=findN P x.k N
 ·rw[if_pos (hi.1 h1)]
  refine(adj B cp N P s x W hR hB h1).mono ?_;rintro e w' ⟨B',c',N',P',he,k,e1,e2,e3,e4⟩;exact⟨B',c',N',P',he,k,Or.inl ⟨by decide,e1,e2,e3,e4⟩⟩
 ·rw[if_neg (fun h=>h1 (hi.2 h))]
  by_cases h2:s<=(N:Int)
  ·rw[if_pos h2]
   refine(zza B cp N P s x W hR hB h1 h2).mono ?_;rintro e w' ⟨B',c',N',P',he,k,e1,e2,e3,e4⟩;exact⟨B',c',N',P',he,k,Or.inl ⟨by decide,e1,e2,e3,e4⟩⟩
  ·rw[if_neg h2]
   exact adk B cp N P s x W hR hB hN h1 h2
end Go.Proofs.YtcogiogjpbkeaaaGreatDoor.T13
