/-
  The reference's Few, SamePod, Same, Find over pods. No condition.
  The store's pods as a list: what Submit and Apply do to it. No condition, no walk.
  Lists sorted by a key: insertion, removal, replacement, look-up. No condition, no program.
-/
import Derived.Test.YtihjgcibpfajkaaGreatDoorD4
import Derived.Deep.QuietTactic
import Derived.BigQuiet
import Derived.Test.YtihjgcibpfajkaaGreatDoorD2
namespace Go.Proofs.YtihjgcibpfajkaaGreatDoor.T13
open Go.RowKit Go.Sort Go.Lib Go.Shelf V12
def aen(P:Nat→zaa)(n:Nat):Prop:=n≤100∧∀ j,j<n→-1073741824≤(P j).p∧(P j).p≤1073741824∧(P j).m≤20
set_option maxRecDepth 100000 in
set_option maxHeartbeats 4000000 in
theorem zgz(A:Option Addr)(n c:Nat)(P:Nat→zaa)(w:World)(hR:zax w A n P)(b:Bool)(hb:b=true↔aen P n):
  Calls Tryz.prog 9 #[.slice A n c] w fun e w'=>e=.returned (.bool b)∧w=w':=by
 have hn:=hR.small;replace hR:=Lib.hid hR;replace hb:=Lib.hid hb
 go_enter Tryz.func9,Tryz.ntmps9
 go_wp2
 go_loopg [3] n (fun gx s3 wr=>∃ j:Nat,j≤n∧gx=n - j∧s3=.int .i64 j∧Hid (w=wr)∧Hid (∀ t,t<j→-1073741824≤(P t).p∧(P t).p≤1073741824∧(P t).m≤20))
 case atStart=>exact⟨0,Nat.zero_le _,rfl,rfl,rfl,fun t ht=>absurd ht (Nat.not_lt_zero _)⟩
 case round =>
  obtain⟨j,hj,rfl,rfl,G,I⟩:=hrel;have G:=G.out;subst G
  by_cases hlt:j<n
  ·obtain⟨bb,off,hA,ca⟩:=hR.out.adr (by omega)
   subst hA;have q1:=zbe bb off n c j hlt;have X:=ca j hlt;clear ca;obtain⟨x,hx⟩:∃ x,x=P j:=⟨_,rfl⟩;rw[← hx] at X;have no:Hid (¬(-1073741824≤x.p∧x.p≤1073741824∧x.m≤20)→b=false):=fun h=>by
    cases hc:b with
    | false=>rfl
    | true=>exact absurd ((hb.out.1 hc).2 j hlt) (by rw[← hx];exact h)
   have x1:=X.e1;have x4:=X.e4;clear X;have yes:Hid ((-1073741824≤x.p∧x.p≤1073741824∧x.m≤20)→∀ t,t<j+1→-1073741824≤(P t).p∧(P t).p≤1073741824∧(P t).m≤20):=fun h t ht=>by
    by_cases e:t=j
    ·rw[e,← hx];exact h
    ·exact I.out t (by omega)
   replace hx:=Lib.hid hx
   by_cases h1:x.p < -1073741824
   ·have e:=Lib.hid (no.out (by omega))
    go_wp2;go_ret
    exact⟨by rw[e.out];rfl,rfl⟩
   ·by_cases h2:1073741824<x.p
    ·have e:=Lib.hid (no.out (by omega))
     go_wp2;go_ret
     exact⟨by rw[e.out];rfl,rfl⟩
    ·by_cases h3:20<x.m
     ·have e:=Lib.hid (no.out (by omega))
      have h3z:(20:Int)<(x.m:Int):=by omega
      go_wp2;go_ret
      exact⟨by rw[e.out];rfl,rfl⟩
     ·have e:=Lib.hid (yes.out ⟨by omega,by omega,by omega⟩)
      have h3z:¬(20:Int)<(x.m:Int):=by omega
      go_wp2;go_roundg (n - (j+1))
      case measure=>omega
      case rel=>exact⟨j+1,hlt,rfl,by go_num,rfl,e⟩
  ·obtain rfl:j=n:=by omega
   by_cases h1:j≤100
   ·have e:Hid (b=true):=hb.out.2 ⟨h1,I.out⟩
    have hz:(j:Int)≤100:=by omega
    go_wp2;go_ret
    exact⟨by rw[e.out];rfl,rfl⟩
   ·have e:Hid (b=false):=by
     cases hc:b with
     | false=>exact rfl
     | true=>exact absurd (hb.out.1 hc).1 h1
    have hz:¬(j:Int)≤100:=by omega
    go_wp2;go_ret
    exact⟨by rw[e.out];rfl,rfl⟩
def findN(P:Nat→zaa)(id:Int):Nat→Int
 | 0=>-1
 | n+1=>if 0≤findN P id n then findN P id n else if (P n).k=id then(n:Int) else -1
theorem find_no{P:Nat→zaa}{id:Int}:∀ {n},(∀ t,t<n→(P t).k≠id)→findN P id n = -1
 | 0,_=>rfl
 | n+1,h=>by rw[findN,find_no (fun t ht=>h t (by omega)),if_neg (by omega),if_neg (h n (by omega))]
theorem find_at{P:Nat→zaa}{id:Int}{j:Nat}(hj:(P j).k=id)(h:∀ t,t<j→(P t).k≠id):∀ {n},j<n→findN P id n=(j:Int)
 | n+1,hn=>by
   by_cases e:j=n
   ·subst e
    rw[findN,find_no h,if_neg (by omega),if_pos hj]
   ·rw[findN,find_at hj h (n:=n) (by omega),if_pos (by omega)]
theorem find_iff{P:Nat→zaa}{id:Int}:∀ {n},0≤findN P id n↔∃ j,j<n∧(P j).k=id
 | 0=>by
   constructor
   ·intro h;exact absurd h (show ¬(0:Int)≤-1 by decide)
   ·rintro⟨j,h,_⟩;omega
 | n+1=>by
   have ih:=find_iff (P:=P) (id:=id) (n:=n);rw[findN]
   by_cases e:0≤findN P id n
   ·rw[if_pos e]
    obtain⟨j,h1,h2⟩:=ih.1 e;exact⟨fun _=>⟨j,by omega,h2⟩,fun _=>e⟩
   ·rw[if_neg e]
    by_cases e2:(P n).k=id
    ·rw[if_pos e2]
     exact⟨fun _=>⟨n,by omega,e2⟩,fun _=>by omega⟩
    ·rw[if_neg e2]
     constructor
     ·intro h;exact absurd h (by decide)
     ·rintro⟨j,h1,h2⟩
      by_cases e3:j=n
      ·rw[e3] at h2;exact absurd h2 e2
      ·exact absurd (ih.2 ⟨j,by omega,h2⟩) e
theorem zqd{P:Nat→zaa}{id:Int}:∀ {n},0≤findN P id n→∃ j,j<n∧findN P id n=(j:Int)∧(P j).k=id
 | 0,h=>absurd h (show ¬(0:Int)≤-1 by decide)
 | n+1,h=>by
   rw[findN] at h ⊢
   by_cases e:0≤findN P id n
   ·rw[if_pos e]
    obtain⟨j,h1,h2,h3⟩:=zqd e;exact⟨j,by omega,h2,h3⟩
   ·rw[if_neg e] at h ⊢
    by_cases e2:(P n).k=id
    ·rw[if_pos e2]
     exact⟨n,by omega,rfl,e2⟩
    ·rw[if_neg e2] at h;exact absurd h (by decide)
set_option maxRecDepth 100000 in
set_option maxHeartbeats 4000000 in
theorem zch(A:Option Addr)(n c:Nat)(P:Nat→zaa)(id:Int)(w:World)(hR:zax w A n P):Calls Tryz.prog 78 #[.slice A n c,.int .i64 id] w fun e w'=>e=.returned (.int .i64 (findN P id n))∧w=w':=by
 have hn:=hR.small;replace hR:=Lib.hid hR;obtain⟨r,hr⟩:∃ r,r=findN P id n:=⟨_,rfl⟩;rw[← hr];replace hr:=Lib.hid hr
 go_enter Tryz.func78,Tryz.ntmps78
 go_wp2
 go_loopg [5] n (fun gx s5 wr=>∃ j:Nat,j≤n∧gx=n - j∧s5=.int .i64 j∧wr=w∧Hid (∀ t,t<j→(P t).k≠id))
 case atStart=>exact⟨0,Nat.zero_le _,rfl,rfl,rfl,fun t h=>absurd h (Nat.not_lt_zero _)⟩
 case round =>
  obtain⟨j,hj,rfl,rfl,rfl,NO⟩:=hrel
  by_cases hlt:j<n
  ·obtain⟨b,off,hA,ca⟩:=hR.out.adr (by omega)
   subst hA;have q1:=zbe b off n c j hlt;have x0:=(ca j hlt).e0;clear ca
   by_cases hk:(P j).k=id
   ·have e:r=(j:Int):=by rw[hr.out];exact find_at hk NO.out hlt
    obtain⟨k,hkk⟩:∃ k,k=(P j).k:=⟨_,rfl⟩;rw[← hkk] at x0 hk;replace hkk:=Lib.hid hkk;subst hk;subst e;go_wp2;go_ret
    exact⟨rfl,rfl⟩
   ·have NO2:Hid (∀ t,t<j+1→(P t).k≠id):=fun t ht=>by
     by_cases e:t=j
     ·rw[e];exact hk
     ·exact NO.out t (by omega)
    obtain⟨k,hkk⟩:∃ k,k=(P j).k:=⟨_,rfl⟩;rw[← hkk] at x0 hk;replace hkk:=Lib.hid hkk;go_wp2;go_roundg (n - (j+1))
    case measure=>omega
    case rel=>exact⟨j+1,hlt,rfl,by go_num,rfl,NO2⟩
  ·obtain rfl:j=n:=by omega
   have e:r = -1:=by rw[hr.out];exact find_no NO.out
   subst e;go_wp2;go_ret
   exact⟨rfl,rfl⟩
end Go.Proofs.YtihjgcibpfajkaaGreatDoor.T13
namespace Go.Proofs.YtihjgcibpfajkaaGreatDoor.T13
open Go.RowKit Go.Sort Go.Lib V12
def nx(p e:Int):Int :=
 if e=1 then(if p=1∨p=2 then 3 else 0)
 else if e=2 then(if p=1∨p=2 then 2 else 0)
 else if e=3 then(if p=2 then 1 else 0)
 else if e=4 then(if p=3 then 4 else 0)
 else if e=5 then(if 1≤p∧p≤4 then 5 else 0) else 0
theorem zhp{p e:Int}(h:nx p e≠0):1≤nx p e∧nx p e≤5:=by
 unfold nx at h ⊢
 repeat' split
 all_goals first | omega | (exfalso;simp_all)
def keys(L:List zaa):List Int:=L.map (·.k)
def zai(L:List zaa)(id:Int):zaa:=(L.find? fun y=>decide (y.k=id)).getD zad
def zcl(x:zaa)(a:Int):zaa:={ nm x with a:=a,h:=1,d:=-1,t:=-1 }
def zdx(L:List zaa)(s:Int)(x:zaa):Int:=if x.k∈keys L then 6 else if s≤L.length then 7 else 0
def zek(L:List zaa)(s:Int)(x:zaa):List zaa:=if zdx L s x=0 then L++[zcl x L.length] else L
def zao(x:zaa)(e nd dl:Int):zaa:={ x with h:=nx x.h e,t:=if e=4 then dl else -1,d:=if e=1∨e=2 then nd else if e=3∨e=5 then -1 else x.d }
def zbi(L:List zaa)(id e:Int):Int:=if id∉keys L then 5 else if nx (zai L id).h e=0 then 8 else 0
def zcn(L:List zaa)(id e nd dl:Int):List zaa:=if zbi L id e=0 then L.map fun y=>if y.k=id then zao y e nd dl else y else L
def onB(nd:Int)(x:zaa):Bool:=decide (x.d=nd∧2≤x.h∧x.h≤4)
def abn(ph:Int)(x:zaa):Bool:=decide (x.h=ph)
theorem abq(x:zaa)(e nd dl:Int):(zao x e nd dl).h=nx x.h e:=rfl
theorem zlw(x:zaa)(e nd dl:Int):nm (zao x e nd dl)=zao (nm x) e nd dl:=rfl
theorem ade(x:zaa):(nm x).k=x.k:=rfl
theorem zcq(L:List zaa):keys (L.map nm)=keys L:=by unfold keys;rw[List.map_map];rfl
theorem zfl(L:List zaa)(id:Int):nm (zai L id)=zai (L.map nm) id:=by
 unfold zai;rw[List.find?_map];show nm ((L.find? _).getD zad)=(Option.map nm (L.find? _)).getD zad
 have:((fun y=>decide (y.k=id))∘nm:zaa→Bool)=fun y=>decide (y.k=id):=rfl
 rw[this];cases L.find? fun y=>decide (y.k=id)<;>rfl
theorem zgu{L:List zaa}{id:Int}(h:id∉keys L):zai L id=zad:=by
 unfold zai;rw[List.find?_eq_none.2 fun x hx=>by simpa using fun e=>h (by unfold keys;rw[← e];exact List.mem_map_of_mem hx)]
 rfl
theorem get_some{L:List zaa}{id:Int}(h:id∈keys L):zai L id∈L∧(zai L id).k=id:=by
 unfold zai;obtain⟨y,hy,e⟩:=List.mem_map.1 h;cases hf:L.find? fun y=>decide (y.k=id) with
 | none=>exact absurd (List.find?_eq_none.1 hf y hy) (by simpa using e)
 | some z=>exact⟨List.mem_of_find?_eq_some hf,by simpa using List.find?_some hf⟩
theorem zhm{P:Nat→zaa}{n j:Nat}{id:Int}(hj:j<n)(hk:(P j).k=id)(h:∀ t,t<j→(P t).k≠id):zai (lst P n) id=P j:=by
 unfold zai;have e:(lst P n).find? (fun y=>decide (y.k=id))=some (P j):=by
  rw[List.find?_eq_some_iff_getElem];refine⟨by simpa using hk,j,by rw[lst_len];exact hj,?_,fun t ht=>?_⟩
  ·have:=zav (Q:=P) hj
   rw[List.getElem?_eq_getElem (by rw[lst_len];exact hj)] at this
   exact Option.some.inj this
  ·have h1:=zav (Q:=P) (n:=n) (j:=t) (by omega)
   rw[List.getElem?_eq_getElem (by rw[lst_len];omega)] at h1
   rw[Option.some.inj h1]
   simpa using h t ht
 rw[e];rfl
structure LOk(L:List zaa):Prop where
 nod:(keys L).Nodup
 arr:∀ j (h:j<L.length),(L[j]).a=j
 ph:∀ x∈L,1≤x.h∧x.h≤5
 nm:∀ x∈L,nm x=x
theorem LOk.nil:LOk []:=⟨List.nodup_nil,fun j h=>absurd h (Nat.not_lt_zero _),(fun x h=>by cases h),fun x h=>by cases h⟩
theorem get_mem{L:List zaa}(h:LOk L){x:zaa}(hx:x∈L):zai L x.k=x:=by
 have hk:x.k∈keys L:=List.mem_map_of_mem hx;obtain⟨h1,h2⟩:=get_some hk;obtain⟨i,hi,e1⟩:=List.mem_iff_getElem.1 h1;obtain⟨j,hj,e2⟩:=List.mem_iff_getElem.1 hx;have:i=j:=by
  have hn:=h.nod;unfold keys at hn;refine(List.getElem_inj (h₀:=by rw[List.length_map];exact hi) (h₁:=by rw[List.length_map];exact hj) hn).1 ?_
  rw[List.getElem_map,List.getElem_map,e1,e2];exact h2
 subst this;rw[← e1,← e2]
theorem zrb{L:List zaa}{s:Int}{x:zaa}(h:LOk L):LOk (zek L s x):=by
 unfold zek
 split
 ·rename_i h0
  have hk:x.k∉keys L:=fun hk=>by
   unfold zdx at h0;rw[if_pos hk] at h0;exact absurd h0 (by decide)
  refine⟨?_,fun j hj=>?_,fun y hy=>?_,fun y hy=>?_⟩
  ·unfold keys
   rw[List.map_append,List.nodup_append];refine⟨h.nod,by simp,fun a ha b hb e=>?_⟩
   simp only[List.map_cons,List.map_nil,List.mem_singleton] at hb;rw[e,hb] at ha;exact hk ha
  ·rw[List.getElem_append]
   split
   ·rename_i hlt;exact h.arr j hlt
   ·rename_i hge
    rw[List.length_append,List.length_singleton] at hj;have:j=L.length:=by omega
    subst this;simp
    rfl
  ·rcases List.mem_append.1 hy with hy | hy
   ·exact h.ph y hy
   ·rw[List.mem_singleton.1 hy]
    exact⟨by show(1:Int)≤1;omega,by show(1:Int)≤5;omega⟩
  ·rcases List.mem_append.1 hy with hy | hy
   ·exact h.nm y hy
   ·rw[List.mem_singleton.1 hy];rfl
 ·exact h
theorem zrm{L:List zaa}{id e nd dl:Int}:keys (zcn L id e nd dl)=keys L:=by
 unfold zcn
 split
 ·unfold keys
  rw[List.map_map];refine List.map_congr_left fun y _=>?_
  show(if y.k=id then zao y e nd dl else y).k=y.k
  split<;>rfl
 ·rfl
theorem zde{L:List zaa}{id e nd dl:Int}:(zcn L id e nd dl).length=L.length:=by
 unfold zcn
 split
 ·rw[List.length_map]
 ·rfl
theorem zlc{L:List zaa}{id e nd dl:Int}(h:LOk L):LOk (zcn L id e nd dl):=by
 refine⟨by rw[zrm];exact h.nod,fun j hj=>?_,fun y hy=>?_,fun y hy=>?_⟩
 ·rw[zde] at hj
  have h1:=h.arr j hj;unfold zcn
  split
  ·rw[List.getElem_map]
   split
   ·exact h1
   ·exact h1
  ·exact h1
 ·unfold zcn at hy
  split at hy
  ·rename_i h0
   obtain⟨z,hz,rfl⟩:=List.mem_map.1 hy
   split
   ·rename_i hk
    show 1≤nx z.h e∧nx z.h e≤5
    refine zhp fun hn=>?_
    unfold zbi at h0;have hm:id∈keys L:=by rw[← hk];exact List.mem_map_of_mem hz
    rw[if_neg (not_not_intro hm),← hk,get_mem h hz,if_pos hn] at h0;exact absurd h0 (by decide)
   ·exact h.ph z hz
  ·exact h.ph y hy
 ·unfold zcn at hy
  split at hy
  ·obtain⟨z,hz,rfl⟩:=List.mem_map.1 hy
   split
   ·rw[zlw,h.nm z hz]
   ·exact h.nm z hz
  ·exact h.nm y hy
theorem zwv(L:List zaa)(s:Int)(x:zaa):(zek L s x).length≤L.length+1:=by
 unfold zek
 split
 ·rw[List.length_append];exact Nat.le_refl _
 ·omega
theorem LOk.sorted{L:List zaa}(h:LOk L):L.Pairwise fun x y=>x.a<y.a:=by
 rw[List.pairwise_iff_getElem];intro i j hi hj hij;rw[h.arr i hi,h.arr j hj];omega
theorem LOk.filter{L:List zaa}(h:LOk L)(b:zaa→Bool):(L.filter b).Pairwise fun x y=>x.a<y.a:=h.sorted.filter b
theorem LOk.none{L:List zaa}(h:LOk L){p:Int}(hp:p<1∨5<p):L.filter (abn p)=[]:=by
 rw[List.filter_eq_nil_iff];intro x hx;have:=h.ph x hx;unfold abn;simp
 omega
end Go.Proofs.YtihjgcibpfajkaaGreatDoor.T13
namespace Go.Proofs.YtihjgcibpfajkaaGreatDoor.G
section
variable{α:Type}(key:α→Int)
def Srt(L:List α):Prop:=L.Pairwise fun x y=>key x<key y
def keys(L:List α):List Int:=L.map key
def ins(x:α):List α→List α
 | []=>[x]
 | y :: L=>if key x<key y then x :: y :: L else y :: ins x L
def wo(L:List α)(id:Int):List α:=L.filter fun y=>decide (key y≠id)
def get(z:α)(L:List α)(id:Int):α:=(L.find? fun y=>decide (key y=id)).getD z
def rep(L:List α)(x:α):List α:=L.map fun y=>if key y=key x then x else y
variable{key}
theorem ins_perm(x:α):∀ L,(ins key x L).Perm (x :: L)
 | []=>List.Perm.refl _
 | y :: L=>by
   unfold ins
   split
   ·exact List.Perm.refl _
   ·exact((ins_perm x L).cons y).trans (List.Perm.swap x y L)
theorem ins_mem{x y:α}{L:List α}:y∈ins key x L↔y=x∨y∈L:=by rw[(ins_perm x L).mem_iff,List.mem_cons]
theorem ins_len(x:α)(L:List α):(ins key x L).length=L.length+1:=by rw[(ins_perm x L).length_eq];rfl
theorem ins_keys{x:α}{L:List α}{id:Int}:id∈keys key (ins key x L)↔id=key x∨id∈keys key L:=by
 have:=(ins_perm (key:=key) x L).map key;unfold keys;rw[this.mem_iff,List.map_cons,List.mem_cons]
theorem ins_sorted{x:α}:∀ {L},Srt key L→key x∉keys key L→Srt key (ins key x L)
 | [],_,_=>List.pairwise_singleton _ _
 | y :: L,h,hk=>by
   have h':=h;unfold Srt at h';rw[List.pairwise_cons] at h';have hk2:key x≠key y∧key x∉keys key L:=by unfold keys at hk ⊢;rw[List.map_cons,List.mem_cons,not_or] at hk;exact hk
   unfold ins
   split
   ·rename_i hb
    unfold Srt;rw[List.pairwise_cons];refine⟨fun z hz=>?_,h⟩
    rcases List.mem_cons.1 hz with rfl | hz
    ·exact hb
    ·have:=h'.1 z hz;omega
   ·rename_i hb
    unfold Srt;rw[List.pairwise_cons];refine⟨fun z hz=>?_,ins_sorted h'.2 hk2.2⟩
    rcases ins_mem.1 hz with rfl | hz
    ·omega
    ·exact h'.1 z hz
theorem zmh(L:List α)(id:Int):(wo key L id).length≤L.length:=List.length_filter_le _ _
theorem zgu{z:α}{L:List α}{id:Int}(h:id∉keys key L):get key z L id=z:=by
 unfold get;rw[List.find?_eq_none.2 fun y hy=>by simpa using fun e=>h (by rw[← e];exact List.mem_map_of_mem hy)]
 rfl
theorem get_some{z:α}{L:List α}{id:Int}(h:id∈keys key L):get key z L id∈L∧key (get key z L id)=id:=by
 obtain⟨y,hy,e⟩:=List.mem_map.1 h;unfold get;cases hf:L.find? fun y=>decide (key y=id) with
 | none=>exact absurd (List.find?_eq_none.1 hf y hy) (by simpa using e)
 | some z=>exact⟨List.mem_of_find?_eq_some hf,by simpa using List.find?_some hf⟩
theorem keys_nodup{L:List α}(h:Srt key L):(keys key L).Nodup:=by
 unfold keys;refine List.Pairwise.map (S:=fun a b:Int=>a≠b) key (fun a b hab=>?_) h
 exact Int.ne_of_lt hab
theorem get_at{z:α}{L:List α}(h:Srt key L){x:α}(hx:x∈L):get key z L (key x)=x:=by
 obtain⟨h1,h2⟩:=get_some (z:=z) (List.mem_map_of_mem hx:key x∈keys key L);obtain⟨i,hi,e1⟩:=List.getElem_of_mem h1;obtain⟨j,hj,e2⟩:=List.getElem_of_mem hx;have hp:=List.pairwise_iff_getElem.1 h;rcases Nat.lt_trichotomy i j with hij | hij | hij
 ·have:=hp i j hi hj hij
  rw[e1,e2,h2] at this;omega
 ·subst hij
  rw[← e1,← e2]
 ·have:=hp j i hj hi hij
  rw[e1,e2,h2] at this;omega
theorem zfp(L:List α)(x:α):keys key (rep key L x)=keys key L:=by
 unfold keys rep;rw[List.map_map];refine List.map_congr_left fun y _=>?_
 show key (if key y=key x then x else y)=key y
 split
 ·exact Eq.symm (by assumption)
 ·rfl
theorem rep_mem{L:List α}{x y:α}(h:y∈rep key L x):y∈L∨y=x:=by
 unfold rep at h;obtain⟨z,hz,rfl⟩:=List.mem_map.1 h
 split
 ·exact Or.inr rfl
 ·exact Or.inl hz
theorem srt_keys{L:List α}:Srt key L↔(keys key L).Pairwise (·<·):=by unfold Srt keys;rw[List.pairwise_map]
theorem rep_sorted{L:List α}{x:α}(h:Srt key L):Srt key (rep key L x):=by rw[srt_keys,zfp,← srt_keys];exact h
end
section
variable{α β:Type}{ka:α→Int}{kb:β→Int}{f:α→β}(hf:∀ x,kb (f x)=ka x)
include hf
theorem map_keys(L:List α):keys kb (L.map f)=keys ka L:=by
 unfold keys;rw[List.map_map];exact List.map_congr_left fun x _=>hf x
theorem map_ins(x:α):∀ L,(ins ka x L).map f=ins kb (f x) (L.map f)
 | []=>rfl
 | y :: L=>by
   simp only[ins,List.map_cons,hf]
   split
   ·rfl
   ·rw[List.map_cons,map_ins x L]
theorem map_get(z:α)(L:List α)(id:Int):f (get ka z L id)=get kb (f z) (L.map f) id:=by
 unfold get;rw[List.find?_map];have e:((fun y=>decide (kb y=id))∘f)=fun y=>decide (ka y=id):=by
  funext y
  simp[hf]
 rw[e];cases L.find? fun y=>decide (ka y=id)<;>rfl
theorem map_srt{L:List α}:Srt kb (L.map f)↔Srt ka L:=by rw[srt_keys,srt_keys,map_keys hf]
theorem map_rep(L:List α)(x:α):(rep ka L x).map f=rep kb (L.map f) (f x):=by
 unfold rep;rw[List.map_map,List.map_map];refine List.map_congr_left fun y _=>?_
 show f (if ka y=ka x then x else y)=if kb (f y)=kb (f x) then f x else f y
 rw[hf,hf]
 split<;>rfl
end
end Go.Proofs.YtihjgcibpfajkaaGreatDoor.G
