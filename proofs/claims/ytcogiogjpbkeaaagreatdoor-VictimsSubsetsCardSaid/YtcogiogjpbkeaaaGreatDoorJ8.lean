/-
  Lists sorted by a key: insertion, removal, replacement, look-up. No condition, no program.
  A cluster as lists: its nodes with their capacities, its pods; what its operations do to them. No condition, no walk.
  Nodes as values, and rows of them of the call's own. No condition.
  What the laws ask of the pods' functions; the reference's list beside them. No condition, no walk.
  What the laws ask of the cluster's functions. No condition, no walk.
  What is reserved, as lists and sums; the reference's Sees. No condition.
  Where a node stands in a list of nodes. No condition, no walk.
-/
import Derived.Test.YtcogiogjpbkeaaaGreatDoorJ0
import Derived.Test.YtcogiogjpbkeaaaGreatDoorJ5
namespace Go.Proofs.YtcogiogjpbkeaaaGreatDoor.G
section
variable{α:Type}(key:α->Int)
def Srt(L:List α):Prop:=L.Pairwise fun x y=>key x<key y
def keys(L:List α):List Int:=L.map key
def ins(x:α):List α->List α
 | []=>[x]
 | y :: L=>if key x<key y then x :: y :: L else y :: ins x L
def wo(L:List α)(id:Int):List α:=L.filter fun y=>decide (key y≠id)
def get(z:α)(L:List α)(id:Int):α:=(L.find? fun y=>decide (key y=id)).getD z
def rep(L:List α)(x:α):List α:=L.map fun y=>if key y=key x then x else y
variable{key}
theorem ins_perm(x:α):∀ L,(ins key x L).Perm (x :: L)
 | []=>List.Perm.refl _
 | y :: L=>by
   unfold ins
   split
   ·exact List.Perm.refl _
   ·exact((ins_perm x L).cons y).trans (List.Perm.swap x y L)
theorem ins_mem{x y:α}{L:List α}:y∈ins key x L↔y=x\/y∈L:=by rw[(ins_perm x L).mem_iff,List.mem_cons]
theorem ins_len(x:α)(L:List α):(ins key x L).length=L.length+1:=by rw[(ins_perm x L).length_eq];rfl
theorem ins_keys{x:α}{L:List α}{id:Int}:id∈keys key (ins key x L)↔id=key x\/id∈keys key L:=by
 have:=(ins_perm (key:=key) x L).map key;unfold keys;rw[this.mem_iff,List.map_cons,List.mem_cons]
theorem ins_sorted{x:α}:∀ {L},Srt key L->key x∉keys key L->Srt key (ins key x L)
 | [],_,_=>List.pairwise_singleton _ _
 | y :: L,h,hk=>by
   have h':=h;unfold Srt at h';rw[List.pairwise_cons] at h';have hk2:key x≠key y/\key x∉keys key L:=by unfold keys at hk ⊢;rw[List.map_cons,List.mem_cons,not_or] at hk;exact hk
   unfold ins
   split
   ·rename_i hb
    unfold Srt;rw[List.pairwise_cons];refine⟨fun z hz=>?_,h⟩
    rcases List.mem_cons.1 hz with rfl | hz
    ·exact hb
    ·have:=h'.1 z hz;omega
   ·rename_i hb
    unfold Srt;rw[List.pairwise_cons];refine⟨fun z hz=>?_,ins_sorted h'.2 hk2.2⟩
    rcases ins_mem.1 hz with rfl | hz
    ·omega
    ·exact h'.1 z hz
theorem zjk{z:α}{L:List α}{id:Int}(h:id∉keys key L):get key z L id=z:=by
 unfold get;rw[List.find?_eq_none.2 fun y hy=>by simpa using fun e=>h (by rw[<- e];exact List.mem_map_of_mem hy)]
 rfl
theorem get_some{z:α}{L:List α}{id:Int}(h:id∈keys key L):get key z L id∈L/\key (get key z L id)=id:=by
 obtain⟨y,hy,e⟩:=List.mem_map.1 h;unfold get;cases hf:L.find? fun y=>decide (key y=id) with
 | none=>exact absurd (List.find?_eq_none.1 hf y hy) (by simpa using e)
 | some z=>exact⟨List.mem_of_find?_eq_some hf,by simpa using List.find?_some hf⟩
theorem keys_nodup{L:List α}(h:Srt key L):(keys key L).Nodup:=by
 unfold keys;refine List.Pairwise.map (S:=fun a b:Int=>a≠b) key (fun a b hab=>?_) h
 exact Int.ne_of_lt hab
theorem get_at{z:α}{L:List α}(h:Srt key L){x:α}(hx:x∈L):get key z L (key x)=x:=by
 obtain⟨h1,h2⟩:=get_some (z:=z) (List.mem_map_of_mem hx:key x∈keys key L);obtain⟨i,hi,e1⟩:=List.getElem_of_mem h1;obtain⟨j,hj,e2⟩:=List.getElem_of_mem hx;have hp:=List.pairwise_iff_getElem.1 h;rcases Nat.lt_trichotomy i j with hij | hij | hij
 ·have:=hp i j hi hj hij
  rw[e1,e2,h2] at this;omega
 ·subst hij
  rw[<- e1,<- e2]
 ·have:=hp j i hj hi hij
  rw[e1,e2,h2] at this;omega
theorem zhs(L:List α)(x:α):keys key (rep key L x)=keys key L:=by
 unfold keys rep;rw[List.map_map];refine List.map_congr_left fun y _=>?_
 show key (if key y=key x then x else y)=key y
 split
 ·exact Eq.symm (by assumption)
 ·rfl
theorem rep_mem{L:List α}{x y:α}(h:y∈rep key L x):y∈L\/y=x:=by
 unfold rep at h;obtain⟨z,hz,rfl⟩:=List.mem_map.1 h
 split
 ·exact Or.inr rfl
 ·exact Or.inl hz
theorem srt_keys{L:List α}:Srt key L↔(keys key L).Pairwise (·<·):=by unfold Srt keys;rw[List.pairwise_map]
theorem rep_sorted{L:List α}{x:α}(h:Srt key L):Srt key (rep key L x):=by rw[srt_keys,zhs,<- srt_keys];exact h
end
section
variable{α β:Type}{ka:α->Int}{kb:β->Int}{f:α->β}(hf:∀ x,kb (f x)=ka x)
include hf
theorem map_keys(L:List α):keys kb (L.map f)=keys ka L:=by
 unfold keys;rw[List.map_map];exact List.map_congr_left fun x _=>hf x
theorem map_ins(x:α):∀ L,(ins ka x L).map f=ins kb (f x) (L.map f)
 | []=>rfl
 | y :: L=>by
   simp only[ins,List.map_cons,hf]
   split
   ·rfl
   ·rw[List.map_cons,map_ins x L]
theorem map_get(z:α)(L:List α)(id:Int):f (get ka z L id)=get kb (f z) (L.map f) id:=by
 unfold get;rw[List.find?_map];have e:((fun y=>decide (kb y=id))∘f)=fun y=>decide (ka y=id):=by
  funext y
  simp[hf]
 rw[e];cases L.find? fun y=>decide (ka y=id)<;>rfl
theorem map_srt{L:List α}:Srt kb (L.map f)↔Srt ka L:=by rw[srt_keys,srt_keys,map_keys hf]
theorem map_rep(L:List α)(x:α):(rep ka L x).map f=rep kb (L.map f) (f x):=by
 unfold rep;rw[List.map_map,List.map_map];refine List.map_congr_left fun y _=>?_
 show f (if ka y=ka x then x else y)=if kb (f y)=kb (f x) then f x else f y
 rw[hf,hf]
 split<;>rfl
end
end Go.Proofs.YtcogiogjpbkeaaaGreatDoor.G
namespace Go.Proofs.YtcogiogjpbkeaaaGreatDoor.T14
open Go.RowKit Go.Sort Go.Lib V12 T13
structure NV where
 k:Int
 C:Nat->Int
def zv:NV:=⟨0,fun _=>0⟩
abbrev nk(M:List NV):List Int:=G.keys NV.k M
abbrev nget(M:List NV)(id:Int):NV:=G.get NV.k zv M id
def holds(id:Int)(y:zaa):Bool:=decide (y.d=id/\(y.h=3\/y.h=4))
def zbm(id:Int)(j:Nat)(y:zaa):Int:=if holds id y=true then y.Z j else 0
def zam:List zaa->Int->Nat->Int
 | [],_,_=>0
 | y :: L,id,j=>zbm id j y+zam L id j
def Amt(z:Int):Prop:=0<=z/\z<=1099511627776
theorem wrong_no{n:Nat}{Z:Nat->Int}{d:Nat}(h:¬0<=zak n Z d):n=d/\∀ j,j<n->Amt (Z j):=by
 rcases zpt n Z with ⟨k,hk,hb,hj⟩ | hg
 ·rw[zgc hk hb hj] at h
  omega
 ·rw[zeb hg] at h
  refine⟨?_,fun j hj=>zlr (hg j hj)⟩
  by_cases e:(n:Int)=(d:Int)
  ·omega
  ·rw[if_neg e] at h
   omega
def adC(M:List NV)(d:Nat)(k:Int)(n:Nat)(Z:Nat->Int):Int:=if 0<=zak n Z d then 3 else if k∈nk M then 6 else if 1024<=M.length then 7 else 0
def wrI(d n:Nat)(Z:Nat->Int):Int:=if 0<=zak n Z d then zak n Z d else 0
def adL(M:List NV)(d:Nat)(k:Int)(n:Nat)(Z:Nat->Int):List NV:=if adC M d k n Z=0 then G.ins NV.k ⟨k,Z⟩ M else M
def sbC(L:List zaa)(d:Nat)(x:zaa):Int:=if 0<=zak x.m x.Z d then 3 else zez L 65536 x
def sbL(L:List zaa)(d:Nat)(x:zaa):List zaa:=if 0<=zak x.m x.Z d then L else zfs L 65536 x
def zji(M:List NV)(L:List zaa)(d:Nat)(id nd:Int):Bool:=(List.range d).all fun j=>decide (zam L nd j+(getL L id).Z j<=(nget M nd).C j)
theorem zrt{M:List NV}{L:List zaa}{d:Nat}{id nd:Int}:zji M L d id nd=true↔∀ j,j<d->zam L nd j+(getL L id).Z j<=(nget M nd).C j:=by
 unfold zji;rw[List.all_eq_true];simp only[List.mem_range,decide_eq_true_eq]
def plC(M:List NV)(L:List zaa)(d:Nat)(id nd e:Int):Int :=
 if id∉keys L then 5 else if nd∉nk M then 5 else if nx (getL L id).h e=0 then 8 else if e=1/\zji M L d id nd=false then 10 else 0
def plI(M:List NV)(L:List zaa)(id nd:Int):Int:=if id∈keys L/\nd∉nk M then 1 else 0
def plL(M:List NV)(L:List zaa)(d:Nat)(id nd e:Int):List zaa:=if plC M L d id nd e=0 then zde L id e nd (-1) else L
def cgC(L:List zaa)(id e:Int):Int:=if id∈keys L/\(e=1\/e=2) then 8 else zca L id e
def cgL(L:List zaa)(id e dl:Int):List zaa:=if cgC L id e=0 then zde L id e (-1) dl else L
structure Ok(d:Nat)(M:List NV)(L:List zaa):Prop where
 srt:G.Srt NV.k M
 lok:LOk L
 req:∀ y∈L,y.m=d/\∀ j,j<d->Amt (y.Z j)
 cap:∀ x∈M,∀ j,j<d->Amt (x.C j)
 fit:∀ x∈M,∀ j,j<d->zam L x.k j<=x.C j
 plc:∀ y∈L,2<=y.h->y.h<=4->y.d∈nk M
theorem zms{id:Int}{j:Nat}{y:zaa}(h:Amt (y.Z j)):0<=zbm id j y:=by
 unfold zbm
 split
 ·exact h.1
 ·omega
theorem zfu{L:List zaa}{id:Int}{j:Nat}(h:∀ y∈L,Amt (y.Z j)):0<=zam L id j:=by
 induction L with
 | nil=>exact Int.le_refl _
 | cons y L ih =>
   have h1:=zms (id:=id) (h y (by simp))
   have h2:=ih fun z hz=>h z (by simp[hz])
   show 0<=zbm id j y+zam L id j
   omega
theorem zhv{L:List zaa}{id:Int}{j:Nat}(h:∀ y∈L,Amt (y.Z j)):zam L id j<=L.length * 1099511627776:=by
 induction L with
 | nil=>exact Int.le_refl _
 | cons y L ih =>
   have h1:=h y (by simp)
   have h2:=ih fun z hz=>h z (by simp[hz])
   show zbm id j y+zam L id j<=_
   rw[List.length_cons,Int.natCast_add];unfold zbm;unfold Amt at h1
   split<;>omega
theorem zhc(L K:List zaa)(id:Int)(j:Nat):zam (L++K) id j=zam L id j+zam K id j:=by
 induction L with
 | nil=>show zam K id j=0+_;omega
 | cons y L ih =>
   show zbm id j y+zam (L++K) id j=zbm id j y+zam L id j+zam K id j
   rw[ih];omega
theorem ztk{L:List zaa}{f:zaa->zaa}{id:Int}{j:Nat}(h:∀ y∈L,zbm id j (f y)=zbm id j y):zam (L.map f) id j=zam L id j:=by
 induction L with
 | nil=>rfl
 | cons y L ih =>
   show zbm id j (f y)+zam (L.map f) id j=zbm id j y+zam L id j
   rw[h y (by simp),ih fun z hz=>h z (by simp[hz])]
theorem zzq{L:List zaa}(h:LOk L){k:Int}(hk:k∈keys L)(f:zaa->zaa)(id:Int)(j:Nat):
  zam (L.map fun y=>if y.k=k then f y else y) id j=zam L id j - zbm id j (getL L k)+zbm id j (f (getL L k)):=by
 have hn:=h.nod;have hg:∀ y∈L,y.k=k->y=getL L k:=fun y hy e=>by rw[<- e];exact(get_mem h hy).symm
 obtain⟨hm,hkk⟩:=get_some hk;generalize getL L k=z at *;clear h
 induction L with
 | nil=>cases hm
 | cons y L ih =>
   have hn2:(y.k :: keys L).Nodup:=hn;rw[List.nodup_cons] at hn2;show zbm id j (if y.k=k then f y else y)+zam (L.map fun y=>if y.k=k then f y else y) id j=zbm id j y+zam L id j - _+_
   by_cases e:y.k=k
   ·rw[if_pos e]
    have e2:=hg y (by simp) e
    have e3:(L.map fun y=>if y.k=k then f y else y)=L:=by
     conv=>rhs;rw[<- List.map_id L]
     refine List.map_congr_left fun x hx=>?_
     rw[if_neg fun e4=>hn2.1 (by rw[e,<- e4];exact List.mem_map_of_mem hx)]
     rfl
    rw[e3,e2];omega
   ·rw[if_neg e]
    have hm2:z∈L:=by
     rcases List.mem_cons.1 hm with rfl | hm2
     ·exact absurd hkk e
     ·exact hm2
    rw[ih (by rw[<- hkk];exact List.mem_map_of_mem hm2) hn2.2 (fun x hx=>hg x (by simp[hx])) hm2]
    omega
theorem Ok.nil(d:Nat):Ok d [] []:=⟨List.Pairwise.nil,LOk.nil,(fun _ h=>by cases h),(fun _ h=>by cases h),(fun _ h=>by cases h),fun _ h=>by cases h⟩
section
variable{d:Nat}{M:List NV}{L:List zaa}
theorem ajz{id:Int}(hk:id∈nk M):nget M id∈M/\(nget M id).k=id:=G.get_some hk
theorem Ok.amtL(h:Ok d M L){j:Nat}(hj:j<d):∀ y∈L,Amt (y.Z j):=fun y hy=>(h.req y hy).2 j hj
theorem zmj{k:Int}{n:Nat}{Z:Nat->Int}(h:adC M d k n Z=0):¬0<=zak n Z d/\k∉nk M:=by
 unfold adC at h
 by_cases h1:0<=zak n Z d
 ·rw[if_pos h1] at h;exact absurd h (by decide)
 ·rw[if_neg h1] at h
  by_cases h2:k∈nk M
  ·rw[if_pos h2] at h;exact absurd h (by decide)
  ·exact⟨h1,h2⟩
theorem Ok.free(h:Ok d M L){id:Int}(hk:id∉nk M)(j:Nat):zam L id j=0:=by
 have key:∀ y∈L,zbm id j y=0:=fun y hy=>by
  unfold zbm holds;rw[if_neg];intro e;have e:=of_decide_eq_true e;exact hk (by rw[<- e.1];exact h.plc y hy (by omega) (by omega))
 clear h
 induction L with
 | nil=>rfl
 | cons y L ih =>
   show zbm id j y+zam L id j=0
   rw[key y (by simp),ih fun z hz=>key z (by simp[hz])]
   rfl
theorem ajk(h:Ok d M L){k:Int}{n:Nat}{Z:Nat->Int}:Ok d (adL M d k n Z) L:=by
 unfold adL
 split
 ·rename_i h0
  obtain⟨h1,h2⟩:=zmj h0;obtain⟨e,ha⟩:=wrong_no h1;subst e;refine⟨G.ins_sorted h.srt h2,h.lok,h.req,fun x hx=>?_,fun x hx j hj=>?_,fun y hy h3 h4=>?_⟩
  ·rcases G.ins_mem.1 hx with rfl | hx
   ·exact ha
   ·exact h.cap x hx
  ·rcases G.ins_mem.1 hx with rfl | hx
   ·show zam L k j<=Z j
    rw[h.free h2];exact(ha j hj).1
   ·exact h.fit x hx j hj
  ·exact G.ins_keys.2 (Or.inr (h.plc y hy h3 h4))
 ·exact h
theorem zol(id:Int)(j:Nat)(x:zaa)(a:Int):zbm id j (zhi x a)=0:=by
 unfold zbm holds zhi;rw[if_neg];intro e;rcases(of_decide_eq_true e).2 with e | e<;>exact absurd (show(1:Int)=_ from e) (by decide)
theorem ali(h:Ok d M L){x:zaa}:Ok d M (sbL L d x):=by
 unfold sbL
 split
 ·exact h
 ·rename_i h0
  obtain⟨e,ha⟩:=wrong_no h0;have mem:∀ y∈zfs L 65536 x,y∈L\/y=zhi x L.length:=fun y hy=>by
   unfold zfs at hy
   split at hy
   ·rcases List.mem_append.1 hy with hy | hy
    ·exact Or.inl hy
    ·exact Or.inr (List.mem_singleton.1 hy)
   ·exact Or.inl hy
  have us:∀ id j,zam (zfs L 65536 x) id j=zam L id j:=fun id j=>by
   unfold zfs
   split
   ·rw[zhc]
    show _+(zbm id j (zhi x L.length)+0)=_
    rw[zol];omega
   ·rfl
  refine⟨h.srt,zxi h.lok,fun y hy=>?_,h.cap,fun z hz j hj=>by rw[us];exact h.fit z hz j hj,fun y hy h3 h4=>?_⟩
  ·rcases mem y hy with hy | rfl
   ·exact h.req y hy
   ·exact⟨e,fun j hj=>ha j (by omega)⟩
  ·rcases mem y hy with hy | rfl
   ·exact h.plc y hy h3 h4
   ·exact absurd h3 (by show ¬(2:Int)<=1;omega)
theorem zlq{id e nd dl:Int}(h0:zca L id e=0){y:zaa}(hy:y∈zde L id e nd dl):∃ z,z∈L/\((z.k=id/\y=zay z e nd dl)\/(z.k≠id/\y=z)):=by
 unfold zde at hy;rw[if_pos h0] at hy;obtain⟨z,hz,rfl⟩:=List.mem_map.1 hy
 by_cases e1:z.k=id
 ·exact⟨z,hz,Or.inl ⟨e1,if_pos e1⟩⟩
 ·exact⟨z,hz,Or.inr ⟨e1,if_neg e1⟩⟩
theorem zre(h:LOk L){id e nd dl:Int}(h0:zca L id e=0)(i:Int)(j:Nat):zam (zde L id e nd dl) i j=zam L i j - zbm i j (getL L id)+zbm i j (zay (getL L id) e nd dl):=by
 have hk:id∈keys L:=Classical.byContradiction fun hn=>by
  unfold zca at h0;rw[if_pos hn] at h0;exact absurd h0 (by decide)
 unfold zde;rw[if_pos h0];exact zzq h hk (fun y=>zay y e nd dl) i j
theorem zts{id e:Int}(h0:zca L id e=0):id∈keys L/\getL L id∈L/\(getL L id).k=id/\nx (getL L id).h e≠0:=by
 have hk:id∈keys L:=Classical.byContradiction fun hn=>by
  unfold zca at h0;rw[if_pos hn] at h0;exact absurd h0 (by decide)
 refine⟨hk,(get_some hk).1,(get_some hk).2,fun e1=>?_⟩
 unfold zca at h0;rw[if_neg (not_not_intro hk),if_pos e1] at h0;exact absurd h0 (by decide)
theorem zjs{id nd e:Int}(h:plC M L d id nd e=0):id∈keys L/\nd∈nk M/\nx (getL L id).h e≠0/\(e=1->zji M L d id nd=true):=by
 unfold plC at h
 by_cases h1:id∈keys L
 ·rw[if_neg (not_not_intro h1)] at h
  by_cases h2:nd∈nk M
  ·rw[if_neg (not_not_intro h2)] at h
   by_cases h3:nx (getL L id).h e=0
   ·rw[if_pos h3] at h;exact absurd h (by decide)
   ·rw[if_neg h3] at h
    refine⟨h1,h2,h3,fun e1=>?_⟩
    cases hf:zji M L d id nd with
    | true=>rfl
    | false=>rw[if_pos ⟨e1,hf⟩] at h;exact absurd h (by decide)
  ·rw[if_pos h2] at h;exact absurd h (by decide)
 ·rw[if_pos h1] at h;exact absurd h (by decide)
theorem zmb{id nd e:Int}(h:plC M L d id nd e=0):zca L id e=0:=by
 obtain⟨h1,_,h3,_⟩:=zjs h;unfold zca;rw[if_neg (not_not_intro h1),if_neg h3]
end
theorem aku{p:Int}(h:nx p 1≠0):(p=1\/p=2)/\nx p 1=3:=by
 unfold nx at h ⊢;rw[if_pos rfl] at h ⊢
 by_cases h1:p=1\/p=2
 ·exact⟨h1,if_pos h1⟩
 ·rw[if_neg h1] at h;exact absurd rfl h
theorem akv{p:Int}(h:nx p 2≠0):(p=1\/p=2)/\nx p 2=2:=by
 unfold nx at h ⊢;rw[if_neg (by decide),if_pos rfl] at h ⊢
 by_cases h1:p=1\/p=2
 ·exact⟨h1,if_pos h1⟩
 ·rw[if_neg h1] at h;exact absurd rfl h
theorem zsn{p:Int}(h:nx p 3≠0):p=2/\nx p 3=1:=by
 unfold nx at h ⊢;rw[if_neg (by decide),if_neg (by decide),if_pos rfl] at h ⊢
 by_cases h1:p=2
 ·exact⟨h1,if_pos h1⟩
 ·rw[if_neg h1] at h;exact absurd rfl h
theorem zws{p:Int}(h:nx p 4≠0):p=3/\nx p 4=4:=by
 unfold nx at h ⊢;rw[if_neg (by decide),if_neg (by decide),if_neg (by decide),if_pos rfl] at h ⊢
 by_cases h1:p=3
 ·exact⟨h1,if_pos h1⟩
 ·rw[if_neg h1] at h;exact absurd rfl h
theorem zwr{p:Int}(h:nx p 5≠0):(1<=p/\p<=4)/\nx p 5=5:=by
 unfold nx at h ⊢;rw[if_neg (by decide),if_neg (by decide),if_neg (by decide),if_neg (by decide),if_pos rfl] at h ⊢
 by_cases h1:1<=p/\p<=4
 ·exact⟨h1,if_pos h1⟩
 ·rw[if_neg h1] at h;exact absurd rfl h
theorem amn{p e:Int}(h:nx p e≠0):e=1\/e=2\/e=3\/e=4\/e=5:=by
 by_cases h1:e=1\/e=2\/e=3\/e=4\/e=5
 ·exact h1
 ·exfalso
  apply h
  unfold nx
  repeat' split
  all_goals first | rfl | omega
theorem zen{i:Int}{j:Nat}{y:zaa}(h:y.h≠3)(h2:y.h≠4):zbm i j y=0:=by
 unfold zbm holds;rw[if_neg];intro e;rcases(of_decide_eq_true e).2 with e | e
 ·exact h e
 ·exact h2 e
theorem zjl{i:Int}{j:Nat}{y:zaa}(h:y.h=3\/y.h=4):zbm i j y=if y.d=i then y.Z j else 0:=by
 unfold zbm holds
 by_cases e:y.d=i
 ·rw[if_pos (decide_eq_true ⟨e,h⟩),if_pos e]
 ·rw[if_neg (fun e2=>e (of_decide_eq_true e2).1),if_neg e]
section
variable{d:Nat}{M:List NV}{L:List zaa}
theorem zjt(h:LOk L){id nd e:Int}(he:e=1\/e=2)(h0:plC M L d id nd e=0)(i:Int)(j:Nat):zam (plL M L d id nd e) i j=zam L i j+if e=1/\nd=i then(getL L id).Z j else 0:=by
 obtain⟨_,_,h3,_⟩:=zjs h0;unfold plL;rw[if_pos h0,zre h (zmb h0)];rcases he with rfl | rfl
 ·obtain⟨ph,hn⟩:=aku h3
  rw[zen (by omega) (by omega),zjl (y:=zay (getL L id) 1 nd (-1)) (Or.inl hn)]
  have e1:(zay (getL L id) 1 nd (-1)).d=nd:=by unfold zay;simp
  rw[e1]
  by_cases e2:nd=i
  ·rw[if_pos e2,if_pos ⟨rfl,e2⟩]
   show _ - 0+(getL L id).Z j=_
   omega
  ·rw[if_neg e2,if_neg fun e3=>e2 e3.2]
   omega
 ·obtain⟨ph,hn⟩:=akv h3
  rw[zen (by omega) (by omega),zen (y:=zay (getL L id) 2 nd (-1)) (by show nx _ 2≠3;rw[hn];decide) (by show nx _ 2≠4;rw[hn];decide),if_neg fun e3=>absurd e3.1 (by decide)]
  omega
theorem abu(h:Ok d M L){id nd e:Int}(he:e=1\/e=2):Ok d M (plL M L d id nd e):=by
 by_cases h0:plC M L d id nd e=0
 ·obtain⟨h1,h2,h3,h4⟩:=zjs h0
  have us:=zjt (d:=d) (M:=M) h.lok he h0;unfold plL at us ⊢;rw[if_pos h0] at us ⊢;have ha:=zmb h0;refine⟨h.srt,zpp h.lok,fun y hy=>?_,h.cap,fun x hx j hj=>?_,fun y hy h5 h6=>?_⟩
  ·obtain⟨z,hz,⟨_,rfl⟩ | ⟨_,rfl⟩⟩:=zlq ha hy
   ·exact h.req z hz
   ·exact h.req y hz
  ·rw[us]
   split
   ·rename_i e5
    have hf:=(zrt.1 (h4 e5.1)) j hj;have ex:nget M x.k=x:=G.get_at h.srt hx;rw[e5.2,ex] at hf;exact hf
   ·have:=h.fit x hx j hj
    omega
  ·obtain⟨z,hz,⟨_,rfl⟩ | ⟨_,rfl⟩⟩:=zlq ha hy
   ·have e1:(zay z e nd (-1)).d=nd:=by
     unfold zay;show(if e=1\/e=2 then nd else _)=nd
     rw[if_pos he]
    rw[e1];exact h2
   ·exact h.plc y hz h5 h6
 ·unfold plL
  rw[if_neg h0];exact h
theorem zmo{id e:Int}(h:cgC L id e=0):zca L id e=0/\(e=3\/e=4\/e=5)/\id∈keys L:=by
 unfold cgC at h
 by_cases h1:id∈keys L/\(e=1\/e=2)
 ·rw[if_pos h1] at h;exact absurd h (by decide)
 ·rw[if_neg h1] at h
  obtain⟨a,_,_,b⟩:=zts h;have:=amn b;exact⟨h,by have:¬(e=1\/e=2):=fun e2=>h1 ⟨a,e2⟩;omega,a⟩
theorem zjf(h:LOk L){id e dl:Int}(h0:cgC L id e=0)(i:Int)(j:Nat):zam (cgL L id e dl) i j=zam L i j - if e=5 then zbm i j (getL L id) else 0:=by
 obtain⟨ha,he,_⟩:=zmo h0;obtain⟨_,_,_,hn⟩:=zts ha;unfold cgL;rw[if_pos h0,zre h ha];rcases he with rfl | rfl | rfl
 ·obtain⟨ph,hn⟩:=zsn hn
  rw[zen (by omega) (by omega),zen (y:=zay (getL L id) 3 (-1) dl) (by show nx _ 3≠3;rw[hn];decide) (by show nx _ 3≠4;rw[hn];decide),if_neg (by decide)]
  omega
 ·obtain⟨ph,hn⟩:=zws hn
  rw[zjl (Or.inl ph),zjl (y:=zay (getL L id) 4 (-1) dl) (Or.inr hn),if_neg (show ¬(4:Int)=5 by decide)]
  have e1:(zay (getL L id) 4 (-1) dl).d=(getL L id).d:=by unfold zay;simp
  rw[e1];show _ - _+(if (getL L id).d=i then(getL L id).Z j else 0)=_
  omega
 ·obtain⟨ph,hn⟩:=zwr hn
  rw[zen (y:=zay (getL L id) 5 (-1) dl) (by show nx _ 5≠3;rw[hn];decide) (by show nx _ 5≠4;rw[hn];decide),if_pos rfl]
  omega
theorem ztw(h:Ok d M L){id e dl:Int}:Ok d M (cgL L id e dl):=by
 by_cases h0:cgC L id e=0
 ·obtain⟨ha,he,hk⟩:=zmo h0
  obtain⟨_,hm,hkk,hn⟩:=zts ha;have us:=zjf (dl:=dl) h.lok h0;unfold cgL at us ⊢;rw[if_pos h0] at us ⊢;refine⟨h.srt,zpp h.lok,fun y hy=>?_,h.cap,fun x hx j hj=>?_,fun y hy h5 h6=>?_⟩
  ·obtain⟨z,hz,⟨_,rfl⟩ | ⟨_,rfl⟩⟩:=zlq ha hy
   ·exact h.req z hz
   ·exact h.req y hz
  ·rw[us]
   have h7:=h.fit x hx j hj;have h8:=zms (id:=x.k) (h.amtL hj _ hm)
   split<;>omega
  ·obtain⟨z,hz,⟨e1,rfl⟩ | ⟨_,rfl⟩⟩:=zlq ha hy
   ·have ez:getL L id=z:=by rw[<- e1];exact get_mem h.lok hz
    rw[ez] at hn;rw[ajl] at h5 h6;rcases he with rfl | rfl | rfl
    ·rw[(zsn hn).2] at h5;exact absurd h5 (by decide)
    ·have e2:(zay z 4 (-1) dl).d=z.d:=by unfold zay;simp
     rw[e2];have:=(zws hn).1;exact h.plc z hz (by omega) (by omega)
    ·rw[(zwr hn).2] at h6;exact absurd h6 (by decide)
   ·exact h.plc y hz h5 h6
 ·unfold cgL
  rw[if_neg h0];exact h
theorem amz{id:Int}{y:zaa}(h:onB id y=true):y.d=id/\2<=y.h/\y.h<=4:=of_decide_eq_true h
end
end Go.Proofs.YtcogiogjpbkeaaaGreatDoor.T14
namespace Go.Proofs.YtcogiogjpbkeaaaGreatDoor.C14
open Go.RowKit Go.Lib V12
abbrev I64:=T13.I64
structure NdC where
 k:Int
 A:Option Addr
 n:Nat
 c:Nat
 C:Nat->Int
def NdC.cells(x:NdC):List Value:=[.int .i64 x.k,.slice x.A x.n x.c]
def NdC.val(x:NdC):Value:=.agg #[.int .i64 x.k,.slice x.A x.n x.c]
def zp:NdC:=⟨0,none,0,0,fun _=>0⟩
structure zxp(x:NdC):Prop where
 k:I64 x.k
 t:True
structure CelN(w:World)(b o:Nat)(x:NdC):Prop where
 e0:w.cell? ⟨b,o,none⟩=some (.int .i64 x.k)
 e1:w.cell? ⟨b,o+1,none⟩=some (.slice x.A x.n x.c)
theorem CelN.keep{w w':World}{b o:Nat}{x:NdC}(h:CelN w b o x)(k:Keep w w'):CelN w' b o x:=⟨k.cell h.e0,k.cell h.e1⟩
theorem ziv{w:World}{g o:Nat}{x:NdC}(h:∀ i u,x.cells[i]?=some u->w.cell? ⟨g,o+i,none⟩=some u):CelN w g o x:=⟨h 0 _ rfl,h 1 _ rfl⟩
theorem CelN.all{w:World}{g o:Nat}{x:NdC}(h:CelN w g o x):∀ i u,x.cells[i]?=some u->w.cell? ⟨g,o+i,none⟩=some u:=by
 intro i u hu
 match i,hu with
 | 0,hu=>rw[<- Option.some.inj hu];exact h.e0
 | 1,hu=>rw[<- Option.some.inj hu];exact h.e1
 | i+2,hu=>cases hu
structure RdN(w:World)(A:Option Addr)(n:Nat)(P:Nat->NdC):Prop where
 small:n<=9223372036854775807
 adr:0<n->∃ b off,A=some ⟨b,off,none⟩/\∀ j,j<n->CelN w b (off+j * 2) (P j)
 ok:∀ j,j<n->zxp (P j)
theorem RdN.nil(w:World)(A:Option Addr)(P:Nat->NdC):RdN w A 0 P:=⟨by omega,fun h=>absurd h (Nat.lt_irrefl _),fun _ h=>absurd h (Nat.not_lt_zero _)⟩
theorem RdN.keep{w w':World}{A:Option Addr}{n:Nat}{P:Nat->NdC}(h:RdN w A n P)(k:Keep w w'):RdN w' A n P :=
 ⟨h.small,fun hn=>by
  obtain⟨b,off,e,c⟩:=h.adr hn
  exact⟨b,off,e,fun j hj=>(c j hj).keep k⟩,h.ok⟩
theorem RdN.congr{w:World}{A:Option Addr}{n:Nat}{P R:Nat->NdC}(h:RdN w A n P)(e:∀ j,j<n->P j=R j):RdN w A n R :=
 ⟨h.small,fun hn=>by
  obtain⟨b,off,e',c⟩:=h.adr hn
  exact⟨b,off,e',fun j hj=>by rw[<- e j hj];exact c j hj⟩,fun j hj=>by rw[<- e j hj];exact h.ok j hj⟩
theorem ajs(x:NdC):x.cells.length=2:=rfl
theorem cells_one(x:NdC):∀ u∈x.cells,u.oneCell'=true:=by
 intro u hu;simp only[NdC.cells,List.mem_cons,List.not_mem_nil,or_false] at hu;rcases hu with rfl | rfl<;>rfl
def zau(Q:Nat->NdC):Nat->List Value
 | 0=>[]
 | n+1=>zau Q n++(Q n).cells
theorem zcx(Q:Nat->NdC):∀ n,(zau Q n).length=n * 2
 | 0=>rfl
 | n+1=>by rw[zau,List.length_append,zcx Q n,ajs];omega
theorem zbp(Q:Nat->NdC):∀ n,∀ u∈zau Q n,u.oneCell'=true
 | 0,u,h=>by cases h
 | n+1,u,h=>by
   rcases List.mem_append.1 h with h | h
   ·exact zbp Q n u h
   ·exact cells_one _ u h
theorem zgy{Q R:Nat->NdC}:∀ n,(∀ j,j<n->Q j=R j)->zau Q n=zau R n
 | 0,_=>rfl
 | n+1,h=>by rw[zau,zau,zgy n (fun j hj=>h j (by omega)),h n (by omega)]
theorem zfm(Q:Nat->NdC):∀ (n j i:Nat),j<n->i<2->(zau Q n)[j * 2+i]?=(Q j).cells[i]?
 | 0,j,i,h,_=>absurd h (Nat.not_lt_zero _)
 | n+1,j,i,h,hi=>by
   rw[zau]
   by_cases e:j=n
   ·subst e
    rw[List.getElem?_append_right (by rw[zcx];omega),zcx]
    congr 1
    omega
   ·rw[List.getElem?_append_left (by rw[zcx];omega)]
    exact zfm Q n j i (by omega) hi
def put(Q:Nat->NdC)(n:Nat)(x:NdC):Nat->NdC:=fun j=>if j=n then x else Q j
theorem zat(Q:Nat->NdC)(n:Nat)(x:NdC):put Q n x n=x:=if_pos rfl
theorem zbj(Q:Nat->NdC)(n:Nat)(x:NdC){j:Nat}(h:j≠n):put Q n x j=Q j:=if_neg h
def lst(Q:Nat->NdC)(n:Nat):List NdC:=(List.range n).map Q
theorem lst_len(Q:Nat->NdC)(n:Nat):(lst Q n).length=n:=by simp[lst]
theorem zaw{Q:Nat->NdC}{n j:Nat}(h:j<n):(lst Q n)[j]?=some (Q j):=by simp[lst,h]
theorem lst_mem{Q:Nat->NdC}{n:Nat}{x:NdC}:x∈lst Q n↔∃ j,j<n/\Q j=x:=by simp[lst]
theorem lst_succ(Q:Nat->NdC)(n:Nat):lst Q (n+1)=lst Q n++[Q n]:=by simp[lst,List.range_succ]
theorem zfb{Q R:Nat->NdC}{n:Nat}(h:∀ j,j<n->Q j=R j):lst Q n=lst R n:=List.map_congr_left fun j hj=>h j (List.mem_range.1 hj)
theorem zib(Q:Nat->NdC)(n:Nat)(x:NdC):lst (put Q n x) (n+1)=lst Q n++[x]:=by
 rw[lst_succ,zat,zfb fun j hj=>zbj Q n x (by omega)]
def row(L:List NdC):Nat->NdC:=fun j=>L.getD j zp
theorem lst_row(L:List NdC):lst (row L) L.length=L:=by
 refine List.ext_getElem? fun j=>?_
 by_cases h:j<L.length
 ·rw[zaw h,List.getElem?_eq_getElem h]
  unfold row;rw[List.getD_eq_getElem?_getD,List.getElem?_eq_getElem h];rfl
 ·rw[List.getElem?_eq_none (by rw[lst_len];omega),List.getElem?_eq_none (by omega)]
theorem zan{w:World}{base n z:Nat}{e:TypeId}{v:Value}{xs:List Value}(h:w.ownsRow base e z v n xs):∃ A cap,v=.slice A n cap/\(A=none->n=0/\cap=0):=by
 rcases h.2 with ⟨rfl,rfl⟩ | ⟨g,cap,cur,rfl,_⟩
 ·exact⟨none,0,rfl,fun _=>⟨rfl,rfl⟩⟩
 ·exact⟨_,cap,rfl,fun h=>by cases h⟩
theorem zal{w w':World}{base n:Nat}{e:TypeId}{z:Nat}{v:Value}{xs:List Value}(h:w.ownsRow base e z v n xs)(k:Keep w w'):w'.ownsRow base e z v n xs :=
 h.kept k.grown (Classical.em (v.ownBlock=none))
theorem zbx{w:World}{base base':Nat}{e:TypeId}{size:Nat}{v:Value}{n:Nat}{xs:List Value}(h:w.ownsRow base e size v n xs)(hb:base'<=base):w.ownsRow base' e size v n xs:=by
 rcases h with ⟨h1,h2 | ⟨g,cap,cur,h3,h4,h5⟩⟩
 ·exact⟨h1,.inl h2⟩
 ·exact⟨h1,.inr ⟨g,cap,cur,h3,by omega,h5⟩⟩
theorem zds{w:World}{base n z c:Nat}{e:TypeId}{A:Option Addr}{xs:List Value}(h:w.ownsRow base e z (.slice A n c) n xs):n<=c:=by
 rcases h.2 with ⟨hv,h0⟩ | ⟨_,_,_,hv,_,_,hc,_⟩
 ·omega
 ·simp only[Value.slice.injEq] at hv
  omega
theorem zao{w w':World}{base n z:Nat}{e:TypeId}{v:Value}{xs:List Value}(h:w.ownsRow base e z v n xs)(hs:∀ g,v.ownBlock=some g->w'.heap[g]?=w.heap[g]?):w'.ownsRow base e z v n xs:=by
 rcases h with ⟨h1,h2 | ⟨g,cap,cur,rfl,h4,h5,h6⟩⟩
 ·exact⟨h1,.inl h2⟩
 ·exact⟨h1,.inr ⟨g,cap,cur,rfl,h4,(hs g rfl).trans h5,h6⟩⟩
theorem zad{w a b:World}(k:Keep w a){row:Option Nat}(hg:a.grownBy b row)(hrow:∀ g,row=some g->w.heap.size<=g):Keep w b :=
 Below.grown k hg k.size hrow
theorem zdh{W:World}{base k:Nat}{e:TypeId}(hb:base<=k)(h:W.heap[k]?=some (.cells #[] e (0,0))):W.ownsRow base e 2 (.slice (some ⟨k,0,none⟩) 0 0) 0 []:=
 ⟨rfl,.inr ⟨k,0,#[],rfl,hb,h,Nat.le_refl _,Nat.zero_le _,rfl,rfl⟩⟩
theorem zcg{w:World}{base n g cap:Nat}{e:TypeId}{Q:Nat->NdC}(h:w.ownsRow base e 2 (.slice (some ⟨g,0,none⟩) n cap) n (zau Q n)){j:Nat}(hj:j<n):CelN w g (0+j * 2) (Q j):=by
 refine ziv fun i u hu=>?_
 have hi:i<2:=(List.getElem?_eq_some_iff.1 hu).1;rw[Nat.zero_add,h.cellAt (j * 2+i) (by omega),zfm Q n j i hj hi,hu]
theorem zxb{w:World}{base n:Nat}{e:TypeId}{B:Option Addr}{d:Nat}{Q:Nat->NdC}(h:w.ownsRow base e 2 (.slice B n d) n (zau Q n))(hn:n<=9223372036854775807)(hi:∀ j,j<n->zxp (Q j)):RdN w B n Q :=
 ⟨hn,fun hp=>by
  obtain⟨g,cap,e,_,_⟩:=h.form hp;have e':=e;simp only[Value.slice.injEq] at e';obtain⟨rfl,_,rfl⟩:=e'
  exact⟨g,0,rfl,fun t ht=>zcg h ht⟩,hi⟩
def zdq(w:World)(X:Value)(m:Nat)(news:List Value):Prop :=
 (X=.slice none 0 0/\m=0/\news=[])\/∃ ad c,X=.slice (some ad) m c/\news.length=m * 2/\∀ j u,news[j]?=some u->w.cell? (ad.add j)=some u
theorem zbh{W:World}{k:Nat}{e:TypeId}{x:NdC}(h:W.heap[k]?=some (.cells #[.int .i64 x.k,.slice x.A x.n x.c] e (0,0))):zdq W (.slice (some ⟨k,0,none⟩) 1 1) 1 x.cells:=by
 refine .inr ⟨_,_,rfl,rfl,fun j u hu=>?_⟩
 rw[WideShapes.add_plain,Nat.zero_add,cell_of_row W k j _ _ _ h,List.getElem?_toArray];exact hu
theorem zeu{w:World}{b off i n c:Nat}{Q:Nat->NdC}(h:∀ j,j<n->CelN w b (off+(i+j) * 2) (Q j))(o:Nat)(ho:n=0\/o=off+i * 2):zdq w (.slice (some ⟨b,o,none⟩) n c) n (zau Q n):=by
 refine .inr ⟨_,_,rfl,zcx _ _,fun j u hu=>?_⟩
 have hj:j<n * 2:=by have:=(List.getElem?_eq_some_iff.1 hu).1;rwa [zcx] at this
 rcases ho with rfl | rfl
 ·omega
 rw[WideShapes.add_plain];have h1:j / 2<n:=by omega
 have h2:j % 2<2:=Nat.mod_lt _ (by omega)
 have hg:=zfm Q n (j / 2) (j % 2) h1 h2;rw[show j / 2 * 2+j % 2=j by omega,hu] at hg
 have:=(h (j / 2) h1).all (j % 2) u hg.symm
 rwa [show off+(i+j / 2) * 2+j % 2=off+i * 2+j by omega] at this
theorem zge{w:World}{A:Option Addr}{n c:Nat}{P:Nat->NdC}(h:RdN w A n P)(h0:A=none->n=0/\c=0):zdq w (.slice A n c) n (zau P n):=by
 cases A with
 | none =>
   obtain⟨rfl,rfl⟩:=h0 rfl;exact .inl ⟨rfl,rfl,rfl⟩
 | some a =>
   by_cases hn:0<n
   ·obtain⟨b,off,e,hc⟩:=h.adr hn
    obtain rfl:=Option.some.inj e;exact zeu (off:=off) (i:=0) (fun j hj=>by rw[Nat.zero_add];exact hc j hj) off (Or.inr (by omega))
   ·obtain rfl:n=0:=by omega
    exact .inr ⟨a,c,rfl,rfl,fun j u hu=>by cases hu⟩
structure TyP(e es:TypeId):Prop where
 info:(Tryz.prog.info? e).map (fun i=>(i.zero,i.size,i.bytes))=some (some (.agg #[.int .i64 0,.slice none 0 0]),2,32)
 und:Tryz.prog.underlying es=some (.slice e)
theorem Tryz.tyC14:TyP 56 22:=⟨by kernel_rfl,Tryz.underlying22⟩
theorem atN(b off n cp j:Nat)(hj:j<n)(W:World):(Instr.indexAt 22 (.slice (some ⟨b,off,none⟩) n cp) (.int .i64 j)).run Tryz.prog W=.ok (.pointer (some ⟨b,off+j * 2,none⟩)) W:=by
 go_simp
section
variable{ops:Array Oper}{rest:List Oper}{o:Oper}{a:Act}{w:World}{K:Act->World->Prop}{Q:Exit->Act->World->Prop}{E:Prop}{e es:TypeId}
theorem zdz(T:TyP e es)(hgd:o.guard=none)(s x:Operand)(ho:o.op=.call { callee:=.builtin .append,args:=#[s,x],argTypes:=#[es,es] })
  (base:Nat) (v:Value) (n:Nat) (xs:List Value) (hs:a.eval s=v) (hown:w.ownsRow base e 2 v n xs) (X:Value) (m:Nat) (news:List Value) (hx:a.eval x=X) (hsrc:zdq w X m news) (h1:∀ u∈news,u.oneCell'=true)
  (hlim:n+m<=1048577) (hbase:base<=w.heap.size) (N:Nat) (hN:n+m=N)
  (h:∀ v' w',w'.ownsRow base e 2 v' N (xs++news)->w.grownBy w' v.ownBlock->wpList Tryz.prog ops Q rest (a.put o.dst v') w'):wpList Tryz.prog ops Q (o :: rest) a w:=by
 subst hN;obtain⟨i0,hi0,hz0,hz1,hz2⟩:=info_parts T.info;rcases hsrc with ⟨rfl,rfl,rfl⟩ | ⟨ad,c,rfl,hl,hc⟩
 ·exact wpList_append_own_none hgd s x es ho base e i0 2 T.und hi0 v n xs hs hown hx (h v w (by rw[List.append_nil];exact hown) ⟨rfl,rfl,rfl,Nat.le_refl _,fun _ _ _=>rfl⟩)
 ·exact wpList_append_own (P:=Tryz.prog) w hgd s x es ho base e i0 _ 2 32 T.und hi0 hz0 hz1 hz2 rfl (by decide) v n xs hs hown ad m c news hx hl hc h1 (by unfold maxLen;omega) (by omega) hbase fun v' w' h2 h3 _=>h v' w' h2 h3
theorem zbi(T:TyP e es)(hgd:o.guard=none)(s x:Operand)(ho:o.op=.call { callee:=.builtin .append,args:=#[s,x],argTypes:=#[es,es] })
  (base:Nat) (v:Value) (n:Nat) (xs:List Value) (hs:a.eval s=v) (hown:w.ownsRow base e 2 v n xs) (X:Value) (m:Nat) (news:List Value) (hx:a.eval x=X) (hsrc:zdq w X m news) (h1:∀ u∈news,u.oneCell'=true)
  (hlim:n+m<=1048577) (hbase:base<=w.heap.size) (N:Nat) (hN:n+m=N)
  (h:∀ v' w',w'.ownsRow base e 2 v' N (xs++news)->w.grownBy w' v.ownBlock->K (a.put o.dst v') w') :
  if Region.wanted o (yielded ops a.tmps)=true then Oper.wp Tryz.prog o a w K Q else E:=by
 have hw:Region.wanted o (yielded ops a.tmps)=true:=by simp[Region.wanted,hgd]
 rw[if_pos hw];subst hN;obtain⟨i0,hi0,hz0,hz1,hz2⟩:=info_parts T.info;rcases hsrc with ⟨rfl,rfl,rfl⟩ | ⟨ad,c,rfl,hl,hc⟩
 ·have hrun:=run_append_owned_none (P:=Tryz.prog) (w:=w) base es o.type e i0 2 T.und hi0 v n xs hown
  have hg:w.grownBy w v.ownBlock:=⟨rfl,rfl,rfl,Nat.le_refl _,fun _ _ _=>rfl⟩
  have:=h v w (by rw[List.append_nil];exact hown) hg
  unfold Oper.wp;simp[execOp,ho,resolve,invoke,builtin,hs,hx,hrun,Result.andThen]
  exact this
 ·exact wp_append_own (P:=Tryz.prog) w s x es ho base e i0 _ 2 32 T.und hi0 hz0 hz1 hz2 rfl (by decide) v n xs hs hown ad m c news hx hl hc h1 (by unfold maxLen;omega) (by omega) hbase fun v' w' h2 h3 _=>h v' w' h2 h3
end
structure RdC(w:World)(A:Option Addr)(n:Nat)(P:Nat->NdC):Prop where
 row:RdN w A n P
 rd:∀ j,j<n->Rd w (P j).A (P j).n (P j).C
 nil:∀ j,j<n->(P j).A=none->(P j).n=0/\(P j).c=0
theorem RdC.keep{w w':World}{A:Option Addr}{n:Nat}{P:Nat->NdC}(h:RdC w A n P)(k:Keep w w'):RdC w' A n P:=⟨h.row.keep k,fun j hj=>(h.rd j hj).keep k,h.nil⟩
theorem RdC.none(w:World)(A:Option Addr)(P:Nat->NdC):RdC w A 0 P:=⟨RdN.nil _ _ _,fun _ h=>absurd h (Nat.not_lt_zero _),fun _ h=>absurd h (Nat.not_lt_zero _)⟩
end Go.Proofs.YtcogiogjpbkeaaaGreatDoor.C14
namespace Go.Proofs.YtcogiogjpbkeaaaGreatDoor.T13
open Go.RowKit Go.Sort Go.Lib V12
def flt(c n:Int):Value:=(Base.fault c n).val
def fltC(c:Int):Value:=if c=0 then .nilIface else flt c 0
abbrev ame:=World->Int->Nat->List zaa->(Nat->Prop)->World->Prop
def rb(r:zaa)(i:Nat):Prop:=0<r.m/\∃ o,r.A=some ⟨i,o,none⟩
structure Con(OS:ame):Prop where
 kp:∀ {w s q L X w1},OS w s q L X w1->Keep w w1
 keep:∀ {w s q L X w1 w2},OS w s q L X w1->Keep w1 w2->OS w s q L X w2
 more:∀ {w s q L X w1 w2} {Z:Nat->Prop},OS w s q L X w1->Keep w1 w2->(∀ i,Z i->w1.heap.size<=i/\i<w2.heap.size)->OS w s q L (fun i=>X i\/Z i) w2
 less:∀ {w s q L X w1} {Z:Nat->Prop},OS w s q L X w1->(∀ i,Z i->X i)->OS w s q L Z w1
 write:∀ {w s q L X w1 w2},OS w s q L X w1->Keep w w2->w1.heap.size<=w2.heap.size->(∀ k,k<w1.heap.size->¬X k->w2.heap[k]?=w1.heap[k]?)->OS w s q L X w2
 grow:∀ {w s q L X w1 w2} {Z:Nat->Prop},OS w s q L X w1->Keep w w2->w1.heap.size<=w2.heap.size->(∀ k,k<w1.heap.size->¬X k->w2.heap[k]?=w1.heap[k]?)->(∀ i,Z i->w1.heap.size<=i/\i<w2.heap.size)->OS w s q L (fun i=>X i\/Z i) w2
 lt:∀ {w s q L X w1},OS w s q L X w1->∀ i,X i->i<w1.heap.size
 ok:∀ {w s q L X w1},OS w s q L X w1->LOk L
 new:∀ (s:Int) (w w0:World),Keep w w0->I64 s->Calls Tryz.prog 53 #[.int .i64 s] w0 fun e w'=>∃ q,e=.returned (.pointer (some ⟨q,0,none⟩))/\OS w s q [] (fun _=>False) w'/\Keep w0 w'
 submit:∀ {w s q L X w1} (x:zaa),OS w s q L X w1->zbk w1->zah w1 x->x.m<=1000->L.length<=1000 ->
  Calls Tryz.prog 60 #[.pointer (some ⟨q,0,none⟩),x.val] w1 fun e w'=>∃ r,e=.returned (.tuple #[r.val,fltC (zez L s x)])/\(zez L s x=0->nm r=zhi x L.length)/\(zez L s x≠0->nm r=zaf)/\zah w' r/\Req w' w1.heap.size r/\OS w s q (zfs L s x) (fun i=>X i\/rb r i) w'/\∀ i,X i->w'.heap[i]?=w1.heap[i]?
 apply:∀ {w s q L X w1} (id e nd dl:Int),OS w s q L X w1->zbk w1->I64 id->I64 e->I64 nd->I64 dl->(∀ y∈L,y.m<=1000)->L.length<=1000 ->
  Calls Tryz.prog 67 #[.pointer (some ⟨q,0,none⟩),.int .i64 id,.int .i64 e,.int .i64 nd,.int .i64 dl] w1 fun e' w'=>∃ r,e'=.returned (.tuple #[r.val,fltC (zca L id e)])/\(zca L id e=0->nm r=zay (getL L id) e nd dl)/\(zca L id e≠0->nm r=zaf)/\zah w' r/\Req w' w1.heap.size r/\OS w s q (zde L id e nd dl) (fun i=>X i\/rb r i) w'/\∀ i,X i->w'.heap[i]?=w1.heap[i]?
 get:∀ {w s q L X w1} (id:Int),OS w s q L X w1->I64 id->(∀ y∈L,y.m<=1000) ->
  Calls Tryz.prog 102 #[.pointer (some ⟨q,0,none⟩),.int .i64 id] w1 fun e w'=>∃ r,e=.returned (.tuple #[r.val,.bool (decide (id∈keys L))])/\nm r=getL L id/\zah w' r/\Req w' w1.heap.size r/\Keep w1 w'
 on:∀ {w s q L X w1} (nd:Int),OS w s q L X w1->(∀ y∈L,y.m<=1000)->L.length<=1000 ->
  Calls Tryz.prog 73 #[.pointer (some ⟨q,0,none⟩),.int .i64 nd] w1 fun e w'=>∃ v S,e=.returned v/\zas w' w1.heap.size v (L.filter (onB nd)).length S/\(lst S (L.filter (onB nd)).length).map nm=L.filter (onB nd)/\Keep w1 w'
 submitNil:∀ (x:zaa) (w:World),zbk w->zah w x->Calls Tryz.prog 60 #[.pointer none,x.val] w fun e w'=>∃ r:zaa,e=.returned (.tuple #[r.val,flt 5 0])/\nm r=zaf/\Keep w w'
def zbe(X:Nat->Prop)(w1 w2:World):Prop:=∀ i,X i->w2.heap[i]?=w1.heap[i]?
structure RL(w:World)(X:Nat->Prop)(w1:World)(B:Option Addr)(c n:Nat)(P:Nat->zaa):Prop where
 rd:zai w1 B n P
 cap:n<=c
 pl:(B=none/\n=0/\c=0)\/∃ g,B=some ⟨g,0,none⟩/\X g
 is:∀ j,j<n->zah w (P j)
theorem RL.nil(w:World)(X:Nat->Prop)(w1:World):RL w X w1 none 0 0 (fun _=>zaf):=⟨zai.nil _ _ _,Nat.le_refl _,Or.inl ⟨rfl,rfl,rfl⟩,fun _ h=>absurd h (Nat.not_lt_zero _)⟩
theorem RL.keep{w:World}{X:Nat->Prop}{w1 w2:World}{B:Option Addr}{c n:Nat}{P:Nat->zaa}(h:RL w X w1 B c n P)(k:Keep w1 w2):RL w X w2 B c n P:=⟨h.rd.keep k,h.cap,h.pl,h.is⟩
theorem RL.less{w:World}{X Z:Nat->Prop}{w1:World}{B:Option Addr}{c n:Nat}{P:Nat->zaa}(h:RL w X w1 B c n P)(hZ:∀ i,X i->Z i):RL w Z w1 B c n P:=⟨h.rd,h.cap,h.pl.imp id fun ⟨g,e,hg⟩=>⟨g,e,hZ g hg⟩,h.is⟩
theorem zbu{w1 w2:World}{a:Addr}{v:Value}(h:w1.cell? a=some v)(e:w2.heap[a.block]?=w1.heap[a.block]?):w2.cell? a=some v:=by
 rw[World.cell?_of_block (w:=w1) e];exact h
theorem zcr.same{w1 w2:World}{b o:Nat}{x:zaa}(h:zcr w1 b o x)(e:w2.heap[b]?=w1.heap[b]?):zcr w2 b o x :=
 ⟨zbu h.e0 e,zbu h.e1 e,zbu h.e2 e,zbu h.e3 e,zbu h.e4 e,zbu h.e5 e,zbu h.e6 e,zbu h.e7 e,zbu h.e8 e⟩
theorem RL.same{w:World}{X:Nat->Prop}{w1 w2:World}{B:Option Addr}{c n:Nat}{P:Nat->zaa}(h:RL w X w1 B c n P)(k:Keep w w2)(f:zbe X w1 w2):RL w X w2 B c n P:=by
 refine⟨⟨h.rd.small,fun hn=>?_,fun j hj=>(h.is j hj).keep k⟩,h.cap,h.pl,h.is⟩
 obtain⟨b,off,e,hc⟩:=h.rd.adr hn;rcases h.pl with ⟨_,h0,_⟩ | ⟨g,eg,hg⟩
 ·omega
 ·have e2:=Option.some.inj (eg.symm.trans e)
  simp only[Addr.mk.injEq,and_true] at e2;refine⟨b,off,e,fun j hj=>(hc j hj).same ?_⟩
  rw[<- e2.1];exact f g hg
end Go.Proofs.YtcogiogjpbkeaaaGreatDoor.T13
namespace Go.Proofs.YtcogiogjpbkeaaaGreatDoor.T14
open Go.RowKit Go.Sort Go.Lib V12 T13
def zdb(c n:Int):Value:=if c=0 then .nilIface else flt c n
abbrev zbn:=World->Nat->Nat->List NV->List zaa->(Nat->Prop)->World->Prop
def nv(x:C14.NdC):NV:=⟨x.k,x.C⟩
structure Con(CS:zbn):Prop where
 kp:∀ {w d q M L X w1},CS w d q M L X w1->Keep w w1
 keep:∀ {w d q M L X w1 w2},CS w d q M L X w1->Keep w1 w2->CS w d q M L X w2
 more:∀ {w d q M L X w1 w2} {Z:Nat->Prop},CS w d q M L X w1->Keep w1 w2->(∀ i,Z i->w1.heap.size<=i/\i<w2.heap.size)->CS w d q M L (fun i=>X i\/Z i) w2
 less:∀ {w d q M L X w1} {Z:Nat->Prop},CS w d q M L X w1->(∀ i,Z i->X i)->CS w d q M L Z w1
 write:∀ {w d q M L X w1 w2},CS w d q M L X w1->Keep w w2->w1.heap.size<=w2.heap.size->(∀ k,k<w1.heap.size->¬X k->w2.heap[k]?=w1.heap[k]?)->CS w d q M L X w2
 lt:∀ {w d q M L X w1},CS w d q M L X w1->∀ i,X i->i<w1.heap.size
 ok:∀ {w d q M L X w1},CS w d q M L X w1->Ok d M L
 addNode:∀ {w d q M L X w1} (k:Int) (A:Option Addr) (n c:Nat) (Z:Nat->Int),CS w d q M L X w1->zbk w1->Rd w1 A n Z->(A=none->n=0/\c=0)->I64 k->n<=1000->M.length<=100 ->
  Calls Tryz.prog 28 #[.pointer (some ⟨q,0,none⟩),.agg #[.int .i64 k,.slice A n c]] w1 fun e w'=>e=.returned (zdb (adC M d k n Z) (wrI d n Z))/\CS w d q (adL M d k n Z) L X w'/\zbe X w1 w'
 submit:∀ {w d q M L X w1} (x:zaa),CS w d q M L X w1->zbk w1->zah w1 x->x.m<=1000->L.length<=100 ->
  Calls Tryz.prog 30 #[.pointer (some ⟨q,0,none⟩),x.val] w1 fun e w'=>∃ r,e=.returned (.tuple #[r.val,zdb (sbC L d x) (wrI d x.m x.Z)])/\(sbC L d x=0->nm r=zhi x L.length)/\(sbC L d x≠0->nm r=zaf)/\zah w' r/\Req w' w1.heap.size r/\CS w d q M (sbL L d x) X w'/\zbe X w1 w'
 bind:∀ {w d q M L X w1} (id nd:Int),CS w d q M L X w1->zbk w1->I64 id->I64 nd->M.length<=100->L.length<=100 ->
  Calls Tryz.prog 32 #[.pointer (some ⟨q,0,none⟩),.int .i64 id,.int .i64 nd] w1 fun e w'=>∃ r,e=.returned (.tuple #[r.val,zdb (plC M L d id nd 1) (plI M L id nd)])/\(plC M L d id nd 1=0->nm r=zay (getL L id) 1 nd (-1))/\(plC M L d id nd 1≠0->nm r=zaf)/\zah w' r/\Req w' w1.heap.size r/\CS w d q M (plL M L d id nd 1) X w'/\zbe X w1 w'
 claim:∀ {w d q M L X w1} (id nd:Int),CS w d q M L X w1->zbk w1->I64 id->I64 nd->M.length<=100->L.length<=100 ->
  Calls Tryz.prog 62 #[.pointer (some ⟨q,0,none⟩),.int .i64 id,.int .i64 nd] w1 fun e w'=>∃ r,e=.returned (.tuple #[r.val,zdb (plC M L d id nd 2) (plI M L id nd)])/\(plC M L d id nd 2=0->nm r=zay (getL L id) 2 nd (-1))/\(plC M L d id nd 2≠0->nm r=zaf)/\zah w' r/\Req w' w1.heap.size r/\CS w d q M (plL M L d id nd 2) X w'/\zbe X w1 w'
 change:∀ {w d q M L X w1} (id ev dl:Int),CS w d q M L X w1->zbk w1->I64 id->I64 ev->I64 dl->M.length<=100->L.length<=100 ->
  Calls Tryz.prog 63 #[.pointer (some ⟨q,0,none⟩),.int .i64 id,.int .i64 ev,.int .i64 dl] w1 fun e w'=>∃ r,e=.returned (.tuple #[r.val,zdb (cgC L id ev) 0])/\(cgC L id ev=0->nm r=zay (getL L id) ev (-1) dl)/\(cgC L id ev≠0->nm r=zaf)/\zah w' r/\Req w' w1.heap.size r/\CS w d q M (cgL L id ev dl) X w'/\zbe X w1 w'
 node:∀ {w d q M L X w1} (id:Int),CS w d q M L X w1->I64 id->M.length<=100 ->
  Calls Tryz.prog 84 #[.pointer (some ⟨q,0,none⟩),.int .i64 id] w1 fun e w'=>∃ k A n c,e=.returned (.tuple #[.agg #[.int .i64 k,.slice A n c],.bool (decide (id∈nk M))])/\(id∈nk M->k=id/\n=d/\Rd w' A d (nget M id).C/\∀ b o,0<n->A=some ⟨b,o,none⟩->w1.heap.size<=b)/\(A=none->n=0/\c=0)/\Keep w1 w'
 on:∀ {w d q M L X w1} (nd:Int),CS w d q M L X w1->I64 nd->L.length<=100 ->
  Calls Tryz.prog 36 #[.pointer (some ⟨q,0,none⟩),.int .i64 nd] w1 fun e w'=>∃ v S,e=.returned v/\zas w' w1.heap.size v (L.filter (onB nd)).length S/\(lst S (L.filter (onB nd)).length).map nm=L.filter (onB nd)/\Keep w1 w'
 dims:∀ {w d q M L X w1},CS w d q M L X w1->Calls Tryz.prog 59 #[.pointer (some ⟨q,0,none⟩)] w1 fun e w'=>e=.returned (.int .i64 d)/\Keep w1 w'
end Go.Proofs.YtcogiogjpbkeaaaGreatDoor.T14
namespace Go.Proofs.YtcogiogjpbkeaaaGreatDoor.T15
open Go.RowKit Go.Sort Go.Lib V12 T13 T14
def zcj(p:zaa)(nd:Int)(q:zaa):Bool:=decide (q.k≠p.k/\q.h=2/\q.d=nd/\p.p<=q.p)
def zbt(p:zaa)(nd:Int)(L:List zaa):List zaa:=L.filter (zcj p nd)
structure Two(w W:World)(p q:zaa):Prop where
 k:Keep w W
 b0:W.heap[w.heap.size]?=some (.cells (zac p) 26 (0,0))
 b1:W.heap[w.heap.size+1]?=some (.cells (zac q) 26 (0,0))
theorem two(w:World)(p q:zaa):Two w ((w.alloc (.cells (zac p) 26)).alloc (.cells (zac q) 26)) p q:=by
 have h1:=heap_alloc_new (w.alloc (.cells (zac p) 26)) (.cells (zac q) 26);rw[World.size_alloc] at h1;exact⟨(Keep.one _ _).alloc _,(Keep.one _ _).block (heap_alloc_new _ _),h1⟩
def zbs:List zaa->Nat->Int
 | [],_=>0
 | y :: L,j=>y.Z j+zbs L j
theorem zhu(L K:List zaa)(j:Nat):zbs (L++K) j=zbs L j+zbs K j:=by
 induction L with
 | nil=>show zbs K j=0+zbs K j;omega
 | cons y L ih=>show y.Z j+zbs (L++K) j=y.Z j+zbs L j+_;rw[ih];omega
theorem zjz{L:List zaa}{j:Nat}(h:∀ y∈L,Amt (y.Z j)):0<=zbs L j/\zbs L j<=L.length * 1099511627776:=by
 induction L with
 | nil=>exact⟨Int.le_refl _,Int.le_refl _⟩
 | cons y L ih =>
   have h1:=h y (by simp)
   have h2:=ih fun z hz=>h z (by simp[hz])
   unfold Amt at h1;show 0<=y.Z j+zbs L j/\y.Z j+zbs L j<=_
   rw[List.length_cons,Int.natCast_add];omega
theorem zqs{L K:List zaa}(h:L.map nm=K)(j:Nat):zbs K j=zbs L j:=by
 subst h
 induction L with
 | nil=>rfl
 | cons y L ih=>show y.Z j+zbs (L.map nm) j=y.Z j+zbs L j;rw[ih]
theorem zpf(S:Nat->zaa)(j:Nat):∀ n,sumTo (n+1) (fun r=>if r=0 then 0 else(S (r - 1)).Z j)=zbs (T13.lst S n) j
 | 0=>rfl
 | n+1=>by
   rw[lst_succ,zhu,<- zpf S j n];show sumTo (n+1) _+(if n+1=0 then 0 else(S (n+1 - 1)).Z j)=_
   rw[if_neg (by omega),Nat.add_sub_cancel]
   show _=_+((S n).Z j+0)
   omega
set_option maxRecDepth 100000 in
set_option maxHeartbeats 4000000 in
theorem adg(p q:zaa)(nd:Int)(w:World):Calls Tryz.prog 143 #[p.val,q.val,.int .i64 nd] w fun e w'=>e=.returned (.bool (zcj p nd q))/\Keep w w':=by
 have T:=two w p q;have KW:=Zq T.k;have P0:=zae T.b0;have Q0:=zae T.b1;have p0:=P0.e0;have p1:=P0.e1;have q0:=Q0.e0;have q1:=Q0.e1;have q6:=Q0.e6;have q7:=Q0.e7;clear P0 Q0 T;unfold zac at p0 p1 q0 q1 q6 q7;unfold zaa.val
 by_cases h2:q.h=2
 ·have b2:(q.h != 2)=false:=by simp[h2]
  by_cases h3:q.d=nd
  ·have b3:(q.d != nd)=false:=by simp[h3]
   by_cases h1:p.k=q.k
   ·have b1:(p.k != q.k)=false:=by simp[h1]
    have e:zcj p nd q=false:=decide_eq_false fun h=>h.1 h1.symm
    rw[e];replace h1:=Zq h1;replace h2:=Zq h2;replace h3:=Zq h3
    go_enter Tryz.func143,Tryz.ntmps143
    go_wp2;go_ret
    exact⟨rfl,KW.out⟩
   ·have b1:(p.k != q.k)=true:=by simp[h1]
    have e:zcj p nd q=decide (p.p<=q.p):=by
     unfold zcj;rw[decide_eq_decide];exact⟨fun h=>h.2.2.2,fun h=>⟨fun e=>h1 e.symm,h2,h3,h⟩⟩
    rw[e];replace h1:=Zq h1;replace h2:=Zq h2;replace h3:=Zq h3
    go_enter Tryz.func143,Tryz.ntmps143
    go_wp2;go_ret
    exact⟨rfl,KW.out⟩
  ·have b3:(q.d != nd)=true:=by simp[h3]
   have e:zcj p nd q=false:=decide_eq_false fun h=>h3 h.2.2.1
   rw[e];replace h2:=Zq h2;replace h3:=Zq h3
   go_enter Tryz.func143,Tryz.ntmps143
   go_wp2;go_ret
   exact⟨rfl,KW.out⟩
 ·have b2:(q.h != 2)=true:=by simp[h2]
  have e:zcj p nd q=false:=decide_eq_false fun h=>h2 h.2.1
  rw[e];replace h2:=Zq h2
  go_enter Tryz.func143,Tryz.ntmps143
  go_wp2;go_ret
  exact⟨rfl,KW.out⟩
end Go.Proofs.YtcogiogjpbkeaaaGreatDoor.T15
namespace Go.Proofs.YtcogiogjpbkeaaaGreatDoor.C14
open Go.RowKit Go.Lib V12
def keys(L:List NdC):List Int:=L.map (·.k)
def getL(L:List NdC)(id:Int):NdC:=(L.find? fun y=>decide (y.k=id)).getD zp
def findN(P:Nat->NdC)(id:Int):Nat->Int
 | 0=>-1
 | n+1=>if 0<=findN P id n then findN P id n else if (P n).k=id then(n:Int) else -1
theorem find_no{P:Nat->NdC}{id:Int}:∀ {n},(∀ t,t<n->(P t).k≠id)->findN P id n = -1
 | 0,_=>rfl
 | n+1,h=>by
   rw[findN,find_no (fun t ht=>h t (by omega)),if_neg (by omega),if_neg (h n (by omega))]
theorem find_at{P:Nat->NdC}{id:Int}{j:Nat}(hj:(P j).k=id)(h:∀ t,t<j->(P t).k≠id):∀ {n},j<n->findN P id n=(j:Int)
 | n+1,hn=>by
   by_cases e:j=n
   ·subst e
    rw[findN,find_no h,if_neg (by omega),if_pos hj]
   ·rw[findN,find_at hj h (n:=n) (by omega),if_pos (by omega)]
theorem find_cases(P:Nat->NdC)(id:Int)(n:Nat):(findN P id n = -1/\id∉keys (lst P n))\/∃ j,j<n/\findN P id n=(j:Int)/\(P j).k=id/\id∈keys (lst P n)/\getL (lst P n) id=P j:=by
 by_cases h:∃ j,j<n/\(P j).k=id
 ·right
  obtain⟨j,hj,hk,hm⟩:∃ j,j<n/\(P j).k=id/\∀ t,t<j->(P t).k≠id:=by
   induction n with
   | zero=>obtain⟨j,hj,_⟩:=h;exact absurd hj (Nat.not_lt_zero _)
   | succ n ih =>
     by_cases h2:∃ j,j<n/\(P j).k=id
     ·obtain⟨j,a,b,c⟩:=ih h2
      exact⟨j,by omega,b,c⟩
     ·obtain⟨j,hj,hk⟩:=h
      refine⟨j,hj,hk,fun t ht e=>h2 ⟨t,by omega,e⟩⟩
  refine⟨j,hj,find_at hk hm hj,hk,?_,?_⟩
  ·unfold keys
   rw[<- hk];exact List.mem_map_of_mem (lst_mem.2 ⟨j,hj,rfl⟩)
  ·unfold getL
   have e:(lst P n).find? (fun y=>decide (y.k=id))=some (P j):=by
    rw[List.find?_eq_some_iff_getElem];refine⟨by simpa using hk,j,by rw[lst_len];exact hj,?_,fun t ht=>?_⟩
    ·have:=zaw (Q:=P) hj
     rw[List.getElem?_eq_getElem (by rw[lst_len];exact hj)] at this
     exact Option.some.inj this
    ·have h1:=zaw (Q:=P) (n:=n) (j:=t) (by omega)
     rw[List.getElem?_eq_getElem (by rw[lst_len];omega)] at h1
     rw[Option.some.inj h1]
     simpa using hm t ht
   rw[e];rfl
 ·left
  refine⟨find_no fun t ht e=>h ⟨t,ht,e⟩,fun hk=>?_⟩
  obtain⟨y,hy,e⟩:=List.mem_map.1 hk;obtain⟨j,hj,rfl⟩:=lst_mem.1 hy;exact h ⟨j,hj,e⟩
theorem find_iff{P:Nat->NdC}{id:Int}{n:Nat}:0<=findN P id n↔id∈keys (lst P n):=by
 rcases find_cases P id n with ⟨h1,h2⟩ | ⟨j,_,h1,_,h2,_⟩
 ·rw[h1];exact⟨fun h=>absurd h (by decide),fun h=>absurd h h2⟩
 ·rw[h1];exact⟨fun _=>h2,fun _=>by omega⟩
end Go.Proofs.YtcogiogjpbkeaaaGreatDoor.C14
