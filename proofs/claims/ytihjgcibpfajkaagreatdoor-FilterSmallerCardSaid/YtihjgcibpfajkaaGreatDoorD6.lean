/-
  A cluster as lists: its nodes with their capacities, its pods; what its operations do to them. No condition, no walk.
  What the laws ask of the pods' functions; the reference's list beside them. No condition, no walk.
-/
import Derived.Test.YtihjgcibpfajkaaGreatDoorD5
import Derived.Test.YtihjgcibpfajkaaGreatDoorD2
namespace Go.Proofs.YtihjgcibpfajkaaGreatDoor.T14
open Go.RowKit Go.Sort Go.Lib V12 T13
structure NV where
 k:Int
 C:Nat→Int
def zv:NV:=⟨0,fun _=>0⟩
abbrev nk(M:List NV):List Int:=G.keys NV.k M
abbrev nget(M:List NV)(id:Int):NV:=G.get NV.k zv M id
def holds(id:Int)(y:zaa):Bool:=decide (y.d=id∧(y.h=3∨y.h=4))
def zaz(id:Int)(j:Nat)(y:zaa):Int:=if holds id y=true then y.Z j else 0
def zaj:List zaa→Int→Nat→Int
 | [],_,_=>0
 | y :: L,id,j=>zaz id j y+zaj L id j
def Amt(z:Int):Prop:=0≤z∧z≤1099511627776
theorem zcp{n:Nat}{Z:Nat→Int}{d:Nat}(h:¬0≤zae n Z d):n=d∧∀ j,j<n→Amt (Z j):=by
 rcases zld n Z with ⟨k,hk,hb,hj⟩ | hg
 ·rw[zeo hk hb hj] at h
  omega
 ·rw[zdc hg] at h
  refine⟨?_,fun j hj=>zin (hg j hj)⟩
  by_cases e:(n:Int)=(d:Int)
  ·omega
  ·rw[if_neg e] at h
   omega
def adC(M:List NV)(d:Nat)(k:Int)(n:Nat)(Z:Nat→Int):Int:=if 0≤zae n Z d then 3 else if k∈nk M then 6 else if 1024≤M.length then 7 else 0
def wrI(d n:Nat)(Z:Nat→Int):Int:=if 0≤zae n Z d then zae n Z d else 0
def adL(M:List NV)(d:Nat)(k:Int)(n:Nat)(Z:Nat→Int):List NV:=if adC M d k n Z=0 then G.ins NV.k ⟨k,Z⟩ M else M
def sbC(L:List zaa)(d:Nat)(x:zaa):Int:=if 0≤zae x.m x.Z d then 3 else zdx L 65536 x
def sbL(L:List zaa)(d:Nat)(x:zaa):List zaa:=if 0≤zae x.m x.Z d then L else zek L 65536 x
def zgs(M:List NV)(L:List zaa)(d:Nat)(id nd:Int):Bool:=(List.range d).all fun j=>decide (zaj L nd j+(zai L id).Z j≤(nget M nd).C j)
theorem zjj{M:List NV}{L:List zaa}{d:Nat}{id nd:Int}:zgs M L d id nd=true↔∀ j,j<d→zaj L nd j+(zai L id).Z j≤(nget M nd).C j:=by
 unfold zgs;rw[List.all_eq_true];simp only[List.mem_range,decide_eq_true_eq]
def plC(M:List NV)(L:List zaa)(d:Nat)(id nd e:Int):Int :=
 if id∉keys L then 5 else if nd∉nk M then 5 else if nx (zai L id).h e=0 then 8 else if e=1∧zgs M L d id nd=false then 10 else 0
def plI(M:List NV)(L:List zaa)(id nd:Int):Int:=if id∈keys L∧nd∉nk M then 1 else 0
def plL(M:List NV)(L:List zaa)(d:Nat)(id nd e:Int):List zaa:=if plC M L d id nd e=0 then zcn L id e nd (-1) else L
def cgC(L:List zaa)(id e:Int):Int:=if id∈keys L∧(e=1∨e=2) then 8 else zbi L id e
def cgL(L:List zaa)(id e dl:Int):List zaa:=if cgC L id e=0 then zcn L id e (-1) dl else L
structure Ok(d:Nat)(M:List NV)(L:List zaa):Prop where
 srt:G.Srt NV.k M
 lok:LOk L
 req:∀ y∈L,y.m=d∧∀ j,j<d→Amt (y.Z j)
 cap:∀ x∈M,∀ j,j<d→Amt (x.C j)
 fit:∀ x∈M,∀ j,j<d→zaj L x.k j≤x.C j
 plc:∀ y∈L,2≤y.h→y.h≤4→y.d∈nk M
theorem zjl{id:Int}{j:Nat}{y:zaa}(h:Amt (y.Z j)):0≤zaz id j y:=by
 unfold zaz
 split
 ·exact h.1
 ·omega
theorem zfb{L:List zaa}{id:Int}{j:Nat}(h:∀ y∈L,Amt (y.Z j)):0≤zaj L id j:=by
 induction L with
 | nil=>exact Int.le_refl _
 | cons y L ih =>
   have h1:=zjl (id:=id) (h y (by simp))
   have h2:=ih fun z hz=>h z (by simp[hz])
   show 0≤zaz id j y+zaj L id j
   omega
theorem zke{L:List zaa}{id:Int}{j:Nat}(h:∀ y∈L,Amt (y.Z j)):zaj L id j≤L.length * 1099511627776:=by
 induction L with
 | nil=>exact Int.le_refl _
 | cons y L ih =>
   have h1:=h y (by simp)
   have h2:=ih fun z hz=>h z (by simp[hz])
   show zaz id j y+zaj L id j≤_
   rw[List.length_cons,Int.natCast_add];unfold zaz;unfold Amt at h1
   split<;>omega
theorem zfg(L K:List zaa)(id:Int)(j:Nat):zaj (L++K) id j=zaj L id j+zaj K id j:=by
 induction L with
 | nil=>show zaj K id j=0+_;omega
 | cons y L ih =>
   show zaz id j y+zaj (L++K) id j=zaz id j y+zaj L id j+zaj K id j
   rw[ih];omega
theorem zod{L:List zaa}{f:zaa→zaa}{id:Int}{j:Nat}(h:∀ y∈L,zaz id j (f y)=zaz id j y):zaj (L.map f) id j=zaj L id j:=by
 induction L with
 | nil=>rfl
 | cons y L ih =>
   show zaz id j (f y)+zaj (L.map f) id j=zaz id j y+zaj L id j
   rw[h y (by simp),ih fun z hz=>h z (by simp[hz])]
theorem ztl{L:List zaa}(h:LOk L){k:Int}(hk:k∈keys L)(f:zaa→zaa)(id:Int)(j:Nat):
  zaj (L.map fun y=>if y.k=k then f y else y) id j=zaj L id j - zaz id j (zai L k)+zaz id j (f (zai L k)):=by
 have hn:=h.nod;have hg:∀ y∈L,y.k=k→y=zai L k:=fun y hy e=>by rw[← e];exact(get_mem h hy).symm
 obtain⟨hm,hkk⟩:=get_some hk;generalize zai L k=z at *;clear h
 induction L with
 | nil=>cases hm
 | cons y L ih =>
   have hn2:(y.k :: keys L).Nodup:=hn;rw[List.nodup_cons] at hn2;show zaz id j (if y.k=k then f y else y)+zaj (L.map fun y=>if y.k=k then f y else y) id j=zaz id j y+zaj L id j - _+_
   by_cases e:y.k=k
   ·rw[if_pos e]
    have e2:=hg y (by simp) e
    have e3:(L.map fun y=>if y.k=k then f y else y)=L:=by
     conv=>rhs;rw[← List.map_id L]
     refine List.map_congr_left fun x hx=>?_
     rw[if_neg fun e4=>hn2.1 (by rw[e,← e4];exact List.mem_map_of_mem hx)]
     rfl
    rw[e3,e2];omega
   ·rw[if_neg e]
    have hm2:z∈L:=by
     rcases List.mem_cons.1 hm with rfl | hm2
     ·exact absurd hkk e
     ·exact hm2
    rw[ih (by rw[← hkk];exact List.mem_map_of_mem hm2) hn2.2 (fun x hx=>hg x (by simp[hx])) hm2]
    omega
theorem Ok.nil(d:Nat):Ok d [] []:=⟨List.Pairwise.nil,LOk.nil,(fun _ h=>by cases h),(fun _ h=>by cases h),(fun _ h=>by cases h),fun _ h=>by cases h⟩
section
variable{d:Nat}{M:List NV}{L:List zaa}
theorem zrz{id:Int}(hk:id∈nk M):nget M id∈M∧(nget M id).k=id:=G.get_some hk
theorem Ok.amtL(h:Ok d M L){j:Nat}(hj:j<d):∀ y∈L,Amt (y.Z j):=fun y hy=>(h.req y hy).2 j hj
theorem zgl{k:Int}{n:Nat}{Z:Nat→Int}(h:adC M d k n Z=0):¬0≤zae n Z d∧k∉nk M:=by
 unfold adC at h
 by_cases h1:0≤zae n Z d
 ·rw[if_pos h1] at h;exact absurd h (by decide)
 ·rw[if_neg h1] at h
  by_cases h2:k∈nk M
  ·rw[if_pos h2] at h;exact absurd h (by decide)
  ·exact⟨h1,h2⟩
theorem Ok.free(h:Ok d M L){id:Int}(hk:id∉nk M)(j:Nat):zaj L id j=0:=by
 have key:∀ y∈L,zaz id j y=0:=fun y hy=>by
  unfold zaz holds;rw[if_neg];intro e;have e:=of_decide_eq_true e;exact hk (by rw[← e.1];exact h.plc y hy (by omega) (by omega))
 clear h
 induction L with
 | nil=>rfl
 | cons y L ih =>
   show zaz id j y+zaj L id j=0
   rw[key y (by simp),ih fun z hz=>key z (by simp[hz])]
   rfl
theorem abp(h:Ok d M L){k:Int}{n:Nat}{Z:Nat→Int}:Ok d (adL M d k n Z) L:=by
 unfold adL
 split
 ·rename_i h0
  obtain⟨h1,h2⟩:=zgl h0;obtain⟨e,ha⟩:=zcp h1;subst e;refine⟨G.ins_sorted h.srt h2,h.lok,h.req,fun x hx=>?_,fun x hx j hj=>?_,fun y hy h3 h4=>?_⟩
  ·rcases G.ins_mem.1 hx with rfl | hx
   ·exact ha
   ·exact h.cap x hx
  ·rcases G.ins_mem.1 hx with rfl | hx
   ·show zaj L k j≤Z j
    rw[h.free h2];exact(ha j hj).1
   ·exact h.fit x hx j hj
  ·exact G.ins_keys.2 (Or.inr (h.plc y hy h3 h4))
 ·exact h
theorem zkk(id:Int)(j:Nat)(x:zaa)(a:Int):zaz id j (zcl x a)=0:=by
 unfold zaz holds zcl;rw[if_neg];intro e;rcases(of_decide_eq_true e).2 with e | e<;>exact absurd (show(1:Int)=_ from e) (by decide)
theorem aeb(h:Ok d M L){x:zaa}:Ok d M (sbL L d x):=by
 unfold sbL
 split
 ·exact h
 ·rename_i h0
  obtain⟨e,ha⟩:=zcp h0;have mem:∀ y∈zek L 65536 x,y∈L∨y=zcl x L.length:=fun y hy=>by
   unfold zek at hy
   split at hy
   ·rcases List.mem_append.1 hy with hy | hy
    ·exact Or.inl hy
    ·exact Or.inr (List.mem_singleton.1 hy)
   ·exact Or.inl hy
  have us:∀ id j,zaj (zek L 65536 x) id j=zaj L id j:=fun id j=>by
   unfold zek
   split
   ·rw[zfg]
    show _+(zaz id j (zcl x L.length)+0)=_
    rw[zkk];omega
   ·rfl
  refine⟨h.srt,zrb h.lok,fun y hy=>?_,h.cap,fun z hz j hj=>by rw[us];exact h.fit z hz j hj,fun y hy h3 h4=>?_⟩
  ·rcases mem y hy with hy | rfl
   ·exact h.req y hy
   ·exact⟨e,fun j hj=>ha j (by omega)⟩
  ·rcases mem y hy with hy | rfl
   ·exact h.plc y hy h3 h4
   ·exact absurd h3 (by show ¬(2:Int)≤1;omega)
theorem zim{id e nd dl:Int}(h0:zbi L id e=0){y:zaa}(hy:y∈zcn L id e nd dl):∃ z,z∈L∧((z.k=id∧y=zao z e nd dl)∨(z.k≠id∧y=z)):=by
 unfold zcn at hy;rw[if_pos h0] at hy;obtain⟨z,hz,rfl⟩:=List.mem_map.1 hy
 by_cases e1:z.k=id
 ·exact⟨z,hz,Or.inl ⟨e1,if_pos e1⟩⟩
 ·exact⟨z,hz,Or.inr ⟨e1,if_neg e1⟩⟩
theorem zmm(h:LOk L){id e nd dl:Int}(h0:zbi L id e=0)(i:Int)(j:Nat):zaj (zcn L id e nd dl) i j=zaj L i j - zaz i j (zai L id)+zaz i j (zao (zai L id) e nd dl):=by
 have hk:id∈keys L:=Classical.byContradiction fun hn=>by
  unfold zbi at h0;rw[if_pos hn] at h0;exact absurd h0 (by decide)
 unfold zcn;rw[if_pos h0];exact ztl h hk (fun y=>zao y e nd dl) i j
theorem zoh{id e:Int}(h0:zbi L id e=0):id∈keys L∧zai L id∈L∧(zai L id).k=id∧nx (zai L id).h e≠0:=by
 have hk:id∈keys L:=Classical.byContradiction fun hn=>by
  unfold zbi at h0;rw[if_pos hn] at h0;exact absurd h0 (by decide)
 refine⟨hk,(get_some hk).1,(get_some hk).2,fun e1=>?_⟩
 unfold zbi at h0;rw[if_neg (not_not_intro hk),if_pos e1] at h0;exact absurd h0 (by decide)
theorem zgw{id nd e:Int}(h:plC M L d id nd e=0):id∈keys L∧nd∈nk M∧nx (zai L id).h e≠0∧(e=1→zgs M L d id nd=true):=by
 unfold plC at h
 by_cases h1:id∈keys L
 ·rw[if_neg (not_not_intro h1)] at h
  by_cases h2:nd∈nk M
  ·rw[if_neg (not_not_intro h2)] at h
   by_cases h3:nx (zai L id).h e=0
   ·rw[if_pos h3] at h;exact absurd h (by decide)
   ·rw[if_neg h3] at h
    refine⟨h1,h2,h3,fun e1=>?_⟩
    cases hf:zgs M L d id nd with
    | true=>rfl
    | false=>rw[if_pos ⟨e1,hf⟩] at h;exact absurd h (by decide)
  ·rw[if_pos h2] at h;exact absurd h (by decide)
 ·rw[if_pos h1] at h;exact absurd h (by decide)
theorem ziu{id nd e:Int}(h:plC M L d id nd e=0):zbi L id e=0:=by
 obtain⟨h1,_,h3,_⟩:=zgw h;unfold zbi;rw[if_neg (not_not_intro h1),if_neg h3]
end
theorem adj{p:Int}(h:nx p 1≠0):(p=1∨p=2)∧nx p 1=3:=by
 unfold nx at h ⊢;rw[if_pos rfl] at h ⊢
 by_cases h1:p=1∨p=2
 ·exact⟨h1,if_pos h1⟩
 ·rw[if_neg h1] at h;exact absurd rfl h
theorem adk{p:Int}(h:nx p 2≠0):(p=1∨p=2)∧nx p 2=2:=by
 unfold nx at h ⊢;rw[if_neg (by decide),if_pos rfl] at h ⊢
 by_cases h1:p=1∨p=2
 ·exact⟨h1,if_pos h1⟩
 ·rw[if_neg h1] at h;exact absurd rfl h
theorem zno{p:Int}(h:nx p 3≠0):p=2∧nx p 3=1:=by
 unfold nx at h ⊢;rw[if_neg (by decide),if_neg (by decide),if_pos rfl] at h ⊢
 by_cases h1:p=2
 ·exact⟨h1,if_pos h1⟩
 ·rw[if_neg h1] at h;exact absurd rfl h
theorem zqv{p:Int}(h:nx p 4≠0):p=3∧nx p 4=4:=by
 unfold nx at h ⊢;rw[if_neg (by decide),if_neg (by decide),if_neg (by decide),if_pos rfl] at h ⊢
 by_cases h1:p=3
 ·exact⟨h1,if_pos h1⟩
 ·rw[if_neg h1] at h;exact absurd rfl h
theorem zqu{p:Int}(h:nx p 5≠0):(1≤p∧p≤4)∧nx p 5=5:=by
 unfold nx at h ⊢;rw[if_neg (by decide),if_neg (by decide),if_neg (by decide),if_neg (by decide),if_pos rfl] at h ⊢
 by_cases h1:1≤p∧p≤4
 ·exact⟨h1,if_pos h1⟩
 ·rw[if_neg h1] at h;exact absurd rfl h
theorem afb{p e:Int}(h:nx p e≠0):e=1∨e=2∨e=3∨e=4∨e=5:=by
 by_cases h1:e=1∨e=2∨e=3∨e=4∨e=5
 ·exact h1
 ·exfalso
  apply h
  unfold nx
  repeat' split
  all_goals first | rfl | omega
theorem zdj{i:Int}{j:Nat}{y:zaa}(h:y.h≠3)(h2:y.h≠4):zaz i j y=0:=by
 unfold zaz holds;rw[if_neg];intro e;rcases(of_decide_eq_true e).2 with e | e
 ·exact h e
 ·exact h2 e
theorem zgv{i:Int}{j:Nat}{y:zaa}(h:y.h=3∨y.h=4):zaz i j y=if y.d=i then y.Z j else 0:=by
 unfold zaz holds
 by_cases e:y.d=i
 ·rw[if_pos (decide_eq_true ⟨e,h⟩),if_pos e]
 ·rw[if_neg (fun e2=>e (of_decide_eq_true e2).1),if_neg e]
section
variable{d:Nat}{M:List NV}{L:List zaa}
theorem zgx(h:LOk L){id nd e:Int}(he:e=1∨e=2)(h0:plC M L d id nd e=0)(i:Int)(j:Nat):zaj (plL M L d id nd e) i j=zaj L i j+if e=1∧nd=i then(zai L id).Z j else 0:=by
 obtain⟨_,_,h3,_⟩:=zgw h0;unfold plL;rw[if_pos h0,zmm h (ziu h0)];rcases he with rfl | rfl
 ·obtain⟨ph,hn⟩:=adj h3
  rw[zdj (by omega) (by omega),zgv (y:=zao (zai L id) 1 nd (-1)) (Or.inl hn)]
  have e1:(zao (zai L id) 1 nd (-1)).d=nd:=by unfold zao;simp
  rw[e1]
  by_cases e2:nd=i
  ·rw[if_pos e2,if_pos ⟨rfl,e2⟩]
   show _ - 0+(zai L id).Z j=_
   omega
  ·rw[if_neg e2,if_neg fun e3=>e2 e3.2]
   omega
 ·obtain⟨ph,hn⟩:=adk h3
  rw[zdj (by omega) (by omega),zdj (y:=zao (zai L id) 2 nd (-1)) (by show nx _ 2≠3;rw[hn];decide) (by show nx _ 2≠4;rw[hn];decide),if_neg fun e3=>absurd e3.1 (by decide)]
  omega
theorem zvk(h:Ok d M L){id nd e:Int}(he:e=1∨e=2):Ok d M (plL M L d id nd e):=by
 by_cases h0:plC M L d id nd e=0
 ·obtain⟨h1,h2,h3,h4⟩:=zgw h0
  have us:=zgx (d:=d) (M:=M) h.lok he h0;unfold plL at us ⊢;rw[if_pos h0] at us ⊢;have ha:=ziu h0;refine⟨h.srt,zlc h.lok,fun y hy=>?_,h.cap,fun x hx j hj=>?_,fun y hy h5 h6=>?_⟩
  ·obtain⟨z,hz,⟨_,rfl⟩ | ⟨_,rfl⟩⟩:=zim ha hy
   ·exact h.req z hz
   ·exact h.req y hz
  ·rw[us]
   split
   ·rename_i e5
    have hf:=(zjj.1 (h4 e5.1)) j hj;have ex:nget M x.k=x:=G.get_at h.srt hx;rw[e5.2,ex] at hf;exact hf
   ·have:=h.fit x hx j hj
    omega
  ·obtain⟨z,hz,⟨_,rfl⟩ | ⟨_,rfl⟩⟩:=zim ha hy
   ·have e1:(zao z e nd (-1)).d=nd:=by
     unfold zao;show(if e=1∨e=2 then nd else _)=nd
     rw[if_pos he]
    rw[e1];exact h2
   ·exact h.plc y hz h5 h6
 ·unfold plL
  rw[if_neg h0];exact h
theorem zje{id e:Int}(h:cgC L id e=0):zbi L id e=0∧(e=3∨e=4∨e=5)∧id∈keys L:=by
 unfold cgC at h
 by_cases h1:id∈keys L∧(e=1∨e=2)
 ·rw[if_pos h1] at h;exact absurd h (by decide)
 ·rw[if_neg h1] at h
  obtain⟨a,_,_,b⟩:=zoh h;have:=afb b;exact⟨h,by have:¬(e=1∨e=2):=fun e2=>h1 ⟨a,e2⟩;omega,a⟩
theorem zgo(h:LOk L){id e dl:Int}(h0:cgC L id e=0)(i:Int)(j:Nat):zaj (cgL L id e dl) i j=zaj L i j - if e=5 then zaz i j (zai L id) else 0:=by
 obtain⟨ha,he,_⟩:=zje h0;obtain⟨_,_,_,hn⟩:=zoh ha;unfold cgL;rw[if_pos h0,zmm h ha];rcases he with rfl | rfl | rfl
 ·obtain⟨ph,hn⟩:=zno hn
  rw[zdj (by omega) (by omega),zdj (y:=zao (zai L id) 3 (-1) dl) (by show nx _ 3≠3;rw[hn];decide) (by show nx _ 3≠4;rw[hn];decide),if_neg (by decide)]
  omega
 ·obtain⟨ph,hn⟩:=zqv hn
  rw[zgv (Or.inl ph),zgv (y:=zao (zai L id) 4 (-1) dl) (Or.inr hn),if_neg (show ¬(4:Int)=5 by decide)]
  have e1:(zao (zai L id) 4 (-1) dl).d=(zai L id).d:=by unfold zao;simp
  rw[e1];show _ - _+(if (zai L id).d=i then(zai L id).Z j else 0)=_
  omega
 ·obtain⟨ph,hn⟩:=zqu hn
  rw[zdj (y:=zao (zai L id) 5 (-1) dl) (by show nx _ 5≠3;rw[hn];decide) (by show nx _ 5≠4;rw[hn];decide),if_pos rfl]
  omega
theorem zok(h:Ok d M L){id e dl:Int}:Ok d M (cgL L id e dl):=by
 by_cases h0:cgC L id e=0
 ·obtain⟨ha,he,hk⟩:=zje h0
  obtain⟨_,hm,hkk,hn⟩:=zoh ha;have us:=zgo (dl:=dl) h.lok h0;unfold cgL at us ⊢;rw[if_pos h0] at us ⊢;refine⟨h.srt,zlc h.lok,fun y hy=>?_,h.cap,fun x hx j hj=>?_,fun y hy h5 h6=>?_⟩
  ·obtain⟨z,hz,⟨_,rfl⟩ | ⟨_,rfl⟩⟩:=zim ha hy
   ·exact h.req z hz
   ·exact h.req y hz
  ·rw[us]
   have h7:=h.fit x hx j hj;have h8:=zjl (id:=x.k) (h.amtL hj _ hm)
   split<;>omega
  ·obtain⟨z,hz,⟨e1,rfl⟩ | ⟨_,rfl⟩⟩:=zim ha hy
   ·have ez:zai L id=z:=by rw[← e1];exact get_mem h.lok hz
    rw[ez] at hn;rw[abq] at h5 h6;rcases he with rfl | rfl | rfl
    ·rw[(zno hn).2] at h5;exact absurd h5 (by decide)
    ·have e2:(zao z 4 (-1) dl).d=z.d:=by unfold zao;simp
     rw[e2];have:=(zqv hn).1;exact h.plc z hz (by omega) (by omega)
    ·rw[(zqu hn).2] at h6;exact absurd h6 (by decide)
   ·exact h.plc y hz h5 h6
 ·unfold cgL
  rw[if_neg h0];exact h
theorem afl{id:Int}{y:zaa}(h:onB id y=true):y.d=id∧2≤y.h∧y.h≤4:=of_decide_eq_true h
end
end Go.Proofs.YtihjgcibpfajkaaGreatDoor.T14
namespace Go.Proofs.YtihjgcibpfajkaaGreatDoor.T13
open Go.RowKit Go.Sort Go.Lib V12
def flt(c n:Int):Value:=(Base.fault c n).val
def fltC(c:Int):Value:=if c=0 then .nilIface else flt c 0
abbrev aer:=World→Int→Nat→List zaa→(Nat→Prop)→World→Prop
def rb(r:zaa)(i:Nat):Prop:=0<r.m∧∃ o,r.A=some ⟨i,o,none⟩
structure Con(OS:aer):Prop where
 kp:∀ {w s q L X w1},OS w s q L X w1→Keep w w1
 keep:∀ {w s q L X w1 w2},OS w s q L X w1→Keep w1 w2→OS w s q L X w2
 more:∀ {w s q L X w1 w2} {Z:Nat→Prop},OS w s q L X w1→Keep w1 w2→(∀ i,Z i→w1.heap.size≤i∧i<w2.heap.size)→OS w s q L (fun i=>X i∨Z i) w2
 less:∀ {w s q L X w1} {Z:Nat→Prop},OS w s q L X w1→(∀ i,Z i→X i)→OS w s q L Z w1
 write:∀ {w s q L X w1 w2},OS w s q L X w1→Keep w w2→w1.heap.size≤w2.heap.size→(∀ k,k<w1.heap.size→¬X k→w2.heap[k]?=w1.heap[k]?)→OS w s q L X w2
 grow:∀ {w s q L X w1 w2} {Z:Nat→Prop},OS w s q L X w1→Keep w w2→w1.heap.size≤w2.heap.size→(∀ k,k<w1.heap.size→¬X k→w2.heap[k]?=w1.heap[k]?)→(∀ i,Z i→w1.heap.size≤i∧i<w2.heap.size)→OS w s q L (fun i=>X i∨Z i) w2
 lt:∀ {w s q L X w1},OS w s q L X w1→∀ i,X i→i<w1.heap.size
 ok:∀ {w s q L X w1},OS w s q L X w1→LOk L
 new:∀ (s:Int) (w w0:World),Keep w w0→I64 s→Calls Tryz.prog 46 #[.int .i64 s] w0 fun e w'=>∃ q,e=.returned (.pointer (some ⟨q,0,none⟩))∧OS w s q [] (fun _=>False) w'∧Keep w0 w'
 submit:∀ {w s q L X w1} (x:zaa),OS w s q L X w1→zaw w1→zaf w1 x→x.m≤1000→L.length≤1000 →
  Calls Tryz.prog 40 #[.pointer (some ⟨q,0,none⟩),x.val] w1 fun e w'=>∃ r,e=.returned (.tuple #[r.val,fltC (zdx L s x)])∧(zdx L s x=0→nm r=zcl x L.length)∧(zdx L s x≠0→nm r=zad)∧zaf w' r∧Req w' w1.heap.size r∧OS w s q (zek L s x) (fun i=>X i∨rb r i) w'∧∀ i,X i→w'.heap[i]?=w1.heap[i]?
 apply:∀ {w s q L X w1} (id e nd dl:Int),OS w s q L X w1→zaw w1→I64 id→I64 e→I64 nd→I64 dl→(∀ y∈L,y.m≤1000)→L.length≤1000 →
  Calls Tryz.prog 43 #[.pointer (some ⟨q,0,none⟩),.int .i64 id,.int .i64 e,.int .i64 nd,.int .i64 dl] w1 fun e' w'=>∃ r,e'=.returned (.tuple #[r.val,fltC (zbi L id e)])∧(zbi L id e=0→nm r=zao (zai L id) e nd dl)∧(zbi L id e≠0→nm r=zad)∧zaf w' r∧Req w' w1.heap.size r∧OS w s q (zcn L id e nd dl) (fun i=>X i∨rb r i) w'∧∀ i,X i→w'.heap[i]?=w1.heap[i]?
 get:∀ {w s q L X w1} (id:Int),OS w s q L X w1→I64 id→(∀ y∈L,y.m≤1000) →
  Calls Tryz.prog 36 #[.pointer (some ⟨q,0,none⟩),.int .i64 id] w1 fun e w'=>∃ r,e=.returned (.tuple #[r.val,.bool (decide (id∈keys L))])∧nm r=zai L id∧zaf w' r∧Req w' w1.heap.size r∧Keep w1 w'
 on:∀ {w s q L X w1} (nd:Int),OS w s q L X w1→(∀ y∈L,y.m≤1000)→L.length≤1000 →
  Calls Tryz.prog 152 #[.pointer (some ⟨q,0,none⟩),.int .i64 nd] w1 fun e w'=>∃ v S,e=.returned v∧zam w' w1.heap.size v (L.filter (onB nd)).length S∧(lst S (L.filter (onB nd)).length).map nm=L.filter (onB nd)∧Keep w1 w'
 submitNil:∀ (x:zaa) (w:World),zaw w→zaf w x→Calls Tryz.prog 40 #[.pointer none,x.val] w fun e w'=>∃ r:zaa,e=.returned (.tuple #[r.val,flt 5 0])∧nm r=zad∧Keep w w'
def zas(X:Nat→Prop)(w1 w2:World):Prop:=∀ i,X i→w2.heap[i]?=w1.heap[i]?
structure RL(w:World)(X:Nat→Prop)(w1:World)(B:Option Addr)(c n:Nat)(P:Nat→zaa):Prop where
 rd:zax w1 B n P
 cap:n≤c
 pl:(B=none∧n=0∧c=0)∨∃ g,B=some ⟨g,0,none⟩∧X g
 is:∀ j,j<n→zaf w (P j)
theorem RL.nil(w:World)(X:Nat→Prop)(w1:World):RL w X w1 none 0 0 (fun _=>zad):=⟨zax.nil _ _ _,Nat.le_refl _,Or.inl ⟨rfl,rfl,rfl⟩,fun _ h=>absurd h (Nat.not_lt_zero _)⟩
theorem RL.keep{w:World}{X:Nat→Prop}{w1 w2:World}{B:Option Addr}{c n:Nat}{P:Nat→zaa}(h:RL w X w1 B c n P)(k:Keep w1 w2):RL w X w2 B c n P:=⟨h.rd.keep k,h.cap,h.pl,h.is⟩
theorem RL.less{w:World}{X Z:Nat→Prop}{w1:World}{B:Option Addr}{c n:Nat}{P:Nat→zaa}(h:RL w X w1 B c n P)(hZ:∀ i,X i→Z i):RL w Z w1 B c n P:=⟨h.rd,h.cap,h.pl.imp id fun ⟨g,e,hg⟩=>⟨g,e,hZ g hg⟩,h.is⟩
theorem zay{w1 w2:World}{a:Addr}{v:Value}(h:w1.cell? a=some v)(e:w2.heap[a.block]?=w1.heap[a.block]?):w2.cell? a=some v:=by
 rw[World.cell?_of_block (w:=w1) e];exact h
theorem zcf.same{w1 w2:World}{b o:Nat}{x:zaa}(h:zcf w1 b o x)(e:w2.heap[b]?=w1.heap[b]?):zcf w2 b o x :=
 ⟨zay h.e0 e,zay h.e1 e,zay h.e2 e,zay h.e3 e,zay h.e4 e,zay h.e5 e,zay h.e6 e,zay h.e7 e,zay h.e8 e⟩
theorem RL.same{w:World}{X:Nat→Prop}{w1 w2:World}{B:Option Addr}{c n:Nat}{P:Nat→zaa}(h:RL w X w1 B c n P)(k:Keep w w2)(f:zas X w1 w2):RL w X w2 B c n P:=by
 refine⟨⟨h.rd.small,fun hn=>?_,fun j hj=>(h.is j hj).keep k⟩,h.cap,h.pl,h.is⟩
 obtain⟨b,off,e,hc⟩:=h.rd.adr hn;rcases h.pl with ⟨_,h0,_⟩ | ⟨g,eg,hg⟩
 ·omega
 ·have e2:=Option.some.inj (eg.symm.trans e)
  simp only[Addr.mk.injEq,and_true] at e2;refine⟨b,off,e,fun j hj=>(hc j hj).same ?_⟩
  rw[← e2.1];exact f g hg
end Go.Proofs.YtihjgcibpfajkaaGreatDoor.T13
