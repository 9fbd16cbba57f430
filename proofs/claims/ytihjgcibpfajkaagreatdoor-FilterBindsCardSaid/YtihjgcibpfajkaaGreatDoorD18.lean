/-
  The load as a sum; the reference's Of and Fits over the lists of a cluster; the contracts of package load (ConL). No walk.
  What the law's fixed example comes to. No condition, no walk.
  What the laws of load want beside the contracts. No condition, no walk.
  Which nodes a pod fits on, and why not on the others, as lists; the contracts of package filter (ConF). No walk.
  slices.Equal, Index and Contains at slices of ints. No condition.
  A node more, a pod more: what becomes of the nodes on which a pod fits. No condition, no walk.
-/
import Derived.Test.YtihjgcibpfajkaaGreatDoorD12
import Derived.Test.YtihjgcibpfajkaaGreatDoorD17
import Derived.Test.YtihjgcibpfajkaaGreatDoorD16
import Derived.BigQuiet
namespace Go.Proofs.YtihjgcibpfajkaaGreatDoor.T16
open Go.RowKit Go.Sort Go.Lib V12 T13 T14 T15
def smF(f:zaa→Int):List zaa→Int
 | []=>0
 | y :: L=>f y+smF f L
theorem aee{f g:zaa→Int}{L:List zaa}(h:∀ y∈L,f y≤g y):smF f L≤smF g L:=by
 induction L with
 | nil=>exact Int.le_refl _
 | cons y L ih =>
   have h1:=h y (by simp)
   have h2:=ih fun z hz=>h z (by simp[hz])
   show f y+smF f L≤g y+smF g L
   omega
def ldF(O:Int→Bool)(p:zaa)(nd:Int)(j:Nat)(y:zaa):Int:=(if O y.k=true then 0 else zaz nd j y)+(if zcy p nd y=true then y.Z j else 0)
theorem zls(O:Int→Bool)(p:zaa)(nd:Int)(L:List zaa)(j:Nat):zca O p nd L j=smF (ldF O p nd j) L:=by
 induction L with
 | nil=>rfl
 | cons y L ih =>
   show _=ldF O p nd j y+smF (ldF O p nd j) L
   rw[← ih];unfold zca zlx zbv ldF;rw[List.filter_cons,List.filter_cons];cases O y.k<;>cases zcy p nd y<;>simp only[Bool.not_true,Bool.not_false,if_true,if_false,Bool.false_eq_true]<;>(try simp only[zaj,zdb])<;>omega
def ofZ(O:Int→Bool)(p:zaa)(nd:Int)(M:List NV)(L:List zaa)(j:Nat):Int:=if nd∈nk M then zca O p nd L j else 0
def zbx(O:Int→Bool)(p:zaa)(nd:Int)(M:List NV)(L:List zaa)(d:Nat):Bool:=decide (nd∈nk M∧¬0≤zae p.m p.Z d∧∀ k,k<d→zca O p nd L k+p.Z k≤(nget M nd).C k)
def no:Int→Bool:=fun _=>false
def zcw(p:zaa)(nd:Int)(M:List NV)(d:Nat):Bool:=decide (nd∈nk M∧¬0≤zae p.m p.Z d)
def zeh(p:zaa)(nd:Int)(M:List NV)(L:List zaa)(k:Nat):Int:=max 0 (zca no p nd L k+p.Z k - (nget M nd).C k)
def zfh(w:World)(A:Option Addr)(n:Nat)(O:Int→Bool):Prop:=∃ Z:Nat→Int,Rd w A n Z∧∀ k,O k=true↔∃ j,j<n∧Z j=k
theorem zfh.keep{w w':World}{A:Option Addr}{n:Nat}{O:Int→Bool}(h:zfh w A n O)(k:Keep w w'):zfh w' A n O:=by
 obtain⟨Z,h1,h2⟩:=h;exact⟨Z,h1.keep k,h2⟩
theorem zfh.nil(w:World)(A:Option Addr):zfh w A 0 no:=⟨fun _=>0,⟨by omega,fun _ h=>absurd h (Nat.not_lt_zero _),fun h=>absurd h (Nat.lt_irrefl _)⟩,fun k=>⟨fun h=>absurd (show false=true from h) (by decide),fun ⟨j,h,_⟩=>absurd h (Nat.not_lt_zero _)⟩⟩
def Row(w:World)(v:Value)(d:Nat)(Z:Nat→Int):Prop:=∃ A c,v=.slice A d c∧Rd w A d Z
theorem Row.keep{w w':World}{v:Value}{d:Nat}{Z:Nat→Int}(h:Row w v d Z)(k:Keep w w'):Row w' v d Z:=by
 obtain⟨A,c,h1,h2⟩:=h;exact⟨A,c,h1,h2.keep k⟩
theorem Row.same{w w':World}{v:Value}{d:Nat}{Z:Nat→Int}(h:Row w v d Z)(e:∀ g,v.ownBlock=some g→w'.heap[g]?=w.heap[g]?):Row w' v d Z:=by
 obtain⟨A,c,rfl,h2⟩:=h;refine⟨A,c,rfl,h2.small,h2.range,fun hn=>?_⟩
 obtain⟨g,o,rfl,hc⟩:=h2.adr hn;exact⟨g,o,rfl,fun j hj=>(World.cell?_of_block (e g rfl)).trans (hc j hj)⟩
structure zmi(CS:zba):Prop where
 of:∀ {w d q M L X w1} (p:zaa) (nd:Int) (A:Option Addr) (n c:Nat) (O:Int→Bool),CS w d q M L X w1→zaw w1→zaf w1 p→I64 nd→zfh w1 A n O→n≤200→d≤64→M.length≤100→L.length≤100 →
  Calls Tryz.prog 109 #[.pointer (some ⟨q,0,none⟩),p.val,.int .i64 nd,.slice A n c] w1 fun e w'=>∃ v,e=.returned v∧Row w' v d (ofZ O p nd M L)∧(∀ g,v.ownBlock=some g→w1.heap.size≤g)∧Keep w1 w'
 fits:∀ {w d q M L X w1} (p:zaa) (nd:Int) (A:Option Addr) (n c:Nat) (O:Int→Bool),CS w d q M L X w1→zaw w1→zaf w1 p→I64 nd→zfh w1 A n O→n≤200→d≤64→p.m≤1000→M.length≤100→L.length≤100 →
  Calls Tryz.prog 58 #[.pointer (some ⟨q,0,none⟩),p.val,.int .i64 nd,.slice A n c] w1 fun e w'=>e=.returned (.bool (zbx O p nd M L d))∧Keep w1 w'
 short:∀ {w d q M L X w1} (p:zaa) (nd:Int),CS w d q M L X w1→zaw w1→zaf w1 p→I64 nd→d≤64→p.m≤1000→M.length≤100→L.length≤100 →
  Calls Tryz.prog 54 #[.pointer (some ⟨q,0,none⟩),p.val,.int .i64 nd] w1 fun e w'=>∃ v n,e=.returned v∧(zcw p nd M d=true→n=d)∧(zcw p nd M d=false→n=0)∧Row w' v n (zeh p nd M L)∧Keep w1 w'
 none:∀ (p:zaa) (nd:Int) (A:Option Addr) (n c:Nat) (w1:World),Calls Tryz.prog 58 #[.pointer none,p.val,.int .i64 nd,.slice A n c] w1 fun e w'=>e=.returned (.bool false)∧Keep w1 w'
section
variable{CS:zba}{w:World}{d q:Nat}{M:List NV}{L:List zaa}{X:Nat→Prop}{w1:World}{x:RcV}{Q:Nat→C14.NdC}{P:Nat→zaa}
end
end Go.Proofs.YtihjgcibpfajkaaGreatDoor.T16
namespace Go.Proofs.YtihjgcibpfajkaaGreatDoor.T15
open Go.RowKit Go.Sort Go.Lib V12 T13 T14
def zn(z:Int):Nat→Int:=fun _=>z
def lq(k p z:Int)(A:Option Addr)(c:Nat):zaa:=⟨k,p,false,0,A,1,c,zn z,0,0,0,0⟩
theorem zmb{w:World}{b:Nat}{z:Int}{T:TypeId}(h:w.heap[b]?=some (.cells #[.int .i64 z] T (0,0)))(hz:-9223372036854775808≤z∧z≤9223372036854775807):Rd w (some ⟨b,0,none⟩) 1 (zn z):=by
 refine⟨by omega,fun _ _=>hz,fun _=>⟨b,0,rfl,fun j hj=>?_⟩⟩
 obtain rfl:j=0:=by omega
 rw[Nat.zero_add,cell_of_row w b 0 _ _ _ h];rfl
theorem abk{w:World}{A:Option Addr}{c:Nat}{k p z:Int}(hk:I64 k)(hp:I64 p)(h:Rd w A 1 (zn z))(ha:A≠none):zaf w (lq k p z A c):=⟨h,fun e=>absurd e ha,hk,hp,(zbj w).rng.1,(zbj w).rng.1,(zbj w).rng.1,(zbj w).rng.1,(zbj w).rng.1⟩
theorem acy{M:List NV}{k z:Int}(hz:0≤z∧z≤1099511627776)(hk:k∉nk M)(hl:M.length≤100):adC M 1 k 1 (zn z)=0∧wrI 1 1 (zn z)=0∧adL M 1 k 1 (zn z)=G.ins NV.k ⟨k,zn z⟩ M:=by
 have h0:¬0≤zae 1 (zn z) ((1:Nat):Int):=by
  rw[zdc fun j hj=>?_,if_pos rfl]
  ·decide
  ·unfold zat zn
   exact decide_eq_false (by omega)
 have h1:adC M 1 k 1 (zn z)=0:=by
  unfold adC;rw[if_neg h0,if_neg hk,if_neg (by omega)]
 refine⟨h1,?_,?_⟩
 ·unfold wrI
  rw[if_neg h0]
 ·unfold adL
  rw[if_pos h1]
section
variable{CS:zba}{w w1:World}{q:Nat}{M:List NV}{L:List zaa}{X:Nat→Prop}
theorem zqc(C:Con CS)(h:CS w 1 q M L X w1)(hg:zaw w){b:Nat}{k z:Int}{T:TypeId}(hb:w1.heap[b]?=some (.cells #[.int .i64 z] T (0,0)))(hk:I64 k)(hz:0≤z∧z≤1099511627776)(hn:k∉nk M)(hl:M.length≤100):
  Calls Tryz.prog 20 #[.pointer (some ⟨q,0,none⟩),.agg #[.int .i64 k,.slice (some ⟨b,0,none⟩) 1 1]] w1 fun e w'=>e=.returned .nilIface∧CS w 1 q (G.ins NV.k ⟨k,zn z⟩ M) L X w':=by
 obtain⟨h1,h2,h3⟩:=acy hz hn hl;refine(C.addNode k (some ⟨b,0,none⟩) 1 1 (zn z) h (hg.keep (C.kp h)) (zmb hb (by omega)) (fun e=>by cases e) hk (by omega) hl).mono ?_
 rintro e w' ⟨e1,e2,_⟩;rw[h1,h2] at e1;rw[h3] at e2;exact⟨e1,e2⟩
end
end Go.Proofs.YtihjgcibpfajkaaGreatDoor.T15
namespace Go.Proofs.YtihjgcibpfajkaaGreatDoor.T16
open Go.RowKit Go.Sort Go.Lib V12 T13 T14 T15
theorem zzn{O O':Int→Bool}{p q:zaa}{nd:Int}{L:List zaa}{j:Nat}(hO:∀ k,O k=true→O' k=true)(hs:∀ y,zcy q nd y=true→zcy p nd y=true)(h:∀ y∈L,Amt (y.Z j)):zca O' q nd L j≤zca O p nd L j:=by
 rw[zls,zls];refine aee fun y hy=>?_
 have h0:=(h y hy).1;have h1:=zjl (id:=nd) (h y hy);unfold ldF;have a1:(if O' y.k=true then 0 else zaz nd j y)≤(if O y.k=true then 0 else zaz nd j y):=by
  by_cases e:O y.k=true
  ·rw[if_pos e,if_pos (hO _ e)];exact Int.le_refl _
  ·rw[if_neg e]
   split
   ·exact h1
   ·exact Int.le_refl _
 have a2:(if zcy q nd y=true then y.Z j else 0)≤(if zcy p nd y=true then y.Z j else 0):=by
  by_cases e:zcy q nd y=true
  ·rw[if_pos e,if_pos (hs y e)];exact Int.le_refl _
  ·rw[if_neg e]
   split
   ·exact h0
   ·exact Int.le_refl _
 omega
theorem aat{p q y:zaa}{nd:Int}(hk:q.k=p.k)(hp:p.p≤q.p)(h:zcy q nd y=true):zcy p nd y=true:=by
 have h:=of_decide_eq_true h;exact decide_eq_true ⟨by rw[← hk];exact h.1,h.2.1,h.2.2.1,Int.le_trans hp h.2.2.2⟩
theorem zyx{O O':Int→Bool}{p q:zaa}{nd:Int}{M:List NV}{L:List zaa}{d:Nat}(h:∀ k,k<d→zca O' q nd L k≤zca O p nd L k)(hz:zbx O p nd M L d=true→¬0≤zae q.m q.Z d∧∀ k,k<d→q.Z k≤p.Z k)(hf:zbx O p nd M L d=true):zbx O' q nd M L d=true:=by
 obtain⟨h1,h2⟩:=hz hf;obtain⟨f1,_,f3⟩:=of_decide_eq_true hf;refine decide_eq_true ⟨f1,h1,fun k hk=>?_⟩
 have a1:=h k hk;have a2:=h2 k hk;have a3:=f3 k hk;omega
end Go.Proofs.YtihjgcibpfajkaaGreatDoor.T16
namespace Go.Proofs.YtihjgcibpfajkaaGreatDoor.T17
open Go.RowKit Go.Sort Go.Lib V12 T13 T14 T15 T16
def zbk(p:zaa)(M:List NV)(L:List zaa)(d:Nat):List Int:=(nk M).filter fun k=>zbx no p k M L d
def zlo(Z:Nat→Int)(d:Nat):Option Nat:=(List.range d).find? fun k=>decide (Z k≠0)
def zdq(p:zaa)(nd:Int)(M:List NV)(L:List zaa)(d:Nat):Option Nat:=if zcw p nd M d=true then zlo (zeh p nd M L) d else none
def zfe(p:zaa)(M:List NV)(L:List zaa)(d:Nat):List Int:=(nk M).filter fun k=>(zdq p k M L d).isSome
def zci(p:zaa)(nd:Int)(M:List NV)(L:List zaa)(d:Nat):Nat:=(zdq p nd M L d).getD 0
def zfy(p:zaa)(M:List NV)(d:Nat):Bool:=M.any fun x=>zcb p.m p.Z d x.C
def zbq(l:List Int)(j:Nat):Int:=l.getD j 0
theorem znm{l:List Int}{j:Nat}(h:j<l.length):l[j]?=some (zbq l j):=by
 unfold zbq;rw[List.getD_eq_getElem?_getD,List.getElem?_eq_getElem h];rfl
theorem zdo{l:List Int}{j:Nat}(h:j<l.length):zbq l j∈l:=List.mem_of_getElem? (znm h)
theorem znk{l:List Int}{k:Int}(h:k∈l):∃ j,j<l.length∧zbq l j=k:=by
 obtain⟨j,hj,e⟩:=List.mem_iff_getElem.1 h;refine⟨j,hj,?_⟩;unfold zbq;rw[List.getD_eq_getElem?_getD,List.getElem?_eq_getElem hj];exact e
def zcv(w:World)(v:Value)(l:List Int):Prop:=∃ A c,v=.slice A l.length c∧Rd w A l.length (zbq l)∧(A=none→l.length=0∧c=0)∧l.length≤c
theorem zcv.keep{w w':World}{v:Value}{l:List Int}(h:zcv w v l)(k:Keep w w'):zcv w' v l:=by
 obtain⟨A,c,h1,h2,h3⟩:=h;exact⟨A,c,h1,h2.keep k,h3⟩
structure RdP(w:World)(A:Option Addr)(n:Nat)(Z Y:Nat→Int):Prop where
 small:n≤9223372036854775807
 range:∀ k,k<n→(-9223372036854775808≤Z k∧Z k≤9223372036854775807)∧-9223372036854775808≤Y k∧Y k≤9223372036854775807
 adr:0<n→∃ b off,A=some ⟨b,off,none⟩∧∀ j,j<n→w.cell? ⟨b,off+j * 2,none⟩=some (.int .i64 (Z j))∧w.cell? ⟨b,off+j * 2+1,none⟩=some (.int .i64 (Y j))
theorem RdP.keep{w w':World}{A:Option Addr}{n:Nat}{Z Y:Nat→Int}(h:RdP w A n Z Y)(k:Keep w w'):RdP w' A n Z Y :=
 ⟨h.small,h.range,fun hn=>by
  obtain⟨b,off,e,hc⟩:=h.adr hn
  exact⟨b,off,e,fun j hj=>⟨k.cell (hc j hj).1,k.cell (hc j hj).2⟩⟩⟩
structure zik(CS:zba):Prop where
 nodes:∀ {w d q M L X w1} (p:zaa),CS w d q M L X w1→zaw w1→zaf w1 p→d≤64→p.m≤1000→M.length≤100→L.length≤100 →
  Calls Tryz.prog 11 #[.pointer (some ⟨q,0,none⟩),p.val] w1 fun e w'=>∃ v,e=.returned v∧zcv w' v (zbk p M L d)∧(∀ g,v.ownBlock=some g→w1.heap.size≤g)∧Keep w1 w'
 first:∀ {w d q M L X w1} (p:zaa),CS w d q M L X w1→zaw w1→zaf w1 p→d≤64→p.m≤1000→M.length≤100→L.length≤100 →
  Calls Tryz.prog 18 #[.pointer (some ⟨q,0,none⟩),p.val] w1 fun e w'=>e=.returned (.tuple #[.int .i64 (zbq (zbk p M L d) 0),.bool (decide (zbk p M L d≠[]))])∧Keep w1 w'
 reason:∀ {w d q M L X w1} (p:zaa) (nd:Int),CS w d q M L X w1→zaw w1→zaf w1 p→I64 nd→d≤64→p.m≤1000→M.length≤100→L.length≤100 →
  Calls Tryz.prog 27 #[.pointer (some ⟨q,0,none⟩),p.val,.int .i64 nd] w1 fun e w'=>e=.returned (.tuple #[.int .i64 (zci p nd M L d),.bool (zdq p nd M L d).isSome])∧Keep w1 w'
 reasons:∀ {w d q M L X w1} (p:zaa),CS w d q M L X w1→zaw w1→zaf w1 p→d≤64→p.m≤1000→M.length≤100→L.length≤100 →
  Calls Tryz.prog 12 #[.pointer (some ⟨q,0,none⟩),p.val] w1 fun e w'=>∃ A c,e=.returned (.slice A (zfe p M L d).length c)∧RdP w' A (zfe p M L d).length (zbq (zfe p M L d)) (fun j=>zci p (zbq (zfe p M L d) j) M L d)∧Keep w1 w'
 ever:∀ {w d q M L X w1} (p:zaa),CS w d q M L X w1→zaw w1→zaf w1 p→d≤64→p.m≤1000→M.length≤100→L.length≤100 →
  Calls Tryz.prog 15 #[.pointer (some ⟨q,0,none⟩),p.val] w1 fun e w'=>e=.returned (.bool (zfy p M d))∧Keep w1 w'
 none:∀ (p:zaa) (w1:World),zaf w1 p→Calls Tryz.prog 15 #[.pointer none,p.val] w1 fun e w'=>e=.returned (.bool false)∧Keep w1 w'
section
variable{p q:zaa}{M:List NV}{L:List zaa}{d:Nat}
theorem zey{k:Int}:k∈zbk p M L d↔zbx no p k M L d=true:=by
 unfold zbk;rw[List.mem_filter];exact⟨fun h=>h.2,fun h=>⟨(of_decide_eq_true h).1,h⟩⟩
theorem zgr(h:M.length≤100):(zbk p M L d).length≤100:=by
 refine Nat.le_trans (List.length_filter_le _ _) ?_;unfold nk G.keys;rw[List.length_map];exact h
theorem znx(h:M.length≤100):(zfe p M L d).length≤100:=by
 refine Nat.le_trans (List.length_filter_le _ _) ?_;unfold nk G.keys;rw[List.length_map];exact h
theorem zfr{Z:Nat→Int}{d k:Nat}(h:zlo Z d=some k):k<d∧Z k≠0:=by
 have h1:=List.find?_some h;exact⟨List.mem_range.1 (List.mem_of_find?_eq_some h),of_decide_eq_true h1⟩
theorem zhl{Z:Nat→Int}{d:Nat}:zlo Z d=none↔∀ k,k<d→Z k=0:=by
 unfold zlo;rw[List.find?_eq_none];constructor
 ·intro h k hk
  have:=h k (List.mem_range.2 hk)
  by_cases e:Z k=0
  ·exact e
  ·exact absurd (decide_eq_true e) this
 ·intro h k hk e
  exact of_decide_eq_true e (h k (List.mem_range.1 hk))
theorem zqh{k:Int}(hk:k∈nk M)(hw:¬0≤zae p.m p.Z d):(zdq p k M L d).isSome=!zbx no p k M L d:=by
 have hs:zcw p k M d=true:=decide_eq_true ⟨hk,hw⟩;unfold zdq;rw[if_pos hs];cases e:zlo (zeh p k M L) d with
 | none =>
   have h0:=zhl.1 e
   have:zbx no p k M L d=true:=decide_eq_true ⟨hk,hw,fun j hj=>by
    have:=h0 j hj;unfold zeh at this
    omega⟩
   rw[this];rfl
 | some j =>
   obtain⟨hj,hz⟩:=zfr e
   have:zbx no p k M L d=false:=decide_eq_false fun h=>hz (by
    have:=h.2.2 j hj;unfold zeh
    omega)
   rw[this];rfl
theorem zzm{l:List Int}{f g:Int→Bool}(h:∀ k∈l,g k=!f k):(l.filter f).length+(l.filter g).length=l.length:=by
 induction l with
 | nil=>rfl
 | cons y l ih =>
   have h1:=h y (by simp)
   have h2:=ih fun k hk=>h k (by simp[hk])
   cases hf:f y with
   | true =>
     rw[hf] at h1;rw[List.filter_cons_of_pos hf,List.filter_cons_of_neg (by rw[h1];simp),List.length_cons,List.length_cons]
     omega
   | false =>
     rw[hf] at h1;rw[List.filter_cons_of_neg (by rw[hf];simp),List.filter_cons_of_pos (by rw[h1];rfl),List.length_cons,List.length_cons]
     omega
theorem zsl(hw:¬0≤zae p.m p.Z d):(zbk p M L d).length+(zfe p M L d).length=M.length:=by
 have h:=zzm (l:=nk M) (f:=fun k=>zbx no p k M L d) (g:=fun k=>(zdq p k M L d).isSome) fun k hk=>zqh hk hw
 unfold zbk zfe;rw[h];unfold nk G.keys;rw[List.length_map]
theorem zsm(hw:¬0≤zae p.m p.Z d){k:Int}(hk:k∈zfe p M L d):k∉zbk p M L d∧zci p k M L d<d:=by
 obtain⟨h1,h2⟩:=List.mem_filter.1 hk;refine⟨fun h=>?_,?_⟩
 ·have h3:=zqh (L:=L) h1 hw
  rw[zey.1 h] at h3;rw[h3] at h2;cases h2
 ·unfold zci
  cases e:zdq p k M L d with
  | none=>rw[e] at h2;cases h2
  | some j =>
    show j<d
    unfold zdq at e
    split at e
    ·exact(zfr e).1
    ·cases e
theorem zph(ok:Ok d M L)(h:zbk p M L d≠[]):zfy p M d=true:=by
 obtain⟨k,hk⟩:=List.exists_mem_of_ne_nil _ h;obtain⟨h1,h2,h3⟩:=of_decide_eq_true (zey.1 hk);obtain⟨e1,e2⟩:=zcp h2;refine List.any_eq_true.2 ⟨nget M k,(zrz h1).1,decide_eq_true ⟨e1,fun j hj=>?_⟩⟩
 rw[e1] at hj;have a1:=h3 j hj;have h0:=ok.amtL hj;have a2:=zfb (L:=zlx no L) (id:=k) (j:=j) fun y hy=>h0 y (List.mem_filter.1 hy).1
 have a3:=(zfw (L:=zbv p k L) (j:=j) fun y hy=>h0 y (List.mem_filter.1 hy).1).1
 unfold zca at a1;omega
theorem zyv(h:∀ k,zbx no p k M L d=true→zbx no q k M L d=true){k:Int}(hk:k∈zbk p M L d):k∈zbk q M L d:=zey.2 (h k (zey.1 hk))
end
end Go.Proofs.YtihjgcibpfajkaaGreatDoor.T17
namespace Go.Proofs.YtihjgcibpfajkaaGreatDoor.T17
open Go.RowKit Go.Sort Go.Lib V12 T13 T14 T15 T16
theorem ace(A B:Option Addr)(n m c d:Nat)(Z Y:Nat→Int)(w:World)(h:n≠m):
  Calls Tryz.prog 21 #[.slice A n c,.slice B m d] w fun e w'=>e=.returned (.bool (zha n Z m Y))∧zau w w':=by
 go_enter Tryz.func21,Tryz.ntmps21
 go_wp2;go_ret
 exact⟨znw (aan h).symm,zau.refl _⟩
set_option maxHeartbeats 400000 in
theorem acd(A B:Option Addr)(n c d:Nat)(Z Y:Nat→Int)(w:World)(hA:Rd w A n Z)(hB:Rd w B n Y):
  Calls Tryz.prog 21 #[.slice A n c,.slice B n d] w fun e w'=>e=.returned (.bool (zha n Z n Y))∧zau w w':=by
 have hn:=hA.small
 go_enter Tryz.func21,Tryz.ntmps21
 go_wp2
 go_loopg [13] n (fun g i wr=>∃ k:Nat,k≤n∧g=n - k∧i=.int .i64 k∧zau w wr∧Aside (∀ j,j<k→Z j=Y j))
 case atStart=>exact⟨0,Nat.zero_le _,rfl,rfl,zau.refl _,fun _ h=>absurd h (Nat.not_lt_zero _)⟩
 case round =>
  obtain⟨k,hk,rfl,rfl,hd,hall⟩:=hrel
  by_cases hlt:k<n
  ·obtain⟨b,off,rfl,ca⟩:=(hA.below hd.below).adr (by omega)
   obtain⟨b',off',rfl,cb⟩:=(hB.below hd.below).adr (by omega)
   have g0:=ca k hlt;have g1:=cb k hlt;clear ca cb hA hB
   by_cases hz:Z k=Y k
   ·have hzb:(Z k != Y k)=false:=by simp[hz]
    have hz:Hid (Z k=Y k):=hz;go_wp2
    go_quiet (fail)
    go_wp2;go_roundg (n - (k+1))
    case measure=>omega
    case rel=>exact⟨k+1,hlt,rfl,by go_num,hd.drewN _,fun j hj=>by
     rcases Nat.lt_succ_iff_lt_or_eq.1 hj with h | rfl
     ·exact hall.out j h
     ·exact hz⟩
   ·have hzb:(Z k != Y k)=true:=by simp[hz]
    go_wp2
    go_quiet (fail)
    go_wp2;go_ret
    exact⟨znw (zwl hlt (by omega)).symm,hd.drewN _⟩
  ·obtain rfl:k=n:=by omega
   go_wp2;go_ret
   exact⟨znw (zhb rfl hall.out).symm,hd⟩
theorem zli(A B:Option Addr)(n m c d:Nat)(Z Y:Nat→Int)(w:World)(hA:Rd w A n Z)(hB:Rd w B m Y):
  Calls Tryz.prog 21 #[.slice A n c,.slice B m d] w fun e w'=>e=.returned (.bool (zha n Z m Y))∧zau w w':=by
 by_cases h:n=m
 ·subst h;exact acd A B n c d Z Y w hA hB
 ·exact ace A B n m c d Z Y w h
set_option maxHeartbeats 400000 in
def abh(n:Nat)(Z:Nat→Int)(x r:Int):Prop:=(r = -1∧∀ j,j<n→Z j≠x)∨∃ j:Nat,j<n∧r=(j:Int)∧Z j=x∧∀ i,i<j→Z i≠x
set_option maxHeartbeats 400000 in
theorem zqk(A:Option Addr)(n c:Nat)(Z:Nat→Int)(x:Int)(w:World)(hA:Rd w A n Z):Calls Tryz.prog 22 #[.slice A n c,.int .i64 x] w fun e w'=>∃ r:Int,e=.returned (.int .i64 r)∧abh n Z x r∧Keep w w':=by
 have hn:=hA.small;have HA:=Lib.hid hA;clear hA
 go_enter Tryz.func22,Tryz.ntmps22
 go_wp2
 go_loopg [5,8] n (fun gx _ s8 wr=>∃ k:Nat,k≤n∧gx=n - k∧s8=.int .i64 k∧Hid (Keep w wr)∧Hid (∀ j,j<k→Z j≠x))
 case atStart=>exact⟨0,Nat.zero_le _,rfl,rfl,Keep.refl _,fun _ h=>absurd h (Nat.not_lt_zero _)⟩
 case round =>
  obtain⟨k,hk,rfl,rfl,KR,NO⟩:=hrel
  by_cases hlt:k<n
  ·obtain⟨b,off,rfl,ca⟩:=(HA.out.keep KR.out).adr (by omega)
   have c0:=ca k hlt;clear ca
   by_cases hz:Z k=x
   ·have hzb:(x == Z k)=true:=by simp[hz]
    have hz2:Hid (Z k=x):=hz;clear hz;go_wp2;go_ret
    exact⟨k,rfl,Or.inr ⟨k,hlt,rfl,hz2.out,NO.out⟩,KR.out⟩
   ·have hzb:(x == Z k)=false:=by simp[Ne.symm hz]
    have NO2:Hid (∀ j,j<k+1→Z j≠x):=fun j hj=>by
     rcases Nat.lt_succ_iff_lt_or_eq.1 hj with h | rfl
     ·exact NO.out j h
     ·exact hz
    clear hz;go_wp2;go_roundg (n - (k+1))
    case measure=>omega
    case rel=>exact⟨k+1,hlt,rfl,by go_num,KR.out,NO2.out⟩
  ·obtain rfl:k=n:=by omega
   go_wp2;go_ret
   exact⟨-1,rfl,Or.inl ⟨rfl,NO.out⟩,KR.out⟩
set_option maxHeartbeats 400000 in
theorem zug(A:Option Addr)(n c:Nat)(Z:Nat→Int)(x:Int)(w:World)(hA:Rd w A n Z)(b:Bool)(hb:b=true↔∃ j,j<n∧Z j=x):Calls Tryz.prog 14 #[.slice A n c,.int .i64 x] w fun e w'=>e=.returned (.bool b)∧Keep w w':=by
 have hI:=Lib.hid (zqk A n c Z x w hA);replace hA:=Lib.hid hA;have fin:Hid (∀ r:Int,abh n Z x r→decide (0≤r)=b):=fun r h=>by
  rcases h with ⟨rfl,hn⟩ | ⟨j,hj,rfl,hz,_⟩
  ·cases b with
   | false=>rfl
   | true =>
     obtain⟨j,hj,e⟩:=hb.1 rfl;exact absurd e (hn j hj)
  ·rw[hb.2 ⟨j,hj,hz⟩]
   exact decide_eq_true (by omega)
 replace hb:=Lib.hid hb
 go_enter Tryz.func14,Tryz.ntmps14
 go_wp2_with fail;refine hI.out.mono ?_;rintro e w1 ⟨r,rfl,hr,k⟩;have hd:=fin.out r hr;replace hr:=Lib.hid hr;replace k:=Lib.hid k;go_wp2;go_ret
 exact⟨rfl,k.out⟩
theorem zmx{w:World}{v:Value}{l:List Int}(h:zcv w v l)(x:Int):Calls Tryz.prog 14 #[v,.int .i64 x] w fun e w'=>e=.returned (.bool (decide (x∈l)))∧Keep w w':=by
 obtain⟨A,c,rfl,hr,_⟩:=h;refine zug A l.length c (zbq l) x w hr _ ?_;rw[decide_eq_true_iff];constructor
 ·intro h
  obtain⟨j,hj,e⟩:=znk h;exact⟨j,hj,e⟩
 ·rintro⟨j,hj,rfl⟩
  exact zdo hj
end Go.Proofs.YtihjgcibpfajkaaGreatDoor.T17
namespace Go.Proofs.YtihjgcibpfajkaaGreatDoor.T17
open Go.RowKit Go.Sort Go.Lib V12 T13 T14 T15 T16
def aeq(CS:zba):Prop:=∀ {w0 w d q M L X w1} {Z:Nat→Prop},CS w d q M L X w1→Keep w0 w→(∀ i,Z i→w0.heap.size≤i∧i<w.heap.size)→CS w0 d q M L (fun i=>X i∨Z i) w1
def ziv:Prop:=∀ W,zaw W→Calls Tryz.prog 8 #[] W fun e w'=>e=.returned (.bool true)∧Keep W w'
section
variable{p q:zaa}{M:List NV}{L:List zaa}{d:Nat}
theorem zzh{x:NV}{M:List NV}(hx:x.k∉nk M):(nk (G.ins NV.k x M)).filter (fun k=>decide (k≠x.k))=nk M:=by
 have self:∀ {K:List Int},x.k∉K→K.filter (fun k=>decide (k≠x.k))=K:=fun {K} h=>List.filter_eq_self.2 fun k hk=>decide_eq_true fun e=>h (by rw[← e];exact hk)
 induction M with
 | nil =>
   show([x.k]:List Int).filter _=[]
   rw[List.filter_cons_of_neg (by simp)]
   rfl
 | cons y M ih =>
   have h1:x.k≠y.k∧x.k∉nk M:=by
    have:x.k∉y.k :: nk M:=hx;rw[List.mem_cons,not_or] at this;exact this
   unfold G.ins
   split
   ·show(x.k :: y.k :: nk M).filter _=y.k :: nk M
    rw[List.filter_cons_of_neg (by simp)]
    exact self hx
   ·show(y.k :: nk (G.ins NV.k x M)).filter _=y.k :: nk M
    rw[List.filter_cons_of_pos (by simp[Ne.symm h1.1]),ih h1.2]
theorem zzd{x:NV}(hs:G.Srt NV.k M)(hx:x.k∉nk M){k:Int}(hk:k∈nk M):nget (G.ins NV.k x M) k=nget M k:=by
 obtain⟨h1,h2⟩:=zrz hk;have h3:=G.get_at (z:=zv) (G.ins_sorted hs hx) (G.ins_mem.2 (Or.inr h1));rw[h2] at h3;exact h3
theorem zun{x:NV}(hs:G.Srt NV.k M)(hx:x.k∉nk M){k:Int}(hk:k∈nk M):zbx no p k (G.ins NV.k x M) L d=zbx no p k M L d:=by
 unfold zbx;rw[zzd hs hx hk,decide_eq_decide];have:k∈nk (G.ins NV.k x M)↔k∈nk M:=by
  have:=G.ins_keys (key:=NV.k) (x:=x) (L:=M) (id:=k);exact this.trans ⟨fun h=>h.elim (fun e=>e▸hk) id,Or.inr⟩
 rw[this]
theorem zye{x:NV}(hs:G.Srt NV.k M)(hx:x.k∉nk M):(zbk p (G.ins NV.k x M) L d).filter (fun k=>decide (k≠x.k))=zbk p M L d:=by
 unfold zbk;rw[List.filter_filter];have e1:(nk (G.ins NV.k x M)).filter (fun k=>decide (k≠x.k)&&zbx no p k (G.ins NV.k x M) L d)=((nk (G.ins NV.k x M)).filter fun k=>decide (k≠x.k)).filter fun k=>zbx no p k (G.ins NV.k x M) L d:=by
  rw[List.filter_filter];refine List.filter_congr fun k _=>Bool.and_comm _ _
 rw[e1,zzh hx];exact List.filter_congr fun k hk=>zun hs hx hk
theorem zov(hs:G.Srt NV.k M):(zbk p M L d).Nodup:=(G.keys_nodup hs).sublist List.filter_sublist
theorem aej{l:List Int}(hn:l.Nodup){i:Nat}(hi:i<l.length):(l.filter fun k=>decide (k≠zbq l i))=l.take i++l.drop (i+1):=by
 induction l generalizing i with
 | nil=>cases hi
 | cons y l ih =>
   rw[List.nodup_cons] at hn;rcases i with _ | i
   ·show(y :: l).filter (fun k=>decide (k≠y))=l
    rw[List.filter_cons_of_neg (by simp)]
    exact List.filter_eq_self.2 fun k hk=>decide_eq_true fun e=>hn.1 (by rw[← e];exact hk)
   ·have hi2:i<l.length:=by simpa using hi
    have e:zbq (y :: l) (i+1)=zbq l i:=rfl;have hy:y≠zbq l i:=fun e2=>hn.1 (by rw[e2];exact zdo hi2)
    rw[e,List.filter_cons_of_pos (p:=fun k=>decide (k≠zbq l i)) (by simp[hy]),ih hn.2 hi2]
    rfl
theorem adg(l:List Int){i:Nat}(hi:i<l.length){j:Nat}:zbq (l.take i++l.drop (i+1)) j=if j<i then zbq l j else zbq l (j+1):=by
 unfold zbq;rw[List.getD_eq_getElem?_getD]
 by_cases h:j<i
 ·rw[if_pos h,List.getD_eq_getElem?_getD,List.getElem?_append_left (by rw[List.length_take];omega),List.getElem?_take_of_lt h]
 ·rw[if_neg h,List.getD_eq_getElem?_getD,List.getElem?_append_right (by rw[List.length_take];omega),List.length_take,Nat.min_eq_left (Nat.le_of_lt hi),List.getElem?_drop,show i+1+(j - i)=j+1 by omega]
theorem zmh{l:List Int}{i:Nat}(hi:i<l.length):(l.take i++l.drop (i+1)).length=l.length - 1:=by
 rw[List.length_append,List.length_take,List.length_drop];omega
theorem aek{l:List Int}{k:Int}(h:k∉l):(l.filter fun j=>decide (j≠k))=l:=List.filter_eq_self.2 fun j hj=>decide_eq_true fun e=>h (by rw[← e];exact hj)
theorem aap{x:zaa}(hl:L.length≤100)(h:sbC L d x≠0):0≤zae x.m x.Z d∨x.k∈keys L:=by
 unfold sbC zdx at h
 by_cases h1:0≤zae x.m x.Z d
 ·exact Or.inl h1
 ·rw[if_neg h1] at h
  by_cases h2:x.k∈keys L
  ·exact Or.inr h2
  ·rw[if_neg h2,if_neg (by omega)] at h
   exact absurd rfl h
theorem aaq{x:zaa}(h:sbC L d x=0):¬0≤zae x.m x.Z d∧x.k∉keys L∧sbL L d x=L++[zcl x L.length]:=by
 unfold sbC at h
 by_cases h1:0≤zae x.m x.Z d
 ·rw[if_pos h1] at h;cases h
 ·rw[if_neg h1] at h
  refine⟨h1,fun h2=>?_,?_⟩
  ·unfold zdx at h
   rw[if_pos h2] at h;cases h
  ·unfold sbL zek
   rw[if_neg h1,if_pos h]
theorem zuo{L:List zaa}{y:zaa}(h:y.k∉keys L):zai (L++[y]) y.k=y∧y.k∈keys (L++[y]):=by
 constructor
 ·unfold zai
  rw[List.find?_append,List.find?_eq_none.2 fun z hz e=>h (by rw[← of_decide_eq_true e];exact List.mem_map_of_mem hz)]
  simp
 ·unfold keys
  rw[List.map_append,List.mem_append];exact Or.inr (by simp)
theorem bind_ok{x r:zaa}(ok:Ok d M (L++[zcl x L.length]))(hx:x.k∉keys L)(hr:nm r=zcl x L.length){nd:Int}(hf:zbx no r nd M (L++[zcl x L.length]) d=true):
  r.k=x.k∧plC M (L++[zcl x L.length]) d r.k nd 1=0∧(zao (zai (L++[zcl x L.length]) r.k) 1 nd (-1)).h=3∧(zao (zai (L++[zcl x L.length]) r.k) 1 nd (-1)).d=nd:=by
 have hk:r.k=x.k:=show(nm r).k=_ by rw[hr];rfl
 have hz:r.Z=(zcl x L.length).Z:=show(nm r).Z=_ by rw[hr]
 obtain⟨g1,g2⟩:=zuo (y:=zcl x L.length) (L:=L) hx;have g1:zai (L++[zcl x L.length]) r.k=zcl x L.length:=by rw[hk];exact g1
 have g2:r.k∈keys (L++[zcl x L.length]):=by rw[hk];exact g2
 obtain⟨f1,_,f3⟩:=of_decide_eq_true hf;have nx1:nx 1 1=3:=by decide
 refine⟨hk,?_,?_,?_⟩
 ·unfold plC
  rw[if_neg (fun h=>h g2),if_neg (fun h=>h f1),g1,if_neg (show ¬nx (zcl x L.length).h 1=0 by rw[show(zcl x L.length).h=1 from rfl,nx1];decide),if_neg]
  rintro⟨_,h⟩;rw[zjj.2 fun j hj=>?_] at h
  ·cases h
  ·rw[g1,← hz]
   have a1:=f3 j hj;have h0:=ok.amtL hj;have a2:=(zfw (L:=zbv r nd (L++[zcl x L.length])) (j:=j) fun y hy=>h0 y (List.mem_filter.1 hy).1).1
   have a3:zlx no (L++[zcl x L.length])=L++[zcl x L.length]:=List.filter_eq_self.2 fun _ _=>rfl
   unfold zca at a1;rw[a3] at a1;omega
 ·rw[g1];exact nx1
 ·rw[g1];rfl
end
end Go.Proofs.YtihjgcibpfajkaaGreatDoor.T17
