/-
  The reference's nodes, and rows of them of the call's own. No condition.
  The order of pairs; sorted lists of them. No condition, no walk.
  Worlds that have only drawn and grown; frames. No condition.
  The reference's Find, Drop. Condition: at most 1000 nodes for the last.
-/
import Derived.Test.YtcogiogjpbkeaaaGreatDoorJ0
import Derived.Test.YtcogiogjpbkeaaaGreatDoorJ2
import Derived.Laws.AppendOwnNone
import Derived.Laws.OwnMore
import Derived.Laws.Rows
import Derived.OwnWalk
import Derived.Deep.AppendLies
import Derived.Deep.DeepAppendRoom
import Derived.Deep.RegionLaw
import Derived.Shelf.SlSortCmp.KitK
import Derived.Deep.Cut
namespace Go.Proofs.YtcogiogjpbkeaaaGreatDoor.T12
open Go.RowKit Go.Lib
def I64(x:Int):Prop:=-9223372036854775808<=x/\x<=9223372036854775807
structure RnV where
 k:Int
 A:Option Addr
 n:Nat
 c:Nat
 C:Nat->Int
 B:Option Addr
 m:Nat
 d:Nat
 U:Nat->Int
def RnV.cells(x:RnV):List Value:=[.int .i64 x.k,.slice x.A x.n x.c,.slice x.B x.m x.d]
def RnV.val(x:RnV):Value:=.agg #[.int .i64 x.k,.slice x.A x.n x.c,.slice x.B x.m x.d]
def zp:RnV:=⟨0,none,0,0,fun _=>0,none,0,0,fun _=>0⟩
structure amf(x:RnV):Prop where
 k:I64 x.k
 t:True
structure CelN(w:World)(b o:Nat)(x:RnV):Prop where
 e0:w.cell? ⟨b,o,none⟩=some (.int .i64 x.k)
 e1:w.cell? ⟨b,o+1,none⟩=some (.slice x.A x.n x.c)
 e2:w.cell? ⟨b,o+2,none⟩=some (.slice x.B x.m x.d)
theorem CelN.keep{w w':World}{b o:Nat}{x:RnV}(h:CelN w b o x)(k:Keep w w'):CelN w' b o x:=⟨k.cell h.e0,k.cell h.e1,k.cell h.e2⟩
theorem ziv{w:World}{g o:Nat}{x:RnV}(h:∀ i u,x.cells[i]?=some u->w.cell? ⟨g,o+i,none⟩=some u):CelN w g o x:=⟨h 0 _ rfl,h 1 _ rfl,h 2 _ rfl⟩
theorem CelN.all{w:World}{g o:Nat}{x:RnV}(h:CelN w g o x):∀ i u,x.cells[i]?=some u->w.cell? ⟨g,o+i,none⟩=some u:=by
 intro i u hu
 match i,hu with
 | 0,hu=>rw[<- Option.some.inj hu];exact h.e0
 | 1,hu=>rw[<- Option.some.inj hu];exact h.e1
 | 2,hu=>rw[<- Option.some.inj hu];exact h.e2
 | i+3,hu=>cases hu
structure RdN(w:World)(A:Option Addr)(n:Nat)(P:Nat->RnV):Prop where
 small:n<=9223372036854775807
 adr:0<n->∃ b off,A=some ⟨b,off,none⟩/\∀ j,j<n->CelN w b (off+j * 3) (P j)
 ok:∀ j,j<n->amf (P j)
theorem RdN.nil(w:World)(A:Option Addr)(P:Nat->RnV):RdN w A 0 P:=⟨by omega,fun h=>absurd h (Nat.lt_irrefl _),fun _ h=>absurd h (Nat.not_lt_zero _)⟩
theorem RdN.keep{w w':World}{A:Option Addr}{n:Nat}{P:Nat->RnV}(h:RdN w A n P)(k:Keep w w'):RdN w' A n P :=
 ⟨h.small,fun hn=>by
  obtain⟨b,off,e,c⟩:=h.adr hn
  exact⟨b,off,e,fun j hj=>(c j hj).keep k⟩,h.ok⟩
theorem RdN.congr{w:World}{A:Option Addr}{n:Nat}{P R:Nat->RnV}(h:RdN w A n P)(e:∀ j,j<n->P j=R j):RdN w A n R :=
 ⟨h.small,fun hn=>by
  obtain⟨b,off,e',c⟩:=h.adr hn
  exact⟨b,off,e',fun j hj=>by rw[<- e j hj];exact c j hj⟩,fun j hj=>by rw[<- e j hj];exact h.ok j hj⟩
theorem cells3(x:RnV):x.cells.length=3:=rfl
theorem cells_one(x:RnV):∀ u∈x.cells,u.oneCell'=true:=by
 intro u hu;simp only[RnV.cells,List.mem_cons,List.not_mem_nil,or_false] at hu;rcases hu with rfl | rfl | rfl<;>rfl
def zau(Q:Nat->RnV):Nat->List Value
 | 0=>[]
 | n+1=>zau Q n++(Q n).cells
theorem zcx(Q:Nat->RnV):∀ n,(zau Q n).length=n * 3
 | 0=>rfl
 | n+1=>by rw[zau,List.length_append,zcx Q n,cells3];omega
theorem zbp(Q:Nat->RnV):∀ n,∀ u∈zau Q n,u.oneCell'=true
 | 0,u,h=>by cases h
 | n+1,u,h=>by
   rcases List.mem_append.1 h with h | h
   ·exact zbp Q n u h
   ·exact cells_one _ u h
theorem zgy{Q R:Nat->RnV}:∀ n,(∀ j,j<n->Q j=R j)->zau Q n=zau R n
 | 0,_=>rfl
 | n+1,h=>by rw[zau,zau,zgy n (fun j hj=>h j (by omega)),h n (by omega)]
theorem zfm(Q:Nat->RnV):∀ (n j i:Nat),j<n->i<3->(zau Q n)[j * 3+i]?=(Q j).cells[i]?
 | 0,j,i,h,_=>absurd h (Nat.not_lt_zero _)
 | n+1,j,i,h,hi=>by
   rw[zau]
   by_cases e:j=n
   ·subst e
    rw[List.getElem?_append_right (by rw[zcx];omega),zcx]
    congr 1
    omega
   ·rw[List.getElem?_append_left (by rw[zcx];omega)]
    exact zfm Q n j i (by omega) hi
def put(Q:Nat->RnV)(n:Nat)(x:RnV):Nat->RnV:=fun j=>if j=n then x else Q j
theorem zat(Q:Nat->RnV)(n:Nat)(x:RnV):put Q n x n=x:=if_pos rfl
theorem zbj(Q:Nat->RnV)(n:Nat)(x:RnV){j:Nat}(h:j≠n):put Q n x j=Q j:=if_neg h
def lst(Q:Nat->RnV)(n:Nat):List RnV:=(List.range n).map Q
theorem lst_len(Q:Nat->RnV)(n:Nat):(lst Q n).length=n:=by simp[lst]
theorem zaw{Q:Nat->RnV}{n j:Nat}(h:j<n):(lst Q n)[j]?=some (Q j):=by simp[lst,h]
theorem lst_mem{Q:Nat->RnV}{n:Nat}{x:RnV}:x∈lst Q n↔∃ j,j<n/\Q j=x:=by simp[lst]
theorem lst_succ(Q:Nat->RnV)(n:Nat):lst Q (n+1)=lst Q n++[Q n]:=by simp[lst,List.range_succ]
theorem zfb{Q R:Nat->RnV}{n:Nat}(h:∀ j,j<n->Q j=R j):lst Q n=lst R n:=List.map_congr_left fun j hj=>h j (List.mem_range.1 hj)
theorem zib(Q:Nat->RnV)(n:Nat)(x:RnV):lst (put Q n x) (n+1)=lst Q n++[x]:=by
 rw[lst_succ,zat,zfb fun j hj=>zbj Q n x (by omega)]
def row(L:List RnV):Nat->RnV:=fun j=>L.getD j zp
theorem lst_row(L:List RnV):lst (row L) L.length=L:=by
 refine List.ext_getElem? fun j=>?_
 by_cases h:j<L.length
 ·rw[zaw h,List.getElem?_eq_getElem h]
  unfold row;rw[List.getD_eq_getElem?_getD,List.getElem?_eq_getElem h];rfl
 ·rw[List.getElem?_eq_none (by rw[lst_len];omega),List.getElem?_eq_none (by omega)]
theorem zan{w:World}{base n z:Nat}{e:TypeId}{v:Value}{xs:List Value}(h:w.ownsRow base e z v n xs):∃ A cap,v=.slice A n cap/\(A=none->n=0/\cap=0):=by
 rcases h.2 with ⟨rfl,rfl⟩ | ⟨g,cap,cur,rfl,_⟩
 ·exact⟨none,0,rfl,fun _=>⟨rfl,rfl⟩⟩
 ·exact⟨_,cap,rfl,fun h=>by cases h⟩
theorem zal{w w':World}{base n:Nat}{e:TypeId}{z:Nat}{v:Value}{xs:List Value}(h:w.ownsRow base e z v n xs)(k:Keep w w'):w'.ownsRow base e z v n xs :=
 h.kept k.grown (Classical.em (v.ownBlock=none))
theorem zbx{w:World}{base base':Nat}{e:TypeId}{size:Nat}{v:Value}{n:Nat}{xs:List Value}(h:w.ownsRow base e size v n xs)(hb:base'<=base):w.ownsRow base' e size v n xs:=by
 rcases h with ⟨h1,h2 | ⟨g,cap,cur,h3,h4,h5⟩⟩
 ·exact⟨h1,.inl h2⟩
 ·exact⟨h1,.inr ⟨g,cap,cur,h3,by omega,h5⟩⟩
theorem zds{w:World}{base n z c:Nat}{e:TypeId}{A:Option Addr}{xs:List Value}(h:w.ownsRow base e z (.slice A n c) n xs):n<=c:=by
 rcases h.2 with ⟨hv,h0⟩ | ⟨_,_,_,hv,_,_,hc,_⟩
 ·omega
 ·simp only[Value.slice.injEq] at hv
  omega
theorem zao{w w':World}{base n z:Nat}{e:TypeId}{v:Value}{xs:List Value}(h:w.ownsRow base e z v n xs)(hs:∀ g,v.ownBlock=some g->w'.heap[g]?=w.heap[g]?):w'.ownsRow base e z v n xs:=by
 rcases h with ⟨h1,h2 | ⟨g,cap,cur,rfl,h4,h5,h6⟩⟩
 ·exact⟨h1,.inl h2⟩
 ·exact⟨h1,.inr ⟨g,cap,cur,rfl,h4,(hs g rfl).trans h5,h6⟩⟩
theorem zad{w a b:World}(k:Keep w a){row:Option Nat}(hg:a.grownBy b row)(hrow:∀ g,row=some g->w.heap.size<=g):Keep w b :=
 Below.grown k hg k.size hrow
theorem zdh{W:World}{base k:Nat}{e:TypeId}(hb:base<=k)(h:W.heap[k]?=some (.cells #[] e (0,0))):W.ownsRow base e 3 (.slice (some ⟨k,0,none⟩) 0 0) 0 []:=
 ⟨rfl,.inr ⟨k,0,#[],rfl,hb,h,Nat.le_refl _,Nat.zero_le _,rfl,rfl⟩⟩
theorem zcg{w:World}{base n g cap:Nat}{e:TypeId}{Q:Nat->RnV}(h:w.ownsRow base e 3 (.slice (some ⟨g,0,none⟩) n cap) n (zau Q n)){j:Nat}(hj:j<n):CelN w g (0+j * 3) (Q j):=by
 refine ziv fun i u hu=>?_
 have hi:i<3:=(List.getElem?_eq_some_iff.1 hu).1;rw[Nat.zero_add,h.cellAt (j * 3+i) (by omega),zfm Q n j i hj hi,hu]
theorem zxb{w:World}{base n:Nat}{e:TypeId}{B:Option Addr}{d:Nat}{Q:Nat->RnV}(h:w.ownsRow base e 3 (.slice B n d) n (zau Q n))(hn:n<=9223372036854775807)(hi:∀ j,j<n->amf (Q j)):RdN w B n Q :=
 ⟨hn,fun hp=>by
  obtain⟨g,cap,e,_,_⟩:=h.form hp;have e':=e;simp only[Value.slice.injEq] at e';obtain⟨rfl,_,rfl⟩:=e'
  exact⟨g,0,rfl,fun t ht=>zcg h ht⟩,hi⟩
def zdq(w:World)(X:Value)(m:Nat)(news:List Value):Prop :=
 (X=.slice none 0 0/\m=0/\news=[])\/∃ ad c,X=.slice (some ad) m c/\news.length=m * 3/\∀ j u,news[j]?=some u->w.cell? (ad.add j)=some u
theorem zbh{W:World}{k:Nat}{e:TypeId}{x:RnV}(h:W.heap[k]?=some (.cells #[.int .i64 x.k,.slice x.A x.n x.c,.slice x.B x.m x.d] e (0,0))):zdq W (.slice (some ⟨k,0,none⟩) 1 1) 1 x.cells:=by
 refine .inr ⟨_,_,rfl,rfl,fun j u hu=>?_⟩
 rw[WideShapes.add_plain,Nat.zero_add,cell_of_row W k j _ _ _ h,List.getElem?_toArray];exact hu
theorem zeu{w:World}{b off i n c:Nat}{Q:Nat->RnV}(h:∀ j,j<n->CelN w b (off+(i+j) * 3) (Q j))(o:Nat)(ho:n=0\/o=off+i * 3):zdq w (.slice (some ⟨b,o,none⟩) n c) n (zau Q n):=by
 refine .inr ⟨_,_,rfl,zcx _ _,fun j u hu=>?_⟩
 have hj:j<n * 3:=by have:=(List.getElem?_eq_some_iff.1 hu).1;rwa [zcx] at this
 rcases ho with rfl | rfl
 ·omega
 rw[WideShapes.add_plain];have h1:j / 3<n:=by omega
 have h2:j % 3<3:=Nat.mod_lt _ (by omega)
 have hg:=zfm Q n (j / 3) (j % 3) h1 h2;rw[show j / 3 * 3+j % 3=j by omega,hu] at hg
 have:=(h (j / 3) h1).all (j % 3) u hg.symm
 rwa [show off+(i+j / 3) * 3+j % 3=off+i * 3+j by omega] at this
theorem zge{w:World}{A:Option Addr}{n c:Nat}{P:Nat->RnV}(h:RdN w A n P)(h0:A=none->n=0/\c=0):zdq w (.slice A n c) n (zau P n):=by
 cases A with
 | none =>
   obtain⟨rfl,rfl⟩:=h0 rfl;exact .inl ⟨rfl,rfl,rfl⟩
 | some a =>
   by_cases hn:0<n
   ·obtain⟨b,off,e,hc⟩:=h.adr hn
    obtain rfl:=Option.some.inj e;exact zeu (off:=off) (i:=0) (fun j hj=>by rw[Nat.zero_add];exact hc j hj) off (Or.inr (by omega))
   ·obtain rfl:n=0:=by omega
    exact .inr ⟨a,c,rfl,rfl,fun j u hu=>by cases hu⟩
structure TyP(e es:TypeId):Prop where
 info:(Tryz.prog.info? e).map (fun i=>(i.zero,i.size,i.bytes))=some (some (.agg #[.int .i64 0,.slice none 0 0,.slice none 0 0]),3,56)
 und:Tryz.prog.underlying es=some (.slice e)
section
variable{ops:Array Oper}{rest:List Oper}{o:Oper}{a:Act}{w:World}{K:Act->World->Prop}{Q:Exit->Act->World->Prop}{E:Prop}{e es:TypeId}
theorem zdz(T:TyP e es)(hgd:o.guard=none)(s x:Operand)(ho:o.op=.call { callee:=.builtin .append,args:=#[s,x],argTypes:=#[es,es] })
  (base:Nat) (v:Value) (n:Nat) (xs:List Value) (hs:a.eval s=v) (hown:w.ownsRow base e 3 v n xs) (X:Value) (m:Nat) (news:List Value) (hx:a.eval x=X) (hsrc:zdq w X m news) (h1:∀ u∈news,u.oneCell'=true)
  (hlim:n+m<=1048577) (hbase:base<=w.heap.size) (N:Nat) (hN:n+m=N)
  (h:∀ v' w',w'.ownsRow base e 3 v' N (xs++news)->w.grownBy w' v.ownBlock->wpList Tryz.prog ops Q rest (a.put o.dst v') w'):wpList Tryz.prog ops Q (o :: rest) a w:=by
 subst hN;obtain⟨i0,hi0,hz0,hz1,hz2⟩:=info_parts T.info;rcases hsrc with ⟨rfl,rfl,rfl⟩ | ⟨ad,c,rfl,hl,hc⟩
 ·exact wpList_append_own_none hgd s x es ho base e i0 3 T.und hi0 v n xs hs hown hx (h v w (by rw[List.append_nil];exact hown) ⟨rfl,rfl,rfl,Nat.le_refl _,fun _ _ _=>rfl⟩)
 ·exact wpList_append_own (P:=Tryz.prog) w hgd s x es ho base e i0 _ 3 56 T.und hi0 hz0 hz1 hz2 rfl (by decide) v n xs hs hown ad m c news hx hl hc h1 (by unfold maxLen;omega) (by omega) hbase fun v' w' h2 h3 _=>h v' w' h2 h3
theorem zbi(T:TyP e es)(hgd:o.guard=none)(s x:Operand)(ho:o.op=.call { callee:=.builtin .append,args:=#[s,x],argTypes:=#[es,es] })
  (base:Nat) (v:Value) (n:Nat) (xs:List Value) (hs:a.eval s=v) (hown:w.ownsRow base e 3 v n xs) (X:Value) (m:Nat) (news:List Value) (hx:a.eval x=X) (hsrc:zdq w X m news) (h1:∀ u∈news,u.oneCell'=true)
  (hlim:n+m<=1048577) (hbase:base<=w.heap.size) (N:Nat) (hN:n+m=N)
  (h:∀ v' w',w'.ownsRow base e 3 v' N (xs++news)->w.grownBy w' v.ownBlock->K (a.put o.dst v') w') :
  if Region.wanted o (yielded ops a.tmps)=true then Oper.wp Tryz.prog o a w K Q else E:=by
 have hw:Region.wanted o (yielded ops a.tmps)=true:=by simp[Region.wanted,hgd]
 rw[if_pos hw];subst hN;obtain⟨i0,hi0,hz0,hz1,hz2⟩:=info_parts T.info;rcases hsrc with ⟨rfl,rfl,rfl⟩ | ⟨ad,c,rfl,hl,hc⟩
 ·have hrun:=run_append_owned_none (P:=Tryz.prog) (w:=w) base es o.type e i0 3 T.und hi0 v n xs hown
  have hg:w.grownBy w v.ownBlock:=⟨rfl,rfl,rfl,Nat.le_refl _,fun _ _ _=>rfl⟩
  have:=h v w (by rw[List.append_nil];exact hown) hg
  unfold Oper.wp;simp[execOp,ho,resolve,invoke,builtin,hs,hx,hrun,Result.andThen]
  exact this
 ·exact wp_append_own (P:=Tryz.prog) w s x es ho base e i0 _ 3 56 T.und hi0 hz0 hz1 hz2 rfl (by decide) v n xs hs hown ad m c news hx hl hc h1 (by unfold maxLen;omega) (by omega) hbase fun v' w' h2 h3 _=>h v' w' h2 h3
end
end Go.Proofs.YtcogiogjpbkeaaaGreatDoor.T12
namespace Go.Proofs.YtcogiogjpbkeaaaGreatDoor.T12
open Go.RowKit Go.Lib
def zdk(x y:RnV):Bool:=decide (x.k<y.k)
theorem zcs(x y:RnV):zdk x y=true↔x.k<y.k:=by unfold zdk;rw[decide_eq_true_eq]
theorem zpu(x y:RnV):zdk x y=false↔¬x.k<y.k:=by unfold zdk;rw[decide_eq_false_iff_not]
theorem zdr{x y z:RnV}(h:zdk x y=true)(k:zdk y z=true):zdk x z=true:=by rw[zcs] at *;omega
theorem zkg{x y:RnV}(h:x.k≠y.k)(k:zdk x y=false):zdk y x=true:=by rw[zpu] at k;rw[zcs];omega
def Srt(L:List RnV):Prop:=L.Pairwise fun x y=>zdk x y=true
def zbc(x:RnV):List RnV->List RnV
 | []=>[x]
 | y :: L=>if zdk x y=true then x :: y :: L else y :: zbc x L
def keys(L:List RnV):List Int:=L.map (·.k)
def getL(L:List RnV)(id:Int):RnV:=(L.find? fun y=>decide (y.k=id)).getD zp
theorem ins_perm(x:RnV):∀ L,(zbc x L).Perm (x :: L)
 | []=>List.Perm.refl _
 | y :: L=>by
   unfold zbc
   split
   ·exact List.Perm.refl _
   ·exact((ins_perm x L).cons y).trans (List.Perm.swap x y L)
theorem ins_mem{x y:RnV}{L:List RnV}:y∈zbc x L↔y=x\/y∈L:=by rw[(ins_perm x L).mem_iff,List.mem_cons]
theorem ins_sorted{x:RnV}:∀ {L},Srt L->x.k∉keys L->Srt (zbc x L)
 | [],_,_=>List.pairwise_singleton _ _
 | y :: L,h,hk=>by
   have h':=h;unfold Srt at h';rw[List.pairwise_cons] at h';have hk2:x.k≠y.k/\x.k∉keys L:=by unfold keys at hk ⊢;rw[List.map_cons,List.mem_cons,not_or] at hk;exact hk
   unfold zbc
   split
   ·rename_i hb
    unfold Srt;rw[List.pairwise_cons];refine⟨fun z hz=>?_,h⟩
    rcases List.mem_cons.1 hz with rfl | hz
    ·exact hb
    ·exact zdr hb (h'.1 z hz)
   ·rename_i hb
    unfold Srt;rw[List.pairwise_cons];refine⟨fun z hz=>?_,ins_sorted h'.2 hk2.2⟩
    rcases ins_mem.1 hz with rfl | hz
    ·exact zkg hk2.1 (by cases e:zdk z y<;>simp_all)
    ·exact h'.1 z hz
theorem ins_len(x:RnV)(L:List RnV):(zbc x L).length=L.length+1:=by rw[(ins_perm x L).length_eq];rfl
theorem ins_keys{x:RnV}{L:List RnV}(h:(keys L).Nodup)(hk:x.k∉keys L):(keys (zbc x L)).Nodup:=by
 have:(keys (zbc x L)).Perm (x.k :: keys L):=(ins_perm x L).map _;rw[this.nodup_iff,List.nodup_cons];exact⟨hk,h⟩
theorem zho{x:RnV}:∀ {L:List RnV} {i:Nat},Srt L->i<=L.length->(∀ j y,i<=j->L[j]?=some y->zdk x y=true)->(∀ y,0<i->L[i - 1]?=some y->zdk x y=false)->L.take i++[x]++L.drop i=zbc x L
 | [],i,_,hi,_,_=>by
   obtain rfl:i=0:=by simpa using hi
   rfl
 | y :: L,0,_,_,h1,_=>by
   unfold zbc;rw[if_pos (h1 0 y (Nat.le_refl _) rfl)];rfl
 | y :: L,i+1,hs,hi,h1,h2=>by
   have hs':=hs;unfold Srt at hs';rw[List.pairwise_cons] at hs';have hy:zdk x y=false:=by
    cases i with
    | zero=>exact h2 y (by omega) rfl
    | succ i =>
      have hl:i<L.length:=by simp at hi;omega
      have h3:=h2 L[i] (by omega) (by simp[List.getElem?_eq_getElem hl])
      cases e:zdk x y with
      | false=>rfl
      | true =>
        rw[zdr e (hs'.1 _ (List.getElem_mem hl))] at h3;exact absurd h3 (by decide)
   unfold zbc
   rw[if_neg (by rw[hy];decide),<- zho (i:=i) hs'.2 (by simp at hi;omega) (fun j z hj hz=>h1 (j+1) z (by omega) (by simpa using hz)) (fun z hz e=>h2 z (by omega) (by
    obtain⟨i',rfl⟩:∃ i',i=i'+1:=⟨i - 1,by omega⟩
    simpa using e))]
   rfl
theorem zjk{L:List RnV}{id:Int}(h:id∉keys L):getL L id=zp:=by
 unfold getL;rw[List.find?_eq_none.2 fun y hy=>by simpa using fun e=>h (by rw[<- e];exact List.mem_map_of_mem hy)]
 rfl
theorem get_some{L:List RnV}{id:Int}(h:id∈keys L):getL L id∈L/\(getL L id).k=id:=by
 obtain⟨y,hy,e⟩:=List.mem_map.1 h;unfold getL;cases hf:L.find? fun y=>decide (y.k=id) with
 | none=>exact absurd (List.find?_eq_none.1 hf y hy) (by simpa using e)
 | some z=>exact⟨List.mem_of_find?_eq_some hf,by simpa using List.find?_some hf⟩
theorem zdv(Q:Nat->RnV):∀ n,zau Q n=(lst Q n).flatMap RnV.cells
 | 0=>rfl
 | n+1=>by rw[zau,zdv Q n,lst_succ,List.flatMap_append,List.flatMap_singleton]
theorem zgm(Q:Nat->RnV){n i:Nat}(h:i<=n):(lst Q n).take i=lst Q i:=by
 refine List.ext_getElem? fun j=>?_
 rw[List.getElem?_take]
 split
 ·rw[zaw (by omega),zaw (by assumption)]
 ·rw[List.getElem?_eq_none (by rw[lst_len];omega)]
theorem zfj(Q:Nat->RnV)(n i:Nat):(lst Q n).drop i=lst (fun t=>Q (i+t)) (n - i):=by
 refine List.ext_getElem? fun j=>?_
 rw[List.getElem?_drop]
 by_cases h:i+j<n
 ·rw[zaw h,zaw (by omega)]
 ·rw[List.getElem?_eq_none (by rw[lst_len];omega),List.getElem?_eq_none (by rw[lst_len];omega)]
theorem rnCs_row(L:List RnV):zau (row L) L.length=L.flatMap RnV.cells:=by rw[zdv,lst_row]
theorem ins_row{P:Nat->RnV}{n i:Nat}{x:RnV}(hi:i<=n)(hs:Srt (lst P n))(h1:∀ j,i<=j->j<n->zdk x (P j)=true)(h2:i=0\/zdk x (P (i - 1))=false):
  zau P i++x.cells++zau (fun t=>P (i+t)) (n - i)=zau (row (zbc x (lst P n))) (n+1):=by
 have hl:(zbc x (lst P n)).length=n+1:=by rw[ins_len,lst_len]
 rw[<- hl,rnCs_row,<- zho (i:=i) hs (by rw[lst_len];exact hi) (fun j y hj e=>by
  have hj2:j<n:=by have:=(List.getElem?_eq_some_iff.1 e).1;rwa [lst_len] at this
  rw[zaw hj2] at e;rw[<- Option.some.inj e];exact h1 j hj hj2) (fun y hi0 e=>by
  rw[zaw (by omega)] at e
  rw[<- Option.some.inj e]
  exact h2.resolve_left (by omega)),zgm _ hi,zfj,List.flatMap_append,List.flatMap_append,zdv,zdv,List.flatMap_singleton]
def znl(L:List RnV)(x:RnV):List RnV:=L.map fun y=>if y.k=x.k then x else y
theorem zhs(L:List RnV)(x:RnV):keys (znl L x)=keys L:=by
 unfold keys znl;rw[List.map_map];refine List.map_congr_left fun y _=>?_
 show(if y.k=x.k then x else y).k=y.k
 split
 ·exact Eq.symm (by assumption)
 ·rfl
theorem srt_keys{L:List RnV}:Srt L↔(keys L).Pairwise (·<·):=by
 unfold Srt keys;rw[List.pairwise_map];exact⟨fun h=>h.imp fun h=>(zcs _ _).1 h,fun h=>h.imp fun h=>(zcs _ _).2 h⟩
theorem rep_sorted{L:List RnV}{x:RnV}(h:Srt L):Srt (znl L x):=by rw[srt_keys,zhs,<- srt_keys];exact h
theorem keys_nodup{L:List RnV}(h:Srt L):(keys L).Nodup:=by
 rw[srt_keys] at h;exact h.imp fun h=>Int.ne_of_lt h
theorem rep_mem{L:List RnV}{x y:RnV}(h:y∈znl L x):y∈L\/y=x:=by
 unfold znl at h;obtain⟨z,hz,rfl⟩:=List.mem_map.1 h
 split
 ·exact Or.inr rfl
 ·exact Or.inl hz
end Go.Proofs.YtcogiogjpbkeaaaGreatDoor.T12
namespace Go.Proofs.YtcogiogjpbkeaaaGreatDoor.T12
open Go.RowKit Go.Sort Go.Lib
def Gr(w w':World):Prop:=∃ q os,w'=grow (w.drewN q) os
theorem Gr.refl(w:World):Gr w w:=⟨0,#[],by rw[grow_empty];rfl⟩
theorem Gr.trans{a b c:World}(h:Gr a b)(k:Gr b c):Gr a c:=by
 obtain⟨q,os,rfl⟩:=h;obtain⟨r,ot,rfl⟩:=k;exact⟨q+r,os++ot,by show grow (grow ((a.drewN q).drewN r) os) ot=_;rw[grow_grow,World.drewN_drewN]⟩
theorem Gr.alloc{a b:World}(h:Gr a b)(o:Obj):Gr a (b.alloc o):=h.trans ⟨0,#[o],by rw[alloc_eq_grow];rfl⟩
theorem Gr.one(w:World)(o:Obj):Gr w (w.alloc o):=(Gr.refl w).alloc o
theorem Gr.drew{a b:World}(h:Gr a b):Gr a b.drew:=h.trans ⟨1,#[],by rw[grow_empty];rfl⟩
theorem Gr.drewN{a b:World}(h:Gr a b)(q:Nat):Gr a (b.drewN q):=h.trans ⟨q,#[],by rw[grow_empty]⟩
theorem Gr.keep{w w':World}(h:Gr w w'):Keep w w':=by
 obtain⟨q,os,rfl⟩:=h;refine⟨rfl,rfl,rfl,by rw[size_grow];exact Nat.le_add_right _ _,fun k hk=>heap_grow_old _ _ hk⟩
theorem Gr.cell{w w':World}{a:Addr}{v:Value}(h:Gr w w')(hc:w.cell? a=some v):w'.cell? a=some v:=h.keep.cell hc
theorem grows{w:World}{a:Addr}{v:Value}(h:w.cell? a=some v)(n:Nat)(os:Array Obj):(grow (w.drewN n) os).cell? a=some v:=(Gr.keep ⟨n,os,rfl⟩).cell h
structure Fr(D:Nat->Prop)(w w':World):Prop where
 os:w'.os=w.os
 tape:w'.tape=w.tape
 output:w'.output=w.output
 size:w.heap.size<=w'.heap.size
 block:∀ k,k<w.heap.size->¬D k->w'.heap[k]?=w.heap[k]?
theorem Fr.refl(D:Nat->Prop)(w:World):Fr D w w:=⟨rfl,rfl,rfl,Nat.le_refl _,fun _ _ _=>rfl⟩
theorem Fr.of{D:Nat->Prop}{w w':World}(h:Keep w w'):Fr D w w':=⟨h.os,h.tape,h.output,h.size,fun k hk _=>Below.block h k hk⟩
theorem Fr.trans{D D':Nat->Prop}{a b c:World}(h:Fr D a b)(k:Fr D' b c)(hD:∀ i,D' i->D i\/a.heap.size<=i):Fr D a c :=
 ⟨k.os.trans h.os,k.tape.trans h.tape,k.output.trans h.output,Nat.le_trans h.size k.size,fun i hi hn=>(k.block i (Nat.lt_of_lt_of_le hi h.size) (fun hd=>(hD i hd).elim hn (fun h1=>absurd h1 (by omega)))).trans (h.block i hi hn)⟩
theorem Fr.same{D:Nat->Prop}{a b c:World}(h:Fr D a b)(k:Fr D b c):Fr D a c:=h.trans k fun _ h=>Or.inl h
theorem Fr.keep{D:Nat->Prop}{a b c:World}(h:Fr D a b)(k:Keep b c):Fr D a c:=h.same (Fr.of k)
theorem Fr.after{D:Nat->Prop}{a b c:World}(h:Keep a b)(k:Fr D b c):Fr D a c:=(Fr.of h).same k
theorem Fr.low{D:Nat->Prop}{w0 w w':World}(h:Keep w0 w)(k:Fr D w w')(hD:∀ i,D i->w0.heap.size<=i):Keep w0 w' :=
 ⟨k.os.trans h.os,k.tape.trans h.tape,k.output.trans h.output,Nat.le_trans h.size k.size,fun i hi=>(k.block i (Nat.lt_of_lt_of_le hi h.size) (fun hd=>by have:=hD i hd;omega)).trans (Below.block h i hi)⟩
theorem Fr.cell{D:Nat->Prop}{w w':World}(h:Fr D w w'){a:Addr}{v:Value}(hc:w.cell? a=some v)(hn:¬D a.block):w'.cell? a=some v:=by
 rw[World.cell?_of_block (w:=w) (h.block _ (zbl hc) hn)];exact hc
theorem Fr.grown{D:Nat->Prop}{w w':World}{row:Option Nat}(hg:w.grownBy w' row)(hr:∀ g,row=some g->D g\/w.heap.size<=g):Fr D w w' :=
 ⟨hg.os,hg.tape,hg.output,hg.size,fun k hk hn=>hg.block k hk (fun e=>(hr k e.symm).elim hn (fun h=>absurd h (by omega)))⟩
theorem Fr.set{D:Nat->Prop}{a b:World}(h:Fr D a b){p:Addr}(hp:D p.block\/a.heap.size<=p.block)(u:Value):Fr D a (b.setCell p u):=
 ⟨h.os,h.tape,h.output,by rw[show(b.setCell p u).heap.size=b.heap.size by simp];exact h.size,fun k hk hn=>by
  rw[Below.heap_setCell b p u k (fun e=>hp.elim (fun h=>hn (by rw[e];exact h)) (fun h=>absurd h (by omega)))];exact h.block k hk hn⟩
theorem Fr.drewN{D:Nat->Prop}{a b:World}(h:Fr D a b)(q:Nat):Fr D a (b.drewN q):=⟨h.os,h.tape,h.output,h.size,h.block⟩
theorem Fr.drew{D:Nat->Prop}{a b:World}(h:Fr D a b):Fr D a b.drew:=⟨h.os,h.tape,h.output,h.size,h.block⟩
theorem Fr.alloc{D:Nat->Prop}{a b:World}(h:Fr D a b)(o:Obj):Fr D a (b.alloc o):=h.keep (Keep.one _ _)
theorem Fr.less{D E:Nat->Prop}{a b:World}(h:Fr D a b)(hD:∀ i,D i->E i):Fr E a b:=⟨h.os,h.tape,h.output,h.size,fun k hk hn=>h.block k hk fun hd=>hn (hD k hd)⟩
def Off(D:Nat->Prop)(A:Option Addr)(n:Nat):Prop:=∀ b off,A=some ⟨b,off,none⟩->0<n->¬D b
theorem RdN.fr{w w':World}{D:Nat->Prop}{A:Option Addr}{n:Nat}{P:Nat->RnV}(h:RdN w A n P)(f:Fr D w w')(o:Off D A n):RdN w' A n P :=
 ⟨h.small,fun hn=>by
  obtain⟨b,off,e,c⟩:=h.adr hn;have:=o b off e hn
  exact⟨b,off,e,fun j hj=>⟨f.cell (c j hj).e0 this,f.cell (c j hj).e1 this,f.cell (c j hj).e2 this⟩⟩,h.ok⟩
theorem RdN.lt{w:World}{A:Option Addr}{n:Nat}{P:Nat->RnV}(h:RdN w A n P):∀ b off,A=some ⟨b,off,none⟩->0<n->b<w.heap.size:=fun b off e hn=>by
 obtain⟨b',off',e',c⟩:=h.adr hn;rw[e] at e';have e2:=Option.some.inj e';simp only[Addr.mk.injEq,and_true] at e2;rw[e2.1];exact zbl (c 0 hn).e0
theorem Off.more{D D':Nat->Prop}{w w0:World}{A:Option Addr}{n:Nat}{P:Nat->RnV}(o:Off D A n)(h:RdN w0 A n P)(k:w0.heap.size<=w.heap.size)(hD:∀ i,D' i->D i\/w.heap.size<=i):Off D' A n:=fun b off e hn hd=>by
 rcases hD b hd with h1 | h1
 ·exact o b off e hn h1
 ·have:=h.lt b off e hn
  omega
theorem Off.low{D:Nat->Prop}{w0:World}{A:Option Addr}{n:Nat}{P:Nat->RnV}(h:RdN w0 A n P)(hD:∀ i,D i->w0.heap.size<=i):Off D A n:=fun b off e hn hd=>by
 have:=h.lt b off e hn;have:=hD b hd;omega
theorem Off.nil(D:Nat->Prop)(A:Option Addr):Off D A 0:=fun _ _ _ h=>absurd h (Nat.lt_irrefl _)
end Go.Proofs.YtcogiogjpbkeaaaGreatDoor.T12
namespace Go.Proofs.YtcogiogjpbkeaaaGreatDoor.T12
open Go.RowKit Go.Sort Go.Lib
def findN(P:Nat->RnV)(id:Int):Nat->Int
 | 0=>-1
 | n+1=>if 0<=findN P id n then findN P id n else if (P n).k=id then(n:Int) else -1
theorem find_no{P:Nat->RnV}{id:Int}:∀ {n},(∀ t,t<n->(P t).k≠id)->findN P id n = -1
 | 0,_=>rfl
 | n+1,h=>by
   rw[findN,find_no (fun t ht=>h t (by omega)),if_neg (by omega),if_neg (h n (by omega))]
theorem find_at{P:Nat->RnV}{id:Int}{j:Nat}(hj:(P j).k=id)(h:∀ t,t<j->(P t).k≠id):∀ {n},j<n->findN P id n=(j:Int)
 | n+1,hn=>by
   by_cases e:j=n
   ·subst e
    rw[findN,find_no h,if_neg (by omega),if_pos hj]
   ·rw[findN,find_at hj h (n:=n) (by omega),if_pos (by omega)]
theorem find_cases(P:Nat->RnV)(id:Int)(n:Nat):(findN P id n = -1/\id∉keys (lst P n))\/∃ j,j<n/\findN P id n=(j:Int)/\(P j).k=id/\id∈keys (lst P n)/\getL (lst P n) id=P j:=by
 by_cases h:∃ j,j<n/\(P j).k=id
 ·right
  obtain⟨j,hj,hk,hm⟩:∃ j,j<n/\(P j).k=id/\∀ t,t<j->(P t).k≠id:=by
   induction n with
   | zero=>obtain⟨j,hj,_⟩:=h;exact absurd hj (Nat.not_lt_zero _)
   | succ n ih =>
     by_cases h2:∃ j,j<n/\(P j).k=id
     ·obtain⟨j,a,b,c⟩:=ih h2
      exact⟨j,by omega,b,c⟩
     ·obtain⟨j,hj,hk⟩:=h
      refine⟨j,hj,hk,fun t ht e=>h2 ⟨t,by omega,e⟩⟩
  refine⟨j,hj,find_at hk hm hj,hk,?_,?_⟩
  ·unfold keys
   rw[<- hk];exact List.mem_map_of_mem (lst_mem.2 ⟨j,hj,rfl⟩)
  ·unfold getL
   have e:(lst P n).find? (fun y=>decide (y.k=id))=some (P j):=by
    rw[List.find?_eq_some_iff_getElem];refine⟨by simpa using hk,j,by rw[lst_len];exact hj,?_,fun t ht=>?_⟩
    ·have:=zaw (Q:=P) hj
     rw[List.getElem?_eq_getElem (by rw[lst_len];exact hj)] at this
     exact Option.some.inj this
    ·have h1:=zaw (Q:=P) (n:=n) (j:=t) (by omega)
     rw[List.getElem?_eq_getElem (by rw[lst_len];omega)] at h1
     rw[Option.some.inj h1]
     simpa using hm t ht
   rw[e];rfl
 ·left
  refine⟨find_no fun t ht e=>h ⟨t,ht,e⟩,fun hk=>?_⟩
  obtain⟨y,hy,e⟩:=List.mem_map.1 hk;obtain⟨j,hj,rfl⟩:=lst_mem.1 hy;exact h ⟨j,hj,e⟩
theorem find_iff{P:Nat->RnV}{id:Int}{n:Nat}:0<=findN P id n↔id∈keys (lst P n):=by
 rcases find_cases P id n with ⟨h1,h2⟩ | ⟨j,_,h1,_,h2,_⟩
 ·rw[h1];exact⟨fun h=>absurd h (by decide),fun h=>absurd h h2⟩
 ·rw[h1];exact⟨fun _=>h2,fun _=>by omega⟩
end Go.Proofs.YtcogiogjpbkeaaaGreatDoor.T12
