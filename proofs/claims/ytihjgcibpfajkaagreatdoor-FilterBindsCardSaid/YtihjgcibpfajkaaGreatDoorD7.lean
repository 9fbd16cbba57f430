/-
  Nodes as values, and rows of them of the call's own. No condition.
  What the laws ask of the cluster's functions. No condition, no walk.
  What is reserved, as lists and sums; the reference's Sees. No condition.
-/
import Derived.Test.YtihjgcibpfajkaaGreatDoorD6
import Derived.Laws.AppendOwnNone
import Derived.Laws.OwnMore
import Derived.Laws.Rows
import Derived.OwnWalk
import Derived.Deep.AppendLies
import Derived.Deep.DeepAppendRoom
import Derived.Deep.RegionLaw
import Derived.Deep.RegionWith
namespace Go.Proofs.YtihjgcibpfajkaaGreatDoor.C14
open Go.RowKit Go.Lib V12
abbrev I64:=T13.I64
structure NdC where
 k:Int
 A:Option Addr
 n:Nat
 c:Nat
 C:Nat→Int
def NdC.cells(x:NdC):List Value:=[.int .i64 x.k,.slice x.A x.n x.c]
def NdC.val(x:NdC):Value:=.agg #[.int .i64 x.k,.slice x.A x.n x.c]
def zp:NdC:=⟨0,none,0,0,fun _=>0⟩
structure zrj(x:NdC):Prop where
 k:I64 x.k
 t:True
structure CelN(w:World)(b o:Nat)(x:NdC):Prop where
 e0:w.cell? ⟨b,o,none⟩=some (.int .i64 x.k)
 e1:w.cell? ⟨b,o+1,none⟩=some (.slice x.A x.n x.c)
theorem CelN.keep{w w':World}{b o:Nat}{x:NdC}(h:CelN w b o x)(k:Keep w w'):CelN w' b o x:=⟨k.cell h.e0,k.cell h.e1⟩
theorem zjc{w:World}{g o:Nat}{x:NdC}(h:∀ i u,x.cells[i]?=some u→w.cell? ⟨g,o+i,none⟩=some u):CelN w g o x:=⟨h 0 _ rfl,h 1 _ rfl⟩
theorem CelN.all{w:World}{g o:Nat}{x:NdC}(h:CelN w g o x):∀ i u,x.cells[i]?=some u→w.cell? ⟨g,o+i,none⟩=some u:=by
 intro i u hu
 match i,hu with
 | 0,hu=>rw[← Option.some.inj hu];exact h.e0
 | 1,hu=>rw[← Option.some.inj hu];exact h.e1
 | i+2,hu=>cases hu
structure RdN(w:World)(A:Option Addr)(n:Nat)(P:Nat→NdC):Prop where
 small:n≤9223372036854775807
 adr:0<n→∃ b off,A=some ⟨b,off,none⟩∧∀ j,j<n→CelN w b (off+j * 2) (P j)
 ok:∀ j,j<n→zrj (P j)
theorem RdN.nil(w:World)(A:Option Addr)(P:Nat→NdC):RdN w A 0 P:=⟨by omega,fun h=>absurd h (Nat.lt_irrefl _),fun _ h=>absurd h (Nat.not_lt_zero _)⟩
theorem RdN.keep{w w':World}{A:Option Addr}{n:Nat}{P:Nat→NdC}(h:RdN w A n P)(k:Keep w w'):RdN w' A n P :=
 ⟨h.small,fun hn=>by
  obtain⟨b,off,e,c⟩:=h.adr hn
  exact⟨b,off,e,fun j hj=>(c j hj).keep k⟩,h.ok⟩
theorem RdN.congr{w:World}{A:Option Addr}{n:Nat}{P R:Nat→NdC}(h:RdN w A n P)(e:∀ j,j<n→P j=R j):RdN w A n R :=
 ⟨h.small,fun hn=>by
  obtain⟨b,off,e',c⟩:=h.adr hn
  exact⟨b,off,e',fun j hj=>by rw[← e j hj];exact c j hj⟩,fun j hj=>by rw[← e j hj];exact h.ok j hj⟩
theorem aca(x:NdC):x.cells.length=2:=rfl
theorem cells_one(x:NdC):∀ u∈x.cells,u.oneCell'=true:=by
 intro u hu;simp only[NdC.cells,List.mem_cons,List.not_mem_nil,or_false] at hu;rcases hu with rfl | rfl<;>rfl
def rnCs(Q:Nat→NdC):Nat→List Value
 | 0=>[]
 | n+1=>rnCs Q n++(Q n).cells
theorem zcd(Q:Nat→NdC):∀ n,(rnCs Q n).length=n * 2
 | 0=>rfl
 | n+1=>by rw[rnCs,List.length_append,zcd Q n,aca];omega
theorem zbb(Q:Nat→NdC):∀ n,∀ u∈rnCs Q n,u.oneCell'=true
 | 0,u,h=>by cases h
 | n+1,u,h=>by
   rcases List.mem_append.1 h with h | h
   ·exact zbb Q n u h
   ·exact cells_one _ u h
theorem zdk{Q R:Nat→NdC}:∀ n,(∀ j,j<n→Q j=R j)→rnCs Q n=rnCs R n
 | 0,_=>rfl
 | n+1,h=>by rw[rnCs,rnCs,zdk n (fun j hj=>h j (by omega)),h n (by omega)]
theorem zed(Q:Nat→NdC):∀ (n j i:Nat),j<n→i<2→(rnCs Q n)[j * 2+i]?=(Q j).cells[i]?
 | 0,j,i,h,_=>absurd h (Nat.not_lt_zero _)
 | n+1,j,i,h,hi=>by
   rw[rnCs]
   by_cases e:j=n
   ·subst e
    rw[List.getElem?_append_right (by rw[zcd];omega),zcd]
    congr 1
    omega
   ·rw[List.getElem?_append_left (by rw[zcd];omega)]
    exact zed Q n j i (by omega) hi
def put(Q:Nat→NdC)(n:Nat)(x:NdC):Nat→NdC:=fun j=>if j=n then x else Q j
theorem put_at(Q:Nat→NdC)(n:Nat)(x:NdC):put Q n x n=x:=if_pos rfl
theorem put_ne(Q:Nat→NdC)(n:Nat)(x:NdC){j:Nat}(h:j≠n):put Q n x j=Q j:=if_neg h
theorem rnCs_put(Q:Nat→NdC)(n:Nat)(x:NdC):rnCs (put Q n x) (n+1)=rnCs Q n++x.cells:=by
 rw[rnCs,put_at,zdk n (fun j hj=>put_ne Q n x (by omega))]
def lst(Q:Nat→NdC)(n:Nat):List NdC:=(List.range n).map Q
theorem lst_len(Q:Nat→NdC)(n:Nat):(lst Q n).length=n:=by simp[lst]
theorem zav{Q:Nat→NdC}{n j:Nat}(h:j<n):(lst Q n)[j]?=some (Q j):=by simp[lst,h]
theorem lst_mem{Q:Nat→NdC}{n:Nat}{x:NdC}:x∈lst Q n↔∃ j,j<n∧Q j=x:=by simp[lst]
theorem lst_succ(Q:Nat→NdC)(n:Nat):lst Q (n+1)=lst Q n++[Q n]:=by simp[lst,List.range_succ]
theorem zdy{Q R:Nat→NdC}{n:Nat}(h:∀ j,j<n→Q j=R j):lst Q n=lst R n:=List.map_congr_left fun j hj=>h j (List.mem_range.1 hj)
theorem zft(Q:Nat→NdC)(n:Nat)(x:NdC):lst (put Q n x) (n+1)=lst Q n++[x]:=by
 rw[lst_succ,put_at,zdy fun j hj=>put_ne Q n x (by omega)]
def row(L:List NdC):Nat→NdC:=fun j=>L.getD j zp
theorem lst_row(L:List NdC):lst (row L) L.length=L:=by
 refine List.ext_getElem? fun j=>?_
 by_cases h:j<L.length
 ·rw[zav h,List.getElem?_eq_getElem h]
  unfold row;rw[List.getD_eq_getElem?_getD,List.getElem?_eq_getElem h];rfl
 ·rw[List.getElem?_eq_none (by rw[lst_len];omega),List.getElem?_eq_none (by omega)]
theorem own_form{w:World}{base n z:Nat}{e:TypeId}{v:Value}{xs:List Value}(h:w.ownsRow base e z v n xs):∃ A cap,v=.slice A n cap∧(A=none→n=0∧cap=0):=by
 rcases h.2 with ⟨rfl,rfl⟩ | ⟨g,cap,cur,rfl,_⟩
 ·exact⟨none,0,rfl,fun _=>⟨rfl,rfl⟩⟩
 ·exact⟨_,cap,rfl,fun h=>by cases h⟩
theorem own_keep{w w':World}{base n:Nat}{e:TypeId}{z:Nat}{v:Value}{xs:List Value}(h:w.ownsRow base e z v n xs)(k:Keep w w'):w'.ownsRow base e z v n xs :=
 h.kept k.grown (Classical.em (v.ownBlock=none))
theorem zcg{w:World}{base base':Nat}{e:TypeId}{size:Nat}{v:Value}{n:Nat}{xs:List Value}(h:w.ownsRow base e size v n xs)(hb:base'≤base):w.ownsRow base' e size v n xs:=by
 rcases h with ⟨h1,h2 | ⟨g,cap,cur,h3,h4,h5⟩⟩
 ·exact⟨h1,.inl h2⟩
 ·exact⟨h1,.inr ⟨g,cap,cur,h3,by omega,h5⟩⟩
theorem zdg{w:World}{base n z c:Nat}{e:TypeId}{A:Option Addr}{xs:List Value}(h:w.ownsRow base e z (.slice A n c) n xs):n≤c:=by
 rcases h.2 with ⟨hv,h0⟩ | ⟨_,_,_,hv,_,_,hc,_⟩
 ·omega
 ·simp only[Value.slice.injEq] at hv
  omega
theorem zal{w w':World}{base n z:Nat}{e:TypeId}{v:Value}{xs:List Value}(h:w.ownsRow base e z v n xs)(hs:∀ g,v.ownBlock=some g→w'.heap[g]?=w.heap[g]?):w'.ownsRow base e z v n xs:=by
 rcases h with ⟨h1,h2 | ⟨g,cap,cur,rfl,h4,h5,h6⟩⟩
 ·exact⟨h1,.inl h2⟩
 ·exact⟨h1,.inr ⟨g,cap,cur,rfl,h4,(hs g rfl).trans h5,h6⟩⟩
theorem keep_grown{w a b:World}(k:Keep w a){row:Option Nat}(hg:a.grownBy b row)(hrow:∀ g,row=some g→w.heap.size≤g):Keep w b :=
 Below.grown k hg k.size hrow
theorem zcj{W:World}{base k:Nat}{e:TypeId}(hb:base≤k)(h:W.heap[k]?=some (.cells #[] e (0,0))):W.ownsRow base e 2 (.slice (some ⟨k,0,none⟩) 0 0) 0 []:=
 ⟨rfl,.inr ⟨k,0,#[],rfl,hb,h,Nat.le_refl _,Nat.zero_le _,rfl,rfl⟩⟩
theorem zbz{w:World}{base n g cap:Nat}{e:TypeId}{Q:Nat→NdC}(h:w.ownsRow base e 2 (.slice (some ⟨g,0,none⟩) n cap) n (rnCs Q n)){j:Nat}(hj:j<n):CelN w g (0+j * 2) (Q j):=by
 refine zjc fun i u hu=>?_
 have hi:i<2:=(List.getElem?_eq_some_iff.1 hu).1;rw[Nat.zero_add,h.cellAt (j * 2+i) (by omega),zed Q n j i hj hi,hu]
theorem rows_rd{w:World}{base n:Nat}{e:TypeId}{B:Option Addr}{d:Nat}{Q:Nat→NdC}(h:w.ownsRow base e 2 (.slice B n d) n (rnCs Q n))(hn:n≤9223372036854775807)(hi:∀ j,j<n→zrj (Q j)):RdN w B n Q :=
 ⟨hn,fun hp=>by
  obtain⟨g,cap,e,_,_⟩:=h.form hp;have e':=e;simp only[Value.slice.injEq] at e';obtain⟨rfl,_,rfl⟩:=e'
  exact⟨g,0,rfl,fun t ht=>zbz h ht⟩,hi⟩
def SrcC(w:World)(X:Value)(m:Nat)(news:List Value):Prop :=
 (X=.slice none 0 0∧m=0∧news=[])∨∃ ad c,X=.slice (some ad) m c∧news.length=m * 2∧∀ j u,news[j]?=some u→w.cell? (ad.add j)=some u
theorem src_one{W:World}{k:Nat}{e:TypeId}{x:NdC}(h:W.heap[k]?=some (.cells #[.int .i64 x.k,.slice x.A x.n x.c] e (0,0))):SrcC W (.slice (some ⟨k,0,none⟩) 1 1) 1 x.cells:=by
 refine .inr ⟨_,_,rfl,rfl,fun j u hu=>?_⟩
 rw[WideShapes.add_plain,Nat.zero_add,cell_of_row W k j _ _ _ h,List.getElem?_toArray];exact hu
theorem zdr{w:World}{b off i n c:Nat}{Q:Nat→NdC}(h:∀ j,j<n→CelN w b (off+(i+j) * 2) (Q j))(o:Nat)(ho:n=0∨o=off+i * 2):SrcC w (.slice (some ⟨b,o,none⟩) n c) n (rnCs Q n):=by
 refine .inr ⟨_,_,rfl,zcd _ _,fun j u hu=>?_⟩
 have hj:j<n * 2:=by have:=(List.getElem?_eq_some_iff.1 hu).1;rwa [zcd] at this
 rcases ho with rfl | rfl
 ·omega
 rw[WideShapes.add_plain];have h1:j / 2<n:=by omega
 have h2:j % 2<2:=Nat.mod_lt _ (by omega)
 have hg:=zed Q n (j / 2) (j % 2) h1 h2;rw[show j / 2 * 2+j % 2=j by omega,hu] at hg
 have:=(h (j / 2) h1).all (j % 2) u hg.symm
 rwa [show off+(i+j / 2) * 2+j % 2=off+i * 2+j by omega] at this
theorem zeq{w:World}{A:Option Addr}{n c:Nat}{P:Nat→NdC}(h:RdN w A n P)(h0:A=none→n=0∧c=0):SrcC w (.slice A n c) n (rnCs P n):=by
 cases A with
 | none =>
   obtain⟨rfl,rfl⟩:=h0 rfl;exact .inl ⟨rfl,rfl,rfl⟩
 | some a =>
   by_cases hn:0<n
   ·obtain⟨b,off,e,hc⟩:=h.adr hn
    obtain rfl:=Option.some.inj e;exact zdr (off:=off) (i:=0) (fun j hj=>by rw[Nat.zero_add];exact hc j hj) off (Or.inr (by omega))
   ·obtain rfl:n=0:=by omega
    exact .inr ⟨a,c,rfl,rfl,fun j u hu=>by cases hu⟩
structure TyP(e es:TypeId):Prop where
 info:(Tryz.prog.info? e).map (fun i=>(i.zero,i.size,i.bytes))=some (some (.agg #[.int .i64 0,.slice none 0 0]),2,32)
 und:Tryz.prog.underlying es=some (.slice e)
theorem Tryz.tyC14:TyP 55 22:=⟨by kernel_rfl,Tryz.underlying22⟩
theorem atN(b off n cp j:Nat)(hj:j<n)(W:World):(Instr.indexAt 22 (.slice (some ⟨b,off,none⟩) n cp) (.int .i64 j)).run Tryz.prog W=.ok (.pointer (some ⟨b,off+j * 2,none⟩)) W:=by
 go_simp
section
variable{ops:Array Oper}{rest:List Oper}{o:Oper}{a:Act}{w:World}{K:Act→World→Prop}{Q:Exit→Act→World→Prop}{E:Prop}{e es:TypeId}
theorem wpl_own(T:TyP e es)(hgd:o.guard=none)(s x:Operand)(ho:o.op=.call { callee:=.builtin .append,args:=#[s,x],argTypes:=#[es,es] })
  (base:Nat) (v:Value) (n:Nat) (xs:List Value) (hs:a.eval s=v) (hown:w.ownsRow base e 2 v n xs) (X:Value) (m:Nat) (news:List Value) (hx:a.eval x=X) (hsrc:SrcC w X m news) (h1:∀ u∈news,u.oneCell'=true)
  (hlim:n+m≤1048577) (hbase:base≤w.heap.size) (N:Nat) (hN:n+m=N)
  (h:∀ v' w',w'.ownsRow base e 2 v' N (xs++news)→w.grownBy w' v.ownBlock→wpList Tryz.prog ops Q rest (a.put o.dst v') w'):wpList Tryz.prog ops Q (o :: rest) a w:=by
 subst hN;obtain⟨i0,hi0,hz0,hz1,hz2⟩:=info_parts T.info;rcases hsrc with ⟨rfl,rfl,rfl⟩ | ⟨ad,c,rfl,hl,hc⟩
 ·exact wpList_append_own_none hgd s x es ho base e i0 2 T.und hi0 v n xs hs hown hx (h v w (by rw[List.append_nil];exact hown) ⟨rfl,rfl,rfl,Nat.le_refl _,fun _ _ _=>rfl⟩)
 ·exact wpList_append_own (P:=Tryz.prog) w hgd s x es ho base e i0 _ 2 32 T.und hi0 hz0 hz1 hz2 rfl (by decide) v n xs hs hown ad m c news hx hl hc h1 (by unfold maxLen;omega) (by omega) hbase fun v' w' h2 h3 _=>h v' w' h2 h3
theorem zkd(T:TyP e es)(hgd:o.guard=none)(s x:Operand)(ho:o.op=.call { callee:=.builtin .append,args:=#[s,x],argTypes:=#[es,es] })
  (base:Nat) (v:Value) (n:Nat) (xs:List Value) (hs:a.eval s=v) (hown:w.ownsRow base e 2 v n xs) (X:Value) (m:Nat) (news:List Value) (hx:a.eval x=X) (hsrc:SrcC w X m news) (h1:∀ u∈news,u.oneCell'=true)
  (hlim:n+m≤1048577) (hbase:base≤w.heap.size) (N:Nat) (hN:n+m=N)
  (h:∀ v' w',w'.ownsRow base e 2 v' N (xs++news)→w.grownBy w' v.ownBlock→K (a.put o.dst v') w') :
  if Region.wanted o (yielded ops a.tmps)=true then Oper.wp Tryz.prog o a w K Q else E:=by
 have hw:Region.wanted o (yielded ops a.tmps)=true:=by simp[Region.wanted,hgd]
 rw[if_pos hw];subst hN;obtain⟨i0,hi0,hz0,hz1,hz2⟩:=info_parts T.info;rcases hsrc with ⟨rfl,rfl,rfl⟩ | ⟨ad,c,rfl,hl,hc⟩
 ·have hrun:=run_append_owned_none (P:=Tryz.prog) (w:=w) base es o.type e i0 2 T.und hi0 v n xs hown
  have hg:w.grownBy w v.ownBlock:=⟨rfl,rfl,rfl,Nat.le_refl _,fun _ _ _=>rfl⟩
  have:=h v w (by rw[List.append_nil];exact hown) hg
  unfold Oper.wp;simp[execOp,ho,resolve,invoke,builtin,hs,hx,hrun,Result.andThen]
  exact this
 ·exact wp_append_own (P:=Tryz.prog) w s x es ho base e i0 _ 2 32 T.und hi0 hz0 hz1 hz2 rfl (by decide) v n xs hs hown ad m c news hx hl hc h1 (by unfold maxLen;omega) (by omega) hbase fun v' w' h2 h3 _=>h v' w' h2 h3
end
structure RdC(w:World)(A:Option Addr)(n:Nat)(P:Nat→NdC):Prop where
 row:RdN w A n P
 rd:∀ j,j<n→Rd w (P j).A (P j).n (P j).C
 nil:∀ j,j<n→(P j).A=none→(P j).n=0∧(P j).c=0
theorem RdC.keep{w w':World}{A:Option Addr}{n:Nat}{P:Nat→NdC}(h:RdC w A n P)(k:Keep w w'):RdC w' A n P:=⟨h.row.keep k,fun j hj=>(h.rd j hj).keep k,h.nil⟩
theorem RdC.none(w:World)(A:Option Addr)(P:Nat→NdC):RdC w A 0 P:=⟨RdN.nil _ _ _,fun _ h=>absurd h (Nat.not_lt_zero _),fun _ h=>absurd h (Nat.not_lt_zero _)⟩
end Go.Proofs.YtihjgcibpfajkaaGreatDoor.C14
namespace Go.Proofs.YtihjgcibpfajkaaGreatDoor.T14
open Go.RowKit Go.Sort Go.Lib V12 T13
def zbu(c n:Int):Value:=if c=0 then .nilIface else flt c n
abbrev zba:=World→Nat→Nat→List NV→List zaa→(Nat→Prop)→World→Prop
def nv(x:C14.NdC):NV:=⟨x.k,x.C⟩
def zky(w:World)(d:Nat)(A:Option Addr)(M:List NV):Prop:=∃ Q:Nat→C14.NdC,C14.RdC w A M.length Q∧(C14.lst Q M.length).map nv=M∧∀ j,j<M.length→(Q j).n=d
structure Con(CS:zba):Prop where
 kp:∀ {w d q M L X w1},CS w d q M L X w1→Keep w w1
 keep:∀ {w d q M L X w1 w2},CS w d q M L X w1→Keep w1 w2→CS w d q M L X w2
 more:∀ {w d q M L X w1 w2} {Z:Nat→Prop},CS w d q M L X w1→Keep w1 w2→(∀ i,Z i→w1.heap.size≤i∧i<w2.heap.size)→CS w d q M L (fun i=>X i∨Z i) w2
 less:∀ {w d q M L X w1} {Z:Nat→Prop},CS w d q M L X w1→(∀ i,Z i→X i)→CS w d q M L Z w1
 write:∀ {w d q M L X w1 w2},CS w d q M L X w1→Keep w w2→w1.heap.size≤w2.heap.size→(∀ k,k<w1.heap.size→¬X k→w2.heap[k]?=w1.heap[k]?)→CS w d q M L X w2
 lt:∀ {w d q M L X w1},CS w d q M L X w1→∀ i,X i→i<w1.heap.size
 ok:∀ {w d q M L X w1},CS w d q M L X w1→Ok d M L
 addNode:∀ {w d q M L X w1} (k:Int) (A:Option Addr) (n c:Nat) (Z:Nat→Int),CS w d q M L X w1→zaw w1→Rd w1 A n Z→(A=none→n=0∧c=0)→I64 k→n≤1000→M.length≤100 →
  Calls Tryz.prog 20 #[.pointer (some ⟨q,0,none⟩),.agg #[.int .i64 k,.slice A n c]] w1 fun e w'=>e=.returned (zbu (adC M d k n Z) (wrI d n Z))∧CS w d q (adL M d k n Z) L X w'∧zas X w1 w'
 submit:∀ {w d q M L X w1} (x:zaa),CS w d q M L X w1→zaw w1→zaf w1 x→x.m≤1000→L.length≤100 →
  Calls Tryz.prog 17 #[.pointer (some ⟨q,0,none⟩),x.val] w1 fun e w'=>∃ r,e=.returned (.tuple #[r.val,zbu (sbC L d x) (wrI d x.m x.Z)])∧(sbC L d x=0→nm r=zcl x L.length)∧(sbC L d x≠0→nm r=zad)∧zaf w' r∧Req w' w1.heap.size r∧CS w d q M (sbL L d x) X w'∧zas X w1 w'
 bind:∀ {w d q M L X w1} (id nd:Int),CS w d q M L X w1→zaw w1→I64 id→I64 nd→M.length≤100→L.length≤100 →
  Calls Tryz.prog 19 #[.pointer (some ⟨q,0,none⟩),.int .i64 id,.int .i64 nd] w1 fun e w'=>∃ r,e=.returned (.tuple #[r.val,zbu (plC M L d id nd 1) (plI M L id nd)])∧(plC M L d id nd 1=0→nm r=zao (zai L id) 1 nd (-1))∧(plC M L d id nd 1≠0→nm r=zad)∧zaf w' r∧Req w' w1.heap.size r∧CS w d q M (plL M L d id nd 1) X w'∧zas X w1 w'
 claim:∀ {w d q M L X w1} (id nd:Int),CS w d q M L X w1→zaw w1→I64 id→I64 nd→M.length≤100→L.length≤100 →
  Calls Tryz.prog 50 #[.pointer (some ⟨q,0,none⟩),.int .i64 id,.int .i64 nd] w1 fun e w'=>∃ r,e=.returned (.tuple #[r.val,zbu (plC M L d id nd 2) (plI M L id nd)])∧(plC M L d id nd 2=0→nm r=zao (zai L id) 2 nd (-1))∧(plC M L d id nd 2≠0→nm r=zad)∧zaf w' r∧Req w' w1.heap.size r∧CS w d q M (plL M L d id nd 2) X w'∧zas X w1 w'
 change:∀ {w d q M L X w1} (id ev dl:Int),CS w d q M L X w1→zaw w1→I64 id→I64 ev→I64 dl→M.length≤100→L.length≤100 →
  Calls Tryz.prog 51 #[.pointer (some ⟨q,0,none⟩),.int .i64 id,.int .i64 ev,.int .i64 dl] w1 fun e w'=>∃ r,e=.returned (.tuple #[r.val,zbu (cgC L id ev) 0])∧(cgC L id ev=0→nm r=zao (zai L id) ev (-1) dl)∧(cgC L id ev≠0→nm r=zad)∧zaf w' r∧Req w' w1.heap.size r∧CS w d q M (cgL L id ev dl) X w'∧zas X w1 w'
 nodes:∀ {w d q M L X w1},CS w d q M L X w1→M.length≤100 →
  Calls Tryz.prog 13 #[.pointer (some ⟨q,0,none⟩)] w1 fun e w'=>∃ A c,e=.returned (.slice A M.length c)∧zky w' d A M∧Keep w1 w'
 node:∀ {w d q M L X w1} (id:Int),CS w d q M L X w1→I64 id→M.length≤100 →
  Calls Tryz.prog 108 #[.pointer (some ⟨q,0,none⟩),.int .i64 id] w1 fun e w'=>∃ k A n c,e=.returned (.tuple #[.agg #[.int .i64 k,.slice A n c],.bool (decide (id∈nk M))])∧(id∈nk M→k=id∧n=d∧Rd w' A d (nget M id).C∧∀ b o,0<n→A=some ⟨b,o,none⟩→w1.heap.size≤b)∧(A=none→n=0∧c=0)∧Keep w1 w'
 pod:∀ {w d q M L X w1} (id:Int),CS w d q M L X w1→I64 id→L.length≤100 →
  Calls Tryz.prog 16 #[.pointer (some ⟨q,0,none⟩),.int .i64 id] w1 fun e w'=>∃ r,e=.returned (.tuple #[r.val,.bool (decide (id∈keys L))])∧nm r=zai L id∧zaf w' r∧Req w' w1.heap.size r∧Keep w1 w'
 on:∀ {w d q M L X w1} (nd:Int),CS w d q M L X w1→I64 nd→L.length≤100 →
  Calls Tryz.prog 140 #[.pointer (some ⟨q,0,none⟩),.int .i64 nd] w1 fun e w'=>∃ v S,e=.returned v∧zam w' w1.heap.size v (L.filter (onB nd)).length S∧(lst S (L.filter (onB nd)).length).map nm=L.filter (onB nd)∧Keep w1 w'
 dims:∀ {w d q M L X w1},CS w d q M L X w1→Calls Tryz.prog 39 #[.pointer (some ⟨q,0,none⟩)] w1 fun e w'=>e=.returned (.int .i64 d)∧Keep w1 w'
end Go.Proofs.YtihjgcibpfajkaaGreatDoor.T14
namespace Go.Proofs.YtihjgcibpfajkaaGreatDoor.T15
open Go.RowKit Go.Sort Go.Lib V12 T13 T14
def zcy(p:zaa)(nd:Int)(q:zaa):Bool:=decide (q.k≠p.k∧q.h=2∧q.d=nd∧p.p≤q.p)
def zbv(p:zaa)(nd:Int)(L:List zaa):List zaa:=L.filter (zcy p nd)
structure Two(w W:World)(p q:zaa):Prop where
 k:Keep w W
 b0:W.heap[w.heap.size]?=some (.cells (zab p) 26 (0,0))
 b1:W.heap[w.heap.size+1]?=some (.cells (zab q) 26 (0,0))
theorem two(w:World)(p q:zaa):Two w ((w.alloc (.cells (zab p) 26)).alloc (.cells (zab q) 26)) p q:=by
 have h1:=heap_alloc_new (w.alloc (.cells (zab p) 26)) (.cells (zab q) 26);rw[World.size_alloc] at h1;exact⟨(Keep.one _ _).alloc _,(Keep.one _ _).block (heap_alloc_new _ _),h1⟩
def zdb:List zaa→Nat→Int
 | [],_=>0
 | y :: L,j=>y.Z j+zdb L j
theorem zij(L K:List zaa)(j:Nat):zdb (L++K) j=zdb L j+zdb K j:=by
 induction L with
 | nil=>show zdb K j=0+zdb K j;omega
 | cons y L ih=>show y.Z j+zdb (L++K) j=y.Z j+zdb L j+_;rw[ih];omega
theorem zfw{L:List zaa}{j:Nat}(h:∀ y∈L,Amt (y.Z j)):0≤zdb L j∧zdb L j≤L.length * 1099511627776:=by
 induction L with
 | nil=>exact⟨Int.le_refl _,Int.le_refl _⟩
 | cons y L ih =>
   have h1:=h y (by simp)
   have h2:=ih fun z hz=>h z (by simp[hz])
   unfold Amt at h1;show 0≤y.Z j+zdb L j∧y.Z j+zdb L j≤_
   rw[List.length_cons,Int.natCast_add];omega
theorem zmg{L K:List zaa}(h:L.map nm=K)(j:Nat):zdb K j=zdb L j:=by
 subst h
 induction L with
 | nil=>rfl
 | cons y L ih=>show y.Z j+zdb (L.map nm) j=y.Z j+zdb L j;rw[ih]
theorem zkr(S:Nat→zaa)(j:Nat):∀ n,sumTo (n+1) (fun r=>if r=0 then 0 else(S (r - 1)).Z j)=zdb (T13.lst S n) j
 | 0=>rfl
 | n+1=>by
   rw[lst_succ,zij,← zkr S j n];show sumTo (n+1) _+(if n+1=0 then 0 else(S (n+1 - 1)).Z j)=_
   rw[if_neg (by omega),Nat.add_sub_cancel]
   show _=_+((S n).Z j+0)
   omega
end Go.Proofs.YtihjgcibpfajkaaGreatDoor.T15
