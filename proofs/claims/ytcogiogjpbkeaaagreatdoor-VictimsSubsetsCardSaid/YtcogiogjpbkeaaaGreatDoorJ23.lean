/-
  A map from numbers to whatever values: look-up, insert, delete; 'for k, v := range m'. No condition, no program.
  'range', its step and 'delete' at a walk, over a map as a list of pairs. No condition, no program.
  A map of numbers to values: a value put in place of another; a table's blocks. No condition.
  The methods of a table of pointers but IDs. No condition.
-/
import Derived.Test.YtcogiogjpbkeaaaGreatDoorJ0
import Derived.Maps.Own
import Derived.Maps.RangeWalk
import Derived.Carry
import Derived.Maps.OwnSet
import Derived.Test.YtcogiogjpbkeaaaGreatDoorJ21
namespace Go.Proofs.YtcogiogjpbkeaaaGreatDoor
open Go.RowKit Go.Extern.Stop Go.Stop Go.Extern
open Go.ChangeMaps (setBlock)
namespace MV
def iv(k:Int):Value:=.int .i64 k
def Ent(es:List MapEntry)(l:List (Int × Value)):Prop:=es.map (fun x=>(x.key,x.val))=l.map (fun x=>(iv x.1,x.2))
def lookV:List (Int × Value)->Int->Option Value
 | [],_=>none
 | x :: r,k=>if k=x.1 then some x.2 else lookV r k
theorem zkj(k:Int):∀ (l:List (Int × Value)) (es:List MapEntry) (i:Nat),Ent es l ->
  ∃ r,Instr.findNow (.int .i64) (iv k) es i=some r/\r.map (·.2)=lookV l k/\∀ z,r=some z->∃ j,z.1=i+j/\∃ x,l[j]?=some x/\x.1=k
 | [],es,i,h=>by
   have:es=[]:=by simpa [Ent] using h
   subst this;exact⟨none,rfl,rfl,fun _ h=>by cases h⟩
 | x :: r,[],i,h=>by simp[Ent] at h
 | x :: r,y :: es,i,h=>by
   simp only[Ent,List.map_cons,List.cons.injEq,Prod.mk.injEq] at h;obtain⟨⟨hk,hv⟩,ht⟩:=h;have e1:Instr.sameNow (.int .i64) (iv k) y.key=some (k == x.1):=by rw[hk];simp[iv,Instr.sameNow]
   by_cases hc:k=x.1
   ·refine⟨some (i,y.val),?_,?_,?_⟩
    ·unfold Instr.findNow;rw[e1,beq_iff_eq.2 hc]
    ·unfold lookV;rw[if_pos hc];simp[hv]
    ·intro z hz;cases hz;exact⟨0,rfl,x,rfl,hc.symm⟩
   ·obtain⟨z,h1,h2,h3⟩:=zkj k r es (i+1) ht
    refine⟨z,?_,?_,?_⟩
    ·unfold Instr.findNow;rw[e1,beq_eq_false_iff_ne.2 hc];exact h1
    ·unfold lookV;rw[if_neg hc];exact h2
    ·intro u hu
     obtain⟨j,e,x',hx,hk'⟩:=h3 u hu;exact⟨j+1,by omega,x',by simpa using hx,hk'⟩
theorem look_none{l:List (Int × Value)}{k:Int}:lookV l k=none↔k∉l.map (·.1):=by
 induction l with
 | nil=>simp[lookV]
 | cons x r ih =>
   simp only[lookV,List.map_cons,List.mem_cons,not_or]
   by_cases h:k=x.1
   ·rw[if_pos h];simp[h]
   ·rw[if_neg h,ih];simp[h]
theorem look_mem{l:List (Int × Value)}(hn:(l.map (·.1)).Nodup){k:Int}{v:Value}:lookV l k=some v↔(k,v)∈l:=by
 induction l with
 | nil=>simp[lookV]
 | cons x r ih =>
   rw[List.map_cons,List.nodup_cons] at hn;simp only[lookV,List.mem_cons]
   by_cases h:k=x.1
   ·rw[if_pos h]
    constructor
    ·intro e
     injection e with e
     exact Or.inl (by rw[h,<- e])
    ·rintro(e | e)
     ·rw[<- e]
     ·exact absurd (by rw[<- h];exact List.mem_map_of_mem (f:=(·.1)) e) hn.1
   ·rw[if_neg h,ih hn.2]
    constructor
    ·exact Or.inr
    ·rintro(e | e)
     ·exact absurd (congrArg Prod.fst e) h
     ·exact e
def Obj'(o:Obj)(l:List (Int × Value)):Prop:=∃ es clock,o=.map es clock/\Ent es.toList l/\(l.map (·.1)).Nodup/\(es.toList.map (·.born)).Nodup/\∀ x∈es.toList,x.born<clock
def Is(w:World)(B:Nat)(l:List (Int × Value)):Prop:=∃ o,w.heap[B]?=some o/\Obj' o l
theorem Is.of{w w':World}{B:Nat}{l:List (Int × Value)}(h:Is w B l)(e:w'.heap[B]?=w.heap[B]?):Is w' B l:=by
 obtain⟨o,h1,h2⟩:=h;exact⟨o,e.trans h1,h2⟩
theorem Is.lt{w:World}{B:Nat}{l:List (Int × Value)}(h:Is w B l):B<w.heap.size:=by
 obtain⟨o,h1,_⟩:=h;exact(Array.getElem?_eq_some_iff.1 h1).1
theorem Is.nodup{w:World}{B:Nat}{l:List (Int × Value)}(h:Is w B l):(l.map (·.1)).Nodup:=by
 obtain⟨o,_,es,c,_,_,h2,_⟩:=h;exact h2
theorem is_new(w:World):Is (w.alloc (.map #[] 0)) w.heap.size []:=⟨_,(MapKept.heap_alloc w _).1,#[],0,rfl,rfl,List.nodup_nil,List.nodup_nil,fun x h=>by cases h⟩
section
variable{P:Program}{tM tK tE:TypeId}(ht:P.underlying tM=some (.map tK tE))(hk:P.underlying tK=some (.int .i64))
include ht hk
theorem look2{z:Value}(hz:∀ w,(zeroValue tE).run P w=.ok z w){w:World}{B:Nat}{l:List (Int × Value)}(h:Is w B l)(k:Int):
  (Instr.lookup tM (.map (some B)) (.int .i64 k) true).run P w=.ok (.tuple #[(lookV l k).getD z,.bool (lookV l k).isSome]) w:=by
 obtain⟨o,hb,es,c,rfl,h3,h4,_⟩:=h;obtain⟨r,h6,h7,_⟩:=zkj k l es.toList 0 h3;have hc:(Instr.checkKey es.isEmpty 10000 tK (.int .i64 k)).run P w=.ok () w:=MapKept.run_checkKey (P:=P) (w:=w) hk (k:=iv k) rfl es.isEmpty 9999;have hf:(Instr.findKey tK (.int .i64 k) es.toList).run P w=.ok r w:=MapKept.run_findKey (P:=P) (w:=w) hk h6;simp only[Instr.lookup,Sem.run_bind,run_underlying ht,Result.andThen_ok,MapKept.run_getObj_map hb,hc,hf,Sem.run_pure];cases r with
 | none =>
   have:lookV l k=none:=by simpa using h7.symm
   rw[this];simp[hz]
 | some y =>
   obtain⟨j,v⟩:=y;have:lookV l k=some v:=by simpa using h7.symm
   rw[this];simp
theorem look1{z:Value}(hz:∀ w,(zeroValue tE).run P w=.ok z w){w:World}{B:Nat}{l:List (Int × Value)}(h:Is w B l)(k:Int):
  (Instr.lookup tM (.map (some B)) (.int .i64 k) false).run P w=.ok ((lookV l k).getD z) w:=by
 obtain⟨o,hb,es,c,rfl,h3,h4,_⟩:=h;obtain⟨r,h6,h7,_⟩:=zkj k l es.toList 0 h3;have hc:(Instr.checkKey es.isEmpty 10000 tK (.int .i64 k)).run P w=.ok () w:=MapKept.run_checkKey (P:=P) (w:=w) hk (k:=iv k) rfl es.isEmpty 9999;have hf:(Instr.findKey tK (.int .i64 k) es.toList).run P w=.ok r w:=MapKept.run_findKey (P:=P) (w:=w) hk h6;simp only[Instr.lookup,Sem.run_bind,run_underlying ht,Result.andThen_ok,MapKept.run_getObj_map hb,hc,hf,Sem.run_pure];cases r with
 | none =>
   have:lookV l k=none:=by simpa using h7.symm
   rw[this];simp[hz]
 | some y =>
   obtain⟨j,v⟩:=y;have:lookV l k=some v:=by simpa using h7.symm
   rw[this];simp
theorem put_new{w:World}{B:Nat}{l:List (Int × Value)}(h:Is w B l)(k:Int)(v:Value)(hn:k∉l.map (·.1)):
  ∃ o,Obj' o (l++[(k,v)])/\∀ W:World,W.heap[B]?=w.heap[B]?->(Instr.mapUpdate tM (.map (some B)) (.int .i64 k) v).run P W=.ok () (setBlock W B o):=by
 obtain⟨o,hb,es,c,rfl,h3,h4,h5,h6⟩:=h;obtain⟨r,h7,h8,_⟩:=zkj k l es.toList 0 h3;have:r=none:=by
  rw[look_none.2 hn] at h8;cases r with
  | none=>rfl
  | some y=>simp at h8
 subst this;refine⟨.map (es.push { key:=iv k,val:=v,born:=c }) (c+1),⟨_,_,rfl,?_,?_,?_,?_⟩,fun W hW=>?_⟩
 ·unfold Ent at h3 ⊢;simp[h3]
 ·rw[List.map_append,List.nodup_append]
  refine⟨h4,by simp,fun a ha b hb=>?_⟩
  simp only[List.map_cons,List.map_nil,List.mem_singleton] at hb;intro e;exact hn (by rw[<- hb,<- e];exact ha)
 ·rw[Array.toList_push,List.map_append,List.nodup_append]
  refine⟨h5,by simp,fun a ha b hb=>?_⟩
  simp only[List.map_cons,List.map_nil,List.mem_singleton] at hb;obtain⟨x,hx,rfl⟩:=List.mem_map.1 ha;have:=h6 x hx;omega
 ·intro x hx
  rw[Array.toList_push,List.mem_append,List.mem_singleton] at hx;rcases hx with hx | rfl
  ·have:=h6 x hx;omega
  ·show c<c+1;omega
 ·have hc:(Instr.checkKey false 10000 tK (.int .i64 k)).run P W=.ok () W:=MapKept.run_checkKey (P:=P) (w:=W) hk (k:=iv k) rfl false 9999
  have hf:(Instr.findKey tK (.int .i64 k) es.toList).run P W=.ok none W:=MapKept.run_findKey (P:=P) (w:=W) hk h7;have hB:=hW.trans hb;simp[Instr.mapUpdate,run_underlying ht,MapKept.run_getObj_map hB,hc,hf,MapKept.run_setObj_map _ hB,Result.andThen,setBlock,iv]
theorem del{w:World}{B:Nat}{l:List (Int × Value)}(h:Is w B l)(k:Int):
  ∃ o,Obj' o (l.filter fun x=>decide (x.1≠k))/\∀ (W:World) (ty:TypeId),W.heap[B]?=w.heap[B]?->(Builtin.delete_ #[tM,tK] ty #[.map (some B),.int .i64 k]).run P W=.ok (.tuple #[]) (setBlock W B o):=by
 obtain⟨o,hb,es,c,rfl,h3,h4,h5,h6⟩:=h;obtain⟨r,h7,h8,h9⟩:=zkj k l es.toList 0 h3;cases r with
 | none =>
   have hn:k∉l.map (·.1):=look_none.1 (by simpa using h8.symm)
   have e:(l.filter fun x=>decide (x.1≠k))=l:=List.filter_eq_self.2 fun x hx=>decide_eq_true fun e=>hn (by rw[<- e];exact List.mem_map_of_mem hx)
   rw[e];refine⟨.map es c,⟨_,_,rfl,h3,h4,h5,h6⟩,fun W ty hW=>?_⟩
   have hf:(Instr.findKey tK (.int .i64 k) es.toList).run P W=.ok none W:=MapKept.run_findKey (P:=P) (w:=W) hk h7;have hB:=hW.trans hb;simp[Builtin.delete_,run_underlying ht,MapKept.run_getObj_map hB,MapKept.run_checkKey hk (k:=.int .i64 k) (show MapKept.IsKey (.int .i64) (.int .i64 k) from rfl),hf,MapKept.run_setObj_map _ hB,Result.andThen,setBlock]
 | some y =>
   obtain⟨j,hj,x,hx,hxk⟩:=h9 y rfl;obtain⟨j',yv⟩:=y;have hj:j'=j:=by simpa using hj
   subst hj;have hlen:l.length=es.size:=by
    have:=congrArg List.length h3
    simpa using this.symm
   have hjs:j'<es.size:=by rw[<- hlen];exact(List.getElem?_eq_some_iff.1 hx).1
   have hsub:(es.eraseIdxIfInBounds j').toList=es.toList.eraseIdx j':=by
    unfold Array.eraseIdxIfInBounds;rw[dif_pos hjs];simp
   have e:(l.filter fun x=>decide (x.1≠k))=l.eraseIdx j':=by
    have gen:∀ (l:List (Int × Value)) (j:Nat),(l.map (·.1)).Nodup->l[j]?=some x->(l.filter fun y=>decide (y.1≠k))=l.eraseIdx j:=by
     intro l
     induction l with
     | nil=>intro j _ h;simp at h
     | cons y r ih =>
       intro j hn h;rw[List.map_cons,List.nodup_cons] at hn;cases j with
       | zero =>
         simp only[List.getElem?_cons_zero,Option.some.injEq] at h;subst h;rw[List.filter_cons_of_neg (by simp[hxk]),List.eraseIdx_cons_zero]
         exact List.filter_eq_self.2 fun z hz=>decide_eq_true fun e=>hn.1 (by rw[hxk,<- e];exact List.mem_map_of_mem hz)
       | succ j =>
         simp only[List.getElem?_cons_succ] at h;have hy:y.1≠k:=fun e=>hn.1 (by rw[e,<- hxk];exact List.mem_map_of_mem (List.mem_of_getElem? h))
         rw[List.filter_cons_of_pos (by simp[hy]),List.eraseIdx_cons_succ,ih j hn.2 h]
    exact gen l j' h4 hx
   rw[e];refine⟨.map (es.eraseIdxIfInBounds j') c,⟨_,_,rfl,?_,?_,?_,?_⟩,fun W ty hW=>?_⟩
   ·unfold Ent at h3 ⊢
    rw[hsub,ChangeMaps.map_eraseIdx,h3,ChangeMaps.map_eraseIdx]
   ·rw[ChangeMaps.map_eraseIdx]
    exact(List.eraseIdx_sublist _ _).nodup h4
   ·rw[hsub,ChangeMaps.map_eraseIdx]
    exact(List.eraseIdx_sublist _ _).nodup h5
   ·intro z hz
    rw[hsub] at hz;exact h6 z ((List.eraseIdx_sublist _ _).subset hz)
   ·have hf:(Instr.findKey tK (.int .i64 k) es.toList).run P W=.ok (some (j',yv)) W:=MapKept.run_findKey (P:=P) (w:=W) hk h7
    have hB:=hW.trans hb;simp[Builtin.delete_,run_underlying ht,MapKept.run_getObj_map hB,MapKept.run_checkKey hk (k:=.int .i64 k) (show MapKept.IsKey (.int .i64) (.int .i64 k) from rfl),hf,MapKept.run_setObj_map _ hB,Result.andThen,setBlock]
end
def Rng(w:World)(b r:Nat)(todo:List (Int × Value)):Prop:=∃ es clock since seen c0,w.heap[b]?=some (.map es clock)/\w.heap[r]?=some (.mapIter (some b) since seen c0)/\(∀ x∈es.toList,x.born<since)/\since<=c0/\(es.toList.map (·.born)).Nodup/\(∀ x∈es.toList,∃ k,x.key=iv k)/\((leftOf es seen).toList.map fun x=>(x.key,x.val)).Perm (todo.map fun x=>(iv x.1,x.2))/\since<=clock
theorem Rng.of{w w':World}{b r:Nat}{todo:List (Int × Value)}(h:Rng w b r todo)(e1:w'.heap[b]?=w.heap[b]?)(e2:w'.heap[r]?=w.heap[r]?):Rng w' b r todo:=by
 obtain⟨es,clock,since,seen,c0,h1,h2,h3⟩:=h;exact⟨es,clock,since,seen,c0,e1.trans h1,e2.trans h2,h3⟩
end MV
end Go.Proofs.YtcogiogjpbkeaaaGreatDoor
namespace Go.Proofs.YtcogiogjpbkeaaaGreatDoor
open Go.RowKit Go.Extern.Stop Go.Stop Go.Extern
open Go.ChangeMaps (setBlock)
namespace MV
theorem Rng.lt{w:World}{b r:Nat}{t:List (Int × Value)}(h:Rng w b r t):b<w.heap.size/\r<w.heap.size:=by
 obtain⟨es,clock,since,seen,c0,h1,h2,_⟩:=h;exact⟨(Array.getElem?_eq_some_iff.1 h1).1,(Array.getElem?_eq_some_iff.1 h2).1⟩
theorem Rng.keep{w w':World}{b r:Nat}{t:List (Int × Value)}(h:Rng w b r t)(k:Keep w w'):Rng w' b r t :=
 h.of (Below.block k _ h.lt.1) (Below.block k _ h.lt.2)
section
variable{P:Program}{w:World}{ops:Array Oper}{rest:List Oper}{o:Oper}{a:Act}{Q:Exit->Act->World->Prop}
theorem wpl_delete(hg:o.guard=none)(m x:Operand)(t k:TypeId)(hop:o.op=Op.call { callee:=Callee.builtin Builtin.delete,args:=#[m,x],argTypes:=#[t,k] }){B:Nat}{id:Int}(hm:a.eval m=.map (some B))(hx:a.eval x=.int .i64 id)
  {w':World} (hrun:∀ ty,(Builtin.delete_ #[t,k] ty #[.map (some B),.int .i64 id]).run P w=.ok (.tuple #[]) w') (hK:wpList P ops Q rest (a.put o.dst (.tuple #[])) w'):wpList P ops Q (o :: rest) a w:=by
 refine wpList_plain hg fun K' hK'=>?_
 unfold Oper.wp;simp[execOp,hop,resolve,invoke,builtin,hm,hx,hrun,Result.andThen]
 exact hK' _ _ hK
end
end MV
end Go.Proofs.YtcogiogjpbkeaaaGreatDoor
namespace Go.Proofs.YtcogiogjpbkeaaaGreatDoor
open Go.RowKit Go.Extern.Stop Go.Stop Go.Extern
open Go.ChangeMaps (setBlock)
namespace MV
def repV(l:List (Int × Value))(k:Int)(v:Value):List (Int × Value):=l.map fun x=>if x.1=k then(k,v) else x
theorem repV_keys(l:List (Int × Value))(k:Int)(v:Value):(repV l k v).map (·.1)=l.map (·.1):=by
 unfold repV;rw[List.map_map];refine List.map_congr_left fun x _=>?_
 show(if x.1=k then(k,v) else x).1=x.1
 split
 ·exact Eq.symm (by assumption)
 ·rfl
theorem zlm(k:Int)(v:Value):∀ (l:List (Int × Value)) (j:Nat) (x:Int × Value),(l.map (·.1)).Nodup->l[j]?=some x->x.1=k->repV l k v=l.modify j fun _=>(k,v)
 | [],j,x,_,h,_=>by simp at h
 | y :: r,0,x,hn,h,hk=>by
   simp only[List.getElem?_cons_zero,Option.some.injEq] at h;subst h;rw[List.map_cons,List.nodup_cons] at hn;show(if y.1=k then(k,v) else y) :: repV r k v=(k,v) :: r
   rw[if_pos hk]
   congr 1
   unfold repV
   conv=>rhs;rw[<- List.map_id r]
   refine List.map_congr_left fun z hz=>?_
   rw[if_neg (fun e=>hn.1 (by rw[hk,<- e];exact List.mem_map_of_mem (f:=(·.1)) hz))]
   rfl
 | y :: r,j+1,x,hn,h,hk=>by
   simp only[List.getElem?_cons_succ] at h;rw[List.map_cons,List.nodup_cons] at hn;show(if y.1=k then(k,v) else y) :: repV r k v=y :: r.modify j fun _=>(k,v)
   rw[zlm k v r j x hn.2 h hk,if_neg];intro e;exact hn.1 (by rw[e,<- hk];exact List.mem_map_of_mem (f:=(·.1)) (List.mem_of_getElem? h))
theorem zfk{α β:Type}(f:α->β)(g:α->α)(h:β->β)(e:∀ x,f (g x)=h (f x)):∀ (l:List α) (j:Nat),(l.modify j g).map f=(l.map f).modify j h
 | [],j=>by cases j<;>rfl
 | x :: r,0=>by show f (g x) :: r.map f=h (f x) :: r.map f;rw[e]
 | x :: r,j+1=>by
   show f x :: (r.modify j g).map f=f x :: (r.map f).modify j h
   rw[zfk f g h e r j]
section
variable{P:Program}{tM tK tE:TypeId}(ht:P.underlying tM=some (.map tK tE))(hk:P.underlying tK=some (.int .i64))
include ht hk
theorem put_old{w:World}{B:Nat}{l:List (Int × Value)}(h:Is w B l)(k:Int)(v:Value)(hm:k∈l.map (·.1)):
  ∃ o,Obj' o (repV l k v)/\∀ W:World,W.heap[B]?=w.heap[B]?->(Instr.mapUpdate tM (.map (some B)) (.int .i64 k) v).run P W=.ok () (setBlock W B o):=by
 obtain⟨o,hb,es,c,rfl,h3,h4,h5,h6⟩:=h;obtain⟨r,h7,h8,h9⟩:=zkj k l es.toList 0 h3;cases r with
 | none=>exact absurd (look_none.1 (by simpa using h8.symm)) (fun e=>e hm)
 | some y =>
   obtain⟨j,hj,x,hx,hxk⟩:=h9 y rfl;obtain⟨j',yv⟩:=y;have hj:j'=j:=by simpa using hj
   subst hj;refine⟨.map (es.modify j' fun e=>{ e with key:=iv k,val:=v }) c,⟨_,_,rfl,?_,?_,?_,?_⟩,fun W hW=>?_⟩
   ·unfold Ent at h3 ⊢
    rw[Array.toList_modify,zfk (fun x:MapEntry=>(x.key,x.val)) (fun e=>{ e with key:=iv k,val:=v }) (fun _=>(iv k,v)) (fun _=>rfl),h3,zlm k v l j' x h4 hx hxk,zfk (fun x:Int × Value=>(iv x.1,x.2)) (fun _=>(k,v)) (fun _=>(iv k,v)) (fun _=>rfl)]
   ·rw[repV_keys];exact h4
   ·rw[Array.toList_modify,zfk (fun x:MapEntry=>x.born) (fun e=>{ e with key:=iv k,val:=v }) id (fun _=>rfl),List.modify_id];exact h5
   ·intro e he
    rw[Array.toList_modify] at he;have hb:e.born∈(es.toList.modify j' fun e=>{ e with key:=iv k,val:=v }).map (·.born):=List.mem_map_of_mem (f:=(·.born)) he
    rw[zfk (fun x:MapEntry=>x.born) (fun e=>{ e with key:=iv k,val:=v }) id (fun _=>rfl),List.modify_id] at hb
    obtain⟨z,hz,hzb⟩:=List.mem_map.1 hb;rw[<- hzb];exact h6 z hz
   ·have hc:(Instr.checkKey false 10000 tK (.int .i64 k)).run P W=.ok () W:=MapKept.run_checkKey (P:=P) (w:=W) hk (k:=iv k) rfl false 9999
    have hf:(Instr.findKey tK (.int .i64 k) es.toList).run P W=.ok (some (j',yv)) W:=MapKept.run_findKey (P:=P) (w:=W) hk h7;have hB:=hW.trans hb;have hold:((es[j']?).map (·.key)).getD (.int .i64 k)=.int .i64 k:=by
     have h9:(es.toList.map (fun x=>(x.key,x.val)))[j']?=(l.map (fun x=>(iv x.1,x.2)))[j']?:=by rw[h3]
     rw[List.getElem?_map,List.getElem?_map,hx] at h9;simp only[Array.getElem?_toList,Option.map_some] at h9;cases he:es[j']? with
     | none=>rfl
     | some y =>
       rw[he] at h9;simp only[Option.map_some,Option.some.injEq,Prod.mk.injEq] at h9;simp[h9.1,hxk,iv]
    have hkeep:(Instr.keyThatStays (.int .i64 k) (.int .i64 k)).run P W=.ok (.int .i64 k) W:=by
     simp[Instr.keyThatStays,Instr.sameBits]
    simp[Instr.mapUpdate,run_underlying ht,MapKept.run_getObj_map hB,hc,hf,hold,hkeep,MapKept.run_setObj_map _ hB,Result.andThen,setBlock,iv]
end
theorem Is.length_le{w:World}{B:Nat}{l:List (Int × Value)}(h:Is w B l):∃ es c,w.heap[B]?=some (.map es c)/\es.size=l.length:=by
 obtain⟨o,hb,es,c,rfl,h3,_⟩:=h;refine⟨es,c,hb,?_⟩;have:=congrArg List.length h3
 simpa using this
theorem heap_setBlock{w:World}{B:Nat}{o:Obj}(h:B<w.heap.size):(setBlock w B o).heap[B]?=some o:=by
 simp[setBlock,h]
theorem heap_setBlock_ne{w:World}{B k:Nat}{o:Obj}(h:k≠B):(setBlock w B o).heap[k]?=w.heap[k]?:=by
 simp[setBlock,Ne.symm h]
end MV
namespace T12
theorem Fr.put{D:Nat->Prop}{a b:World}(h:Fr D a b){B:Nat}(hp:D B\/a.heap.size<=B)(o:Obj):Fr D a (setBlock b B o):=
 ⟨h.os,h.tape,h.output,by simp[setBlock];exact h.size,fun k hk hn=>by
  rw[MV.heap_setBlock_ne (fun e=>hp.elim (fun h=>hn (by rw[e];exact h)) (fun h=>absurd h (by omega)))];exact h.block k hk hn⟩
structure TM(ty:TypeId)(w:World)(s:Int)(p m:Nat)(l:List (Int × Value)):Prop where
 hp:w.heap[p]?=some (.cells #[.int .i64 s,.map (some m)] ty (0,0))
 mp:MV.Is w m l
 lo:0<=s
 hi:s<=9223372036854775807
 len:(l.length:Int)<=s
section
variable{ty:TypeId}{w w':World}{s:Int}{p m:Nat}{l:List (Int × Value)}
theorem TM.plt(h:TM ty w s p m l):p<w.heap.size:=(Array.getElem?_eq_some_iff.1 h.hp).1
theorem TM.mlt(h:TM ty w s p m l):m<w.heap.size:=h.mp.lt
theorem TM.ne(h:TM ty w s p m l):p≠m:=by
 rintro rfl;obtain⟨o,hb,es,c,rfl,_⟩:=h.mp;rw[h.hp] at hb;cases hb
theorem TM.e0(h:TM ty w s p m l):w.cell? ⟨p,0,none⟩=some (.int .i64 s):=by rw[cell_of_row w _ _ _ _ _ h.hp];rfl
theorem TM.e1(h:TM ty w s p m l):w.cell? ⟨p,0+1,none⟩=some (.map (some m)):=by rw[cell_of_row w _ _ _ _ _ h.hp];rfl
theorem TM.keep(h:TM ty w s p m l)(k:Keep w w'):TM ty w' s p m l:=⟨k.block h.hp,h.mp.of (Below.block k _ h.mlt),h.lo,h.hi,h.len⟩
theorem TM.fr(h:TM ty w s p m l){E:Nat->Prop}(f:Fr E w w')(h1:¬E p)(h2:¬E m):TM ty w' s p m l :=
 ⟨(f.block _ h.plt h1).trans h.hp,h.mp.of (f.block _ h.mlt h2),h.lo,h.hi,h.len⟩
theorem TM.put(h:TM ty w s p m l)(k:Keep w w'){o:Obj}{l':List (Int × Value)}(ho:MV.Obj' o l')(hl:(l'.length:Int)<=s):TM ty (setBlock w' m o) s p m l'/\Fr (·=m) w (setBlock w' m o):=by
 have h':=h.keep k;exact⟨⟨by rw[MV.heap_setBlock_ne h.ne];exact h'.hp,⟨o,MV.heap_setBlock h'.mlt,ho⟩,h.lo,h.hi,hl⟩,Fr.put (D:=(·=m)) (Fr.of k) (by left;rfl) _⟩
end
end T12
end Go.Proofs.YtcogiogjpbkeaaaGreatDoor
namespace Go.Proofs.YtcogiogjpbkeaaaGreatDoor.T12
open Go.RowKit Go.Lib Go.Extern
open Go.ChangeMaps (setBlock)
abbrev TMN:=TM 180
theorem Tryz.ztn(w:World):(zeroValue 133).run Tryz.prog w=.ok (.pointer none) w:=by kernel_rfl
def err(c:Int):Value:=.iface 103 (.int .i64 c)
set_option maxHeartbeats 1000000 in
theorem aek(s:Int)(hs:I64 s)(w:World):Calls Tryz.prog 88 #[.int .i64 s] w fun e w'=>∃ p,e=.returned (.pointer (some ⟨p,0,none⟩))/\∃ m,TMN w' (if 0<=s then s else 0) p m []/\Keep w w'/\w.heap.size<=p/\w.heap.size<=m:=by
 have hmm:=@run_makeMap Tryz.prog;have hs':=Zq hs;clear hs
 by_cases h0:0<=s
 ·rw[if_pos h0]
  have hb1:decide (0<=s)=true:=decide_eq_true h0;have hb2:decide (s<0)=false:=decide_eq_false (by omega)
  have hb3:decide (0<s)=true\/s=0:=by by_cases h:0<s;exact .inl (decide_eq_true h);exact .inr (by omega)
  have hm:max s 0=s:=by omega
  go_enter Tryz.func88,Tryz.ntmps88
  go_wp2;try simp only[hm]
  go_ret
  refine⟨_,rfl,_,⟨?_,(MV.is_new w).of (Below.block (Keep.one (w.alloc (.map #[] 0)) _) _ (by rw[World.size_alloc];omega)),h0,hs'.out.2,by simpa using h0⟩,(Keep.one _ _).alloc _,by simp,by omega⟩
  have:=heap_alloc_new (w.alloc (.map #[] 0)) (.cells #[.int .i64 s,.map (some w.heap.size)] 180)
  rwa [World.size_alloc] at this
 ·rw[if_neg h0]
  have hb1:decide (0<=s)=false:=decide_eq_false h0;have hb2:decide (s<0)=true:=decide_eq_true (by omega)
  have hb3:decide (0<s)=false:=decide_eq_false (by omega)
  have hm:max s 0=0:=by omega
  go_enter Tryz.func88,Tryz.ntmps88
  go_wp2;try simp only[hm]
  go_ret
  refine⟨_,rfl,_,⟨?_,(MV.is_new w).of (Below.block (Keep.one (w.alloc (.map #[] 0)) _) _ (by rw[World.size_alloc];omega)),by omega,by omega,by simp⟩,(Keep.one _ _).alloc _,by simp,by omega⟩
  have:=heap_alloc_new (w.alloc (.map #[] 0)) (.cells #[.int .i64 0,.map (some w.heap.size)] 180)
  rwa [World.size_alloc] at this
section
variable{w:World}{s:Int}{p m:Nat}{l:List (Int × Value)}
theorem zse(h:TMN w s p m l)(ty:TypeId)(W:World)(hW:W.heap[m]?=w.heap[m]?):(Builtin.len_ #[178] ty #[.map (some m)]).run Tryz.prog W=.ok (.int .i64 l.length) W:=by
 obtain⟨es,c,hb,hl⟩:=(h.mp.of hW).length_le;rw[<- hl];simp[Builtin.len_,MapKept.run_getObj_map hb,go_sem]
set_option maxHeartbeats 1000000 in
theorem zpi(h:TMN w s p m l):Calls Tryz.prog 129 #[.pointer (some ⟨p,0,none⟩)] w fun e w'=>e=.returned (.int .i64 (s - l.length))/\zbb w w':=by
 have c0:=h.e0;have c1:=h.e1;have hl:=fun ty=>zse h ty w rfl
 have hl2:=fun ty=>zse h ty w.drew rfl
 have h1:=h.lo;have h2:=h.hi;have h3:=h.len;have hw:wrap64 (s - l.length)=s - l.length:=by unfold wrap64;omega
 clear h
 go_enter Tryz.func129,Tryz.ntmps129
 go_wp2
 go_region
 all_goals go_wp2
 all_goals go_ret
 all_goals (try rw[hw])
 all_goals exact⟨rfl,(zbb.refl w).drew⟩
set_option maxHeartbeats 1000000 in
theorem zvs(h:TMN w s p m l)(id:Int)(x:Nat)(hx:MV.lookV l id=some (.pointer (some ⟨x,0,none⟩))):Calls Tryz.prog 149 #[.pointer (some ⟨p,0,none⟩),.int .i64 id] w fun e w'=>e=.returned (.tuple #[.pointer (some ⟨x,0,none⟩),.bool true])/\w=w':=by
 have c1:=h.e1;have ml:=MV.look2 Tryz.underlying178 Tryz.underlying3 Tryz.ztn h.mp id;rw[hx] at ml;simp only[Option.getD_some,Option.isSome_some] at ml;clear h hx
 go_enter Tryz.func149,Tryz.ntmps149
 go_wp2;go_ret2
 exact⟨rfl,rfl⟩
set_option maxHeartbeats 1000000 in
theorem zvr(h:TMN w s p m l)(id:Int)(hx:MV.lookV l id=none):Calls Tryz.prog 149 #[.pointer (some ⟨p,0,none⟩),.int .i64 id] w fun e w'=>e=.returned (.tuple #[.pointer none,.bool false])/\w=w':=by
 have c1:=h.e1;have ml:=MV.look2 Tryz.underlying178 Tryz.underlying3 Tryz.ztn h.mp id;rw[hx] at ml;simp only[Option.getD_none,Option.isSome_none] at ml;clear h hx
 go_enter Tryz.func149,Tryz.ntmps149
 go_wp2;go_ret2
 exact⟨rfl,rfl⟩
set_option maxHeartbeats 1000000 in
theorem zzn(h:TMN w s p m l)(id:Int)(x y:Nat)(hy:MV.lookV l id=some (.pointer (some ⟨y,0,none⟩))):Calls Tryz.prog 91 #[.pointer (some ⟨p,0,none⟩),.int .i64 id,.pointer (some ⟨x,0,none⟩)] w fun e w'=>e=.returned (err 6)/\w=w':=by
 have c1:=h.e1;have ml:=MV.look2 Tryz.underlying178 Tryz.underlying3 Tryz.ztn h.mp id;rw[hy] at ml;simp only[Option.getD_some,Option.isSome_some] at ml;clear h hy
 go_enter Tryz.func91,Tryz.ntmps91
 go_wp2;go_ret
 exact⟨rfl,rfl⟩
set_option maxHeartbeats 1000000 in
theorem zvq(h:TMN w s p m l)(id:Int)(x:Nat)(hy:MV.lookV l id=none)(hf:(l.length:Int)=s):Calls Tryz.prog 91 #[.pointer (some ⟨p,0,none⟩),.int .i64 id,.pointer (some ⟨x,0,none⟩)] w fun e w'=>e=.returned (err 7)/\zbb w w':=by
 have c1:=h.e1;have ml:=MV.look2 Tryz.underlying178 Tryz.underlying3 Tryz.ztn h.mp id;rw[hy] at ml;simp only[Option.getD_none,Option.isSome_none] at ml;have hr:=Zq (zpi h);have e0:s - (l.length:Int)=0:=by omega
 rw[e0] at hr;clear h hy hf e0
 go_enter Tryz.func91,Tryz.ntmps91
 go_wp2_with (go_at_call 129;refine hr.out.mono ?_;rintro e w' ⟨rfl,hw⟩)
 go_ret
 exact⟨rfl,hw⟩
set_option maxRecDepth 100000 in
set_option maxHeartbeats 1000000 in
theorem zzo(h:TMN w s p m l)(id:Int)(x:Nat)(hy:MV.lookV l id=none)(hf:(l.length:Int)<s):Calls Tryz.prog 91 #[.pointer (some ⟨p,0,none⟩),.int .i64 id,.pointer (some ⟨x,0,none⟩)] w fun e w'=>e=.returned .nilIface/\TMN w' s p m (l++[(id,.pointer (some ⟨x,0,none⟩))])/\Fr (·=m) w w':=by
 have c1:=h.e1;have ml:=MV.look2 Tryz.underlying178 Tryz.underlying3 Tryz.ztn h.mp id;rw[hy] at ml;simp only[Option.getD_none,Option.isSome_none] at ml;have hr:=Zq (zpi h);have e0:¬s - (l.length:Int)=0:=by omega
 obtain⟨n,hn⟩:=Zn (s - (l.length:Int));rw[<- hn] at hr e0;replace hn:=Zq hn;obtain⟨o,ho,hu⟩:=MV.put_new Tryz.underlying178 Tryz.underlying3 h.mp id (.pointer (some ⟨x,0,none⟩)) (MV.look_none.1 hy);have H:=Zq h;have hf':=Zq hf;have ho':=Zq ho;have hu':=Zq hu;clear h hy hf ho hu
 go_enter Tryz.func91,Tryz.ntmps91
 go_wp2_with (go_at_call 129;refine hr.out.mono ?_;rintro e w' ⟨rfl,hw⟩;obtain⟨q,hq⟩:=hw;have c2:=((zbb.refl w).drewN q).keep.cell c1;have hu2:=hu'.out (w.drewN q) rfl;subst hq)
 go_ret
 refine⟨rfl,?_⟩;exact H.out.put ((zbb.refl w).drewN q).keep ho'.out (by have:=hf'.out;simp;omega)
end
end Go.Proofs.YtcogiogjpbkeaaaGreatDoor.T12
