/-
  A map from numbers to whatever values: look-up, insert, delete; 'for k, v := range m'. No condition, no program.
  'range', its step and 'delete' at a walk, over a map as a list of pairs. No condition, no program.
  A map of numbers to values: a value put in place of another; a table's blocks. No condition.
  The methods of a table of pointers but IDs. No condition.
-/
import Derived.Test.YtihjgcibpfajkaaGreatDoorD2
import Derived.Maps.Own
import Derived.Maps.RangeWalk
import Derived.Carry
import Derived.Maps.OwnSet
import Derived.Test.YtihjgcibpfajkaaGreatDoorD19
import Derived.Deep.RegionWith
namespace Go.Proofs.YtihjgcibpfajkaaGreatDoor
open Go.RowKit Go.Extern.Stop Go.Stop Go.Extern
open Go.ChangeMaps (setBlock)
namespace MV
def iv(k:Int):Value:=.int .i64 k
def Ent(es:List MapEntry)(l:List (Int × Value)):Prop:=es.map (fun x=>(x.key,x.val))=l.map (fun x=>(iv x.1,x.2))
def lookV:List (Int × Value)→Int→Option Value
 | [],_=>none
 | x :: r,k=>if k=x.1 then some x.2 else lookV r k
theorem zji(k:Int):∀ (l:List (Int × Value)) (es:List MapEntry) (i:Nat),Ent es l →
  ∃ r,Instr.findNow (.int .i64) (iv k) es i=some r∧r.map (·.2)=lookV l k∧∀ z,r=some z→∃ j,z.1=i+j∧∃ x,l[j]?=some x∧x.1=k
 | [],es,i,h=>by
   have:es=[]:=by simpa [Ent] using h
   subst this;exact⟨none,rfl,rfl,fun _ h=>by cases h⟩
 | x :: r,[],i,h=>by simp[Ent] at h
 | x :: r,y :: es,i,h=>by
   simp only[Ent,List.map_cons,List.cons.injEq,Prod.mk.injEq] at h;obtain⟨⟨hk,hv⟩,ht⟩:=h;have e1:Instr.sameNow (.int .i64) (iv k) y.key=some (k == x.1):=by rw[hk];simp[iv,Instr.sameNow]
   by_cases hc:k=x.1
   ·refine⟨some (i,y.val),?_,?_,?_⟩
    ·unfold Instr.findNow;rw[e1,beq_iff_eq.2 hc]
    ·unfold lookV;rw[if_pos hc];simp[hv]
    ·intro z hz;cases hz;exact⟨0,rfl,x,rfl,hc.symm⟩
   ·obtain⟨z,h1,h2,h3⟩:=zji k r es (i+1) ht
    refine⟨z,?_,?_,?_⟩
    ·unfold Instr.findNow;rw[e1,beq_eq_false_iff_ne.2 hc];exact h1
    ·unfold lookV;rw[if_neg hc];exact h2
    ·intro u hu
     obtain⟨j,e,x',hx,hk'⟩:=h3 u hu;exact⟨j+1,by omega,x',by simpa using hx,hk'⟩
theorem look_none{l:List (Int × Value)}{k:Int}:lookV l k=none↔k∉l.map (·.1):=by
 induction l with
 | nil=>simp[lookV]
 | cons x r ih =>
   simp only[lookV,List.map_cons,List.mem_cons,not_or]
   by_cases h:k=x.1
   ·rw[if_pos h];simp[h]
   ·rw[if_neg h,ih];simp[h]
theorem look_mem{l:List (Int × Value)}(hn:(l.map (·.1)).Nodup){k:Int}{v:Value}:lookV l k=some v↔(k,v)∈l:=by
 induction l with
 | nil=>simp[lookV]
 | cons x r ih =>
   rw[List.map_cons,List.nodup_cons] at hn;simp only[lookV,List.mem_cons]
   by_cases h:k=x.1
   ·rw[if_pos h]
    constructor
    ·intro e
     injection e with e
     exact Or.inl (by rw[h,← e])
    ·rintro(e | e)
     ·rw[← e]
     ·exact absurd (by rw[← h];exact List.mem_map_of_mem (f:=(·.1)) e) hn.1
   ·rw[if_neg h,ih hn.2]
    constructor
    ·exact Or.inr
    ·rintro(e | e)
     ·exact absurd (congrArg Prod.fst e) h
     ·exact e
def Obj'(o:Obj)(l:List (Int × Value)):Prop:=∃ es clock,o=.map es clock∧Ent es.toList l∧(l.map (·.1)).Nodup∧(es.toList.map (·.born)).Nodup∧∀ x∈es.toList,x.born<clock
def Is(w:World)(B:Nat)(l:List (Int × Value)):Prop:=∃ o,w.heap[B]?=some o∧Obj' o l
theorem Is.of{w w':World}{B:Nat}{l:List (Int × Value)}(h:Is w B l)(e:w'.heap[B]?=w.heap[B]?):Is w' B l:=by
 obtain⟨o,h1,h2⟩:=h;exact⟨o,e.trans h1,h2⟩
theorem Is.lt{w:World}{B:Nat}{l:List (Int × Value)}(h:Is w B l):B<w.heap.size:=by
 obtain⟨o,h1,_⟩:=h;exact(Array.getElem?_eq_some_iff.1 h1).1
theorem Is.nodup{w:World}{B:Nat}{l:List (Int × Value)}(h:Is w B l):(l.map (·.1)).Nodup:=by
 obtain⟨o,_,es,c,_,_,h2,_⟩:=h;exact h2
theorem is_new(w:World):Is (w.alloc (.map #[] 0)) w.heap.size []:=⟨_,(MapKept.heap_alloc w _).1,#[],0,rfl,rfl,List.nodup_nil,List.nodup_nil,fun x h=>by cases h⟩
section
variable{P:Program}{tM tK tE:TypeId}(ht:P.underlying tM=some (.map tK tE))(hk:P.underlying tK=some (.int .i64))
include ht hk
theorem look2{z:Value}(hz:∀ w,(zeroValue tE).run P w=.ok z w){w:World}{B:Nat}{l:List (Int × Value)}(h:Is w B l)(k:Int):
  (Instr.lookup tM (.map (some B)) (.int .i64 k) true).run P w=.ok (.tuple #[(lookV l k).getD z,.bool (lookV l k).isSome]) w:=by
 obtain⟨o,hb,es,c,rfl,h3,h4,_⟩:=h;obtain⟨r,h6,h7,_⟩:=zji k l es.toList 0 h3;have hc:(Instr.checkKey es.isEmpty 10000 tK (.int .i64 k)).run P w=.ok () w:=MapKept.run_checkKey (P:=P) (w:=w) hk (k:=iv k) rfl es.isEmpty 9999;have hf:(Instr.findKey tK (.int .i64 k) es.toList).run P w=.ok r w:=MapKept.run_findKey (P:=P) (w:=w) hk h6;simp only[Instr.lookup,Sem.run_bind,run_underlying ht,Result.andThen_ok,MapKept.run_getObj_map hb,hc,hf,Sem.run_pure];cases r with
 | none =>
   have:lookV l k=none:=by simpa using h7.symm
   rw[this];simp[hz]
 | some y =>
   obtain⟨j,v⟩:=y;have:lookV l k=some v:=by simpa using h7.symm
   rw[this];simp
theorem look1{z:Value}(hz:∀ w,(zeroValue tE).run P w=.ok z w){w:World}{B:Nat}{l:List (Int × Value)}(h:Is w B l)(k:Int):
  (Instr.lookup tM (.map (some B)) (.int .i64 k) false).run P w=.ok ((lookV l k).getD z) w:=by
 obtain⟨o,hb,es,c,rfl,h3,h4,_⟩:=h;obtain⟨r,h6,h7,_⟩:=zji k l es.toList 0 h3;have hc:(Instr.checkKey es.isEmpty 10000 tK (.int .i64 k)).run P w=.ok () w:=MapKept.run_checkKey (P:=P) (w:=w) hk (k:=iv k) rfl es.isEmpty 9999;have hf:(Instr.findKey tK (.int .i64 k) es.toList).run P w=.ok r w:=MapKept.run_findKey (P:=P) (w:=w) hk h6;simp only[Instr.lookup,Sem.run_bind,run_underlying ht,Result.andThen_ok,MapKept.run_getObj_map hb,hc,hf,Sem.run_pure];cases r with
 | none =>
   have:lookV l k=none:=by simpa using h7.symm
   rw[this];simp[hz]
 | some y =>
   obtain⟨j,v⟩:=y;have:lookV l k=some v:=by simpa using h7.symm
   rw[this];simp
theorem put_new{w:World}{B:Nat}{l:List (Int × Value)}(h:Is w B l)(k:Int)(v:Value)(hn:k∉l.map (·.1)):
  ∃ o,Obj' o (l++[(k,v)])∧∀ W:World,W.heap[B]?=w.heap[B]?→(Instr.mapUpdate tM (.map (some B)) (.int .i64 k) v).run P W=.ok () (setBlock W B o):=by
 obtain⟨o,hb,es,c,rfl,h3,h4,h5,h6⟩:=h;obtain⟨r,h7,h8,_⟩:=zji k l es.toList 0 h3;have:r=none:=by
  rw[look_none.2 hn] at h8;cases r with
  | none=>rfl
  | some y=>simp at h8
 subst this;refine⟨.map (es.push { key:=iv k,val:=v,born:=c }) (c+1),⟨_,_,rfl,?_,?_,?_,?_⟩,fun W hW=>?_⟩
 ·unfold Ent at h3 ⊢;simp[h3]
 ·rw[List.map_append,List.nodup_append]
  refine⟨h4,by simp,fun a ha b hb=>?_⟩
  simp only[List.map_cons,List.map_nil,List.mem_singleton] at hb;intro e;exact hn (by rw[← hb,← e];exact ha)
 ·rw[Array.toList_push,List.map_append,List.nodup_append]
  refine⟨h5,by simp,fun a ha b hb=>?_⟩
  simp only[List.map_cons,List.map_nil,List.mem_singleton] at hb;obtain⟨x,hx,rfl⟩:=List.mem_map.1 ha;have:=h6 x hx;omega
 ·intro x hx
  rw[Array.toList_push,List.mem_append,List.mem_singleton] at hx;rcases hx with hx | rfl
  ·have:=h6 x hx;omega
  ·show c<c+1;omega
 ·have hc:(Instr.checkKey false 10000 tK (.int .i64 k)).run P W=.ok () W:=MapKept.run_checkKey (P:=P) (w:=W) hk (k:=iv k) rfl false 9999
  have hf:(Instr.findKey tK (.int .i64 k) es.toList).run P W=.ok none W:=MapKept.run_findKey (P:=P) (w:=W) hk h7;have hB:=hW.trans hb;simp[Instr.mapUpdate,run_underlying ht,MapKept.run_getObj_map hB,hc,hf,MapKept.run_setObj_map _ hB,Result.andThen,setBlock,iv]
end
def Rng(w:World)(b r:Nat)(todo:List (Int × Value)):Prop:=∃ es clock since seen c0,w.heap[b]?=some (.map es clock)∧w.heap[r]?=some (.mapIter (some b) since seen c0)∧(∀ x∈es.toList,x.born<since)∧since≤c0∧(es.toList.map (·.born)).Nodup∧(∀ x∈es.toList,∃ k,x.key=iv k)∧((leftOf es seen).toList.map fun x=>(x.key,x.val)).Perm (todo.map fun x=>(iv x.1,x.2))∧since≤clock
theorem Rng.of{w w':World}{b r:Nat}{todo:List (Int × Value)}(h:Rng w b r todo)(e1:w'.heap[b]?=w.heap[b]?)(e2:w'.heap[r]?=w.heap[r]?):Rng w' b r todo:=by
 obtain⟨es,clock,since,seen,c0,h1,h2,h3⟩:=h;exact⟨es,clock,since,seen,c0,e1.trans h1,e2.trans h2,h3⟩
theorem zyr{es:List MapEntry}{l:List (Int × Value)}(h:Ent es l):∀ x∈es,∃ k,x.key=iv k:=fun x hx=>by
 have:(x.key,x.val)∈l.map (fun x=>(iv x.1,x.2)):=by rw[← h];exact List.mem_map_of_mem hx
 obtain⟨p,_,hp⟩:=List.mem_map.1 this
 injection hp with h1 h2
 exact⟨p.1,h1.symm⟩
theorem zsv{P:Program}{tM tK tE:TypeId}(ht:P.underlying tM=some (.map tK tE)){w:World}{B:Nat}{l:List (Int × Value)}(h:Is w B l):
  ∃ w',(Instr.range tM (.map (some B))).run P w=.ok (.pointer (some ⟨w.heap.size,0,none⟩)) w'∧Rng w' B w.heap.size l∧Keep w w'∧w'.heap.size=w.heap.size+1:=by
 have hl:=h.lt;obtain⟨o,hb,es,c,rfl,h3,h4,h5,h6⟩:=h;refine⟨_,run_range_map w tM tK tE B es c ht hb,⟨es,c,c,#[],c,((MapKept.heap_alloc w _).2 B hl).trans hb,(MapKept.heap_alloc w _).1,h6,Nat.le_refl _,h5,zyr h3,?_,Nat.le_refl _⟩,Keep.one _ _,World.size_alloc _ _⟩;have:leftOf es #[]=es:=by simp[leftOf]
 rw[this];unfold Ent at h3;rw[h3]
theorem zwc{P:Program}{w:World}{b r:Nat}{todo:List (Int × Value)}(h:Rng w b r todo)(hne:r≠b)(ty:TypeId):
  (todo=[]∧(Instr.next (.pointer (some ⟨r,0,none⟩)) false ty).run P w=.ok (.tuple #[.bool false]) w) ∨
  ∃ k v rest w',todo.Perm ((k,v) :: rest)∧(Instr.next (.pointer (some ⟨r,0,none⟩)) false ty).run P w=.ok (.tuple #[.bool true,.int .i64 k,v]) w'∧Rng w' b r rest∧w.grownBy w' (some r)∧w'.heap.size=w.heap.size∧(Instr.entry (.pointer (some ⟨r,0,none⟩))).run P w'=.ok (.tuple #[.int .i64 k,v]) w':=by
 obtain⟨es,clock,since,seen,c0,hb,hr,hold,hsc,hbn,hke,hp,hcl⟩:=h;rcases run_next_at (P:=P) w ty r b since c0 seen es clock hr hb hold hsc with ⟨h0,h1⟩ | ⟨e,he,w1,hw1,h1⟩
 ·left
  refine⟨?_,h1⟩;have hl:=hp.length_eq;rw[List.length_map,List.length_map,Array.length_toList,h0] at hl;exact List.length_eq_zero_iff.1 hl.symm
 ·right
  have hes:e∈es.toList:=by
   unfold leftOf at he;simp at he
   simpa using he.1
  obtain⟨k,hk⟩:=hke e hes;have hmem:(iv k,e.val)∈todo.map fun x=>(iv x.1,x.2):=by
   refine hp.mem_iff.1 (List.mem_map.2 ⟨e,he,?_⟩);rw[hk]
  obtain⟨p,hpt,hpe⟩:=List.mem_map.1 hmem
  injection hpe with hp1 hp2
  have hpk:p=(k,e.val):=by
   unfold iv at hp1
   injection hp1 with _ hp1
   rw[← hp1,← hp2]
  obtain⟨s,t,hst⟩:=List.append_of_mem hpt;have hperm:todo.Perm ((k,e.val) :: (s++t)):=by
   rw[hst,hpk];exact List.perm_middle
  have hrl:r<w1.heap.size:=by
   have:=(Array.getElem?_eq_some_iff.1 hr).1;rcases hw1 with rfl | rfl<;>exact this
  have hb':(setBlock w1 r (.mapIter (some b) since (seen.push e.born) clock)).heap[b]?=some (.map es clock):=by
   have:w1.heap[b]?=some (.map es clock):=by rcases hw1 with rfl | rfl<;>exact hb
   simp only[setBlock,Array.getElem?_setIfInBounds,hne,if_false];exact this
  have hr':(setBlock w1 r (.mapIter (some b) since (seen.push e.born) clock)).heap[r]?=some (.mapIter (some b) since (seen.push e.born) clock):=by simp[setBlock,hrl]
  refine⟨k,e.val,s++t,_,hperm,?_,⟨es,clock,since,seen.push e.born,clock,hb',hr',hold,hcl,hbn,hke,?_,hcl⟩,?_,?_,?_⟩
  ·rw[h1,hk];rfl
  ·have hleft:(leftOf es seen).toList.Perm (e :: (leftOf es (seen.push e.born)).toList):=by
    have gen:∀ (l:List MapEntry),(l.map (·.born)).Nodup→e∈l→seen.contains e.born=false→(l.filter fun x=>!seen.contains x.born).Perm (e :: l.filter fun x=>!(seen.push e.born).contains x.born):=by
     intro l
     induction l with
     | nil=>intro _ h _;cases h
     | cons y q ih =>
       intro hn hm hs;rw[List.map_cons,List.nodup_cons] at hn;rcases List.mem_cons.1 hm with rfl | hm
       ·rw[List.filter_cons_of_pos (by simp only[hs];rfl),List.filter_cons_of_neg (by simp)]
        refine List.Perm.cons _ (List.Perm.of_eq (List.filter_congr fun x hx=>?_))
        have hxe:x.born≠e.born:=fun h=>hn.1 (by rw[← h];exact List.mem_map_of_mem hx)
        simp[hxe]
       ·have hye:y.born≠e.born:=fun h=>hn.1 (by rw[h];exact List.mem_map_of_mem hm)
        by_cases hy:seen.contains y.born=true
        ·rw[List.filter_cons_of_neg (by simp only[hy];decide),List.filter_cons_of_neg (by simp at hy ⊢;simp[hy])]
         exact ih hn.2 hm hs
        ·rw[List.filter_cons_of_pos (by simp only[Bool.not_eq_true] at hy;simp only[hy];rfl),List.filter_cons_of_pos (by simp at hy ⊢;exact⟨hy,hye⟩)]
         exact((ih hn.2 hm hs).cons y).trans (List.Perm.swap _ _ _)
    have hse:seen.contains e.born=false:=by
     unfold leftOf at he;simp at he
     simpa using he.2
    have:=gen es.toList hbn hes hse;unfold leftOf;rw[Array.toList_filter,Array.toList_filter];exact this
   have h2:=(hleft.map fun x:MapEntry=>(x.key,x.val)).symm.trans (hp.trans (hperm.map fun x:Int × Value=>(iv x.1,x.2)))
   rw[List.map_cons,List.map_cons,hk] at h2;exact(List.perm_cons _).1 h2
  ·rcases hw1 with rfl | rfl
   ·exact⟨rfl,rfl,rfl,by simp[setBlock],fun i _ hi=>by simp only[setBlock,Array.getElem?_setIfInBounds];rw[if_neg (fun e=>hi (by rw[e]))]⟩
   ·exact⟨rfl,rfl,rfl,by simp[setBlock],fun i _ hi=>by simp only[setBlock,Array.getElem?_setIfInBounds];rw[if_neg (fun e=>hi (by rw[e]))];rfl⟩
  ·rcases hw1 with rfl | rfl<;>simp[setBlock]
  ·rw[run_entry_at _ r b since seen es clock e hr' hb' hes hbn,hk]
   rfl
end MV
end Go.Proofs.YtihjgcibpfajkaaGreatDoor
namespace Go.Proofs.YtihjgcibpfajkaaGreatDoor
open Go.RowKit Go.Extern.Stop Go.Stop Go.Extern
open Go.ChangeMaps (setBlock)
namespace MV
theorem Rng.lt{w:World}{b r:Nat}{t:List (Int × Value)}(h:Rng w b r t):b<w.heap.size∧r<w.heap.size:=by
 obtain⟨es,clock,since,seen,c0,h1,h2,_⟩:=h;exact⟨(Array.getElem?_eq_some_iff.1 h1).1,(Array.getElem?_eq_some_iff.1 h2).1⟩
theorem Rng.keep{w w':World}{b r:Nat}{t:List (Int × Value)}(h:Rng w b r t)(k:Keep w w'):Rng w' b r t :=
 h.of (Below.block k _ h.lt.1) (Below.block k _ h.lt.2)
section
variable{P:Program}{w:World}{ops:Array Oper}{rest:List Oper}{o:Oper}{a:Act}{Q:Exit→Act→World→Prop}
end
end MV
end Go.Proofs.YtihjgcibpfajkaaGreatDoor
namespace Go.Proofs.YtihjgcibpfajkaaGreatDoor
open Go.RowKit Go.Extern.Stop Go.Stop Go.Extern
open Go.ChangeMaps (setBlock)
namespace MV
def repV(l:List (Int × Value))(k:Int)(v:Value):List (Int × Value):=l.map fun x=>if x.1=k then(k,v) else x
theorem repV_keys(l:List (Int × Value))(k:Int)(v:Value):(repV l k v).map (·.1)=l.map (·.1):=by
 unfold repV;rw[List.map_map];refine List.map_congr_left fun x _=>?_
 show(if x.1=k then(k,v) else x).1=x.1
 split
 ·exact Eq.symm (by assumption)
 ·rfl
theorem zih(k:Int)(v:Value):∀ (l:List (Int × Value)) (j:Nat) (x:Int × Value),(l.map (·.1)).Nodup→l[j]?=some x→x.1=k→repV l k v=l.modify j fun _=>(k,v)
 | [],j,x,_,h,_=>by simp at h
 | y :: r,0,x,hn,h,hk=>by
   simp only[List.getElem?_cons_zero,Option.some.injEq] at h;subst h;rw[List.map_cons,List.nodup_cons] at hn;show(if y.1=k then(k,v) else y) :: repV r k v=(k,v) :: r
   rw[if_pos hk]
   congr 1
   unfold repV
   conv=>rhs;rw[← List.map_id r]
   refine List.map_congr_left fun z hz=>?_
   rw[if_neg (fun e=>hn.1 (by rw[hk,← e];exact List.mem_map_of_mem (f:=(·.1)) hz))]
   rfl
 | y :: r,j+1,x,hn,h,hk=>by
   simp only[List.getElem?_cons_succ] at h;rw[List.map_cons,List.nodup_cons] at hn;show(if y.1=k then(k,v) else y) :: repV r k v=y :: r.modify j fun _=>(k,v)
   rw[zih k v r j x hn.2 h hk,if_neg];intro e;exact hn.1 (by rw[e,← hk];exact List.mem_map_of_mem (f:=(·.1)) (List.mem_of_getElem? h))
theorem zeb{α β:Type}(f:α→β)(g:α→α)(h:β→β)(e:∀ x,f (g x)=h (f x)):∀ (l:List α) (j:Nat),(l.modify j g).map f=(l.map f).modify j h
 | [],j=>by cases j<;>rfl
 | x :: r,0=>by show f (g x) :: r.map f=h (f x) :: r.map f;rw[e]
 | x :: r,j+1=>by
   show f x :: (r.modify j g).map f=f x :: (r.map f).modify j h
   rw[zeb f g h e r j]
section
variable{P:Program}{tM tK tE:TypeId}(ht:P.underlying tM=some (.map tK tE))(hk:P.underlying tK=some (.int .i64))
include ht hk
theorem put_old{w:World}{B:Nat}{l:List (Int × Value)}(h:Is w B l)(k:Int)(v:Value)(hm:k∈l.map (·.1)):
  ∃ o,Obj' o (repV l k v)∧∀ W:World,W.heap[B]?=w.heap[B]?→(Instr.mapUpdate tM (.map (some B)) (.int .i64 k) v).run P W=.ok () (setBlock W B o):=by
 obtain⟨o,hb,es,c,rfl,h3,h4,h5,h6⟩:=h;obtain⟨r,h7,h8,h9⟩:=zji k l es.toList 0 h3;cases r with
 | none=>exact absurd (look_none.1 (by simpa using h8.symm)) (fun e=>e hm)
 | some y =>
   obtain⟨j,hj,x,hx,hxk⟩:=h9 y rfl;obtain⟨j',yv⟩:=y;have hj:j'=j:=by simpa using hj
   subst hj;refine⟨.map (es.modify j' fun e=>{ e with key:=iv k,val:=v }) c,⟨_,_,rfl,?_,?_,?_,?_⟩,fun W hW=>?_⟩
   ·unfold Ent at h3 ⊢
    rw[Array.toList_modify,zeb (fun x:MapEntry=>(x.key,x.val)) (fun e=>{ e with key:=iv k,val:=v }) (fun _=>(iv k,v)) (fun _=>rfl),h3,zih k v l j' x h4 hx hxk,zeb (fun x:Int × Value=>(iv x.1,x.2)) (fun _=>(k,v)) (fun _=>(iv k,v)) (fun _=>rfl)]
   ·rw[repV_keys];exact h4
   ·rw[Array.toList_modify,zeb (fun x:MapEntry=>x.born) (fun e=>{ e with key:=iv k,val:=v }) id (fun _=>rfl),List.modify_id];exact h5
   ·intro e he
    rw[Array.toList_modify] at he;have hb:e.born∈(es.toList.modify j' fun e=>{ e with key:=iv k,val:=v }).map (·.born):=List.mem_map_of_mem (f:=(·.born)) he
    rw[zeb (fun x:MapEntry=>x.born) (fun e=>{ e with key:=iv k,val:=v }) id (fun _=>rfl),List.modify_id] at hb
    obtain⟨z,hz,hzb⟩:=List.mem_map.1 hb;rw[← hzb];exact h6 z hz
   ·have hc:(Instr.checkKey false 10000 tK (.int .i64 k)).run P W=.ok () W:=MapKept.run_checkKey (P:=P) (w:=W) hk (k:=iv k) rfl false 9999
    have hf:(Instr.findKey tK (.int .i64 k) es.toList).run P W=.ok (some (j',yv)) W:=MapKept.run_findKey (P:=P) (w:=W) hk h7;have hB:=hW.trans hb;have hold:((es[j']?).map (·.key)).getD (.int .i64 k)=.int .i64 k:=by
     have h9:(es.toList.map (fun x=>(x.key,x.val)))[j']?=(l.map (fun x=>(iv x.1,x.2)))[j']?:=by rw[h3]
     rw[List.getElem?_map,List.getElem?_map,hx] at h9;simp only[Array.getElem?_toList,Option.map_some] at h9;cases he:es[j']? with
     | none=>rfl
     | some y =>
       rw[he] at h9;simp only[Option.map_some,Option.some.injEq,Prod.mk.injEq] at h9;simp[h9.1,hxk,iv]
    have hkeep:(Instr.keyThatStays (.int .i64 k) (.int .i64 k)).run P W=.ok (.int .i64 k) W:=by
     simp[Instr.keyThatStays,Instr.sameBits]
    simp[Instr.mapUpdate,run_underlying ht,MapKept.run_getObj_map hB,hc,hf,hold,hkeep,MapKept.run_setObj_map _ hB,Result.andThen,setBlock,iv]
end
theorem Is.length_le{w:World}{B:Nat}{l:List (Int × Value)}(h:Is w B l):∃ es c,w.heap[B]?=some (.map es c)∧es.size=l.length:=by
 obtain⟨o,hb,es,c,rfl,h3,_⟩:=h;refine⟨es,c,hb,?_⟩;have:=congrArg List.length h3
 simpa using this
theorem heap_setBlock{w:World}{B:Nat}{o:Obj}(h:B<w.heap.size):(setBlock w B o).heap[B]?=some o:=by
 simp[setBlock,h]
theorem heap_setBlock_ne{w:World}{B k:Nat}{o:Obj}(h:k≠B):(setBlock w B o).heap[k]?=w.heap[k]?:=by
 simp[setBlock,Ne.symm h]
end MV
namespace T12
theorem Fr.put{D:Nat→Prop}{a b:World}(h:Fr D a b){B:Nat}(hp:D B∨a.heap.size≤B)(o:Obj):Fr D a (setBlock b B o):=
 ⟨h.os,h.tape,h.output,by simp[setBlock];exact h.size,fun k hk hn=>by
  rw[MV.heap_setBlock_ne (fun e=>hp.elim (fun h=>hn (by rw[e];exact h)) (fun h=>absurd h (by omega)))];exact h.block k hk hn⟩
structure TM(ty:TypeId)(w:World)(s:Int)(p m:Nat)(l:List (Int × Value)):Prop where
 hp:w.heap[p]?=some (.cells #[.int .i64 s,.map (some m)] ty (0,0))
 mp:MV.Is w m l
 lo:0≤s
 hi:s≤9223372036854775807
 len:(l.length:Int)≤s
section
variable{ty:TypeId}{w w':World}{s:Int}{p m:Nat}{l:List (Int × Value)}
theorem TM.plt(h:TM ty w s p m l):p<w.heap.size:=(Array.getElem?_eq_some_iff.1 h.hp).1
theorem TM.mlt(h:TM ty w s p m l):m<w.heap.size:=h.mp.lt
theorem TM.ne(h:TM ty w s p m l):p≠m:=by
 rintro rfl;obtain⟨o,hb,es,c,rfl,_⟩:=h.mp;rw[h.hp] at hb;cases hb
theorem TM.e0(h:TM ty w s p m l):w.cell? ⟨p,0,none⟩=some (.int .i64 s):=by rw[cell_of_row w _ _ _ _ _ h.hp];rfl
theorem TM.e1(h:TM ty w s p m l):w.cell? ⟨p,0+1,none⟩=some (.map (some m)):=by rw[cell_of_row w _ _ _ _ _ h.hp];rfl
theorem TM.keep(h:TM ty w s p m l)(k:Keep w w'):TM ty w' s p m l:=⟨k.block h.hp,h.mp.of (Below.block k _ h.mlt),h.lo,h.hi,h.len⟩
theorem TM.fr(h:TM ty w s p m l){E:Nat→Prop}(f:Fr E w w')(h1:¬E p)(h2:¬E m):TM ty w' s p m l :=
 ⟨(f.block _ h.plt h1).trans h.hp,h.mp.of (f.block _ h.mlt h2),h.lo,h.hi,h.len⟩
theorem TM.put(h:TM ty w s p m l)(k:Keep w w'){o:Obj}{l':List (Int × Value)}(ho:MV.Obj' o l')(hl:(l'.length:Int)≤s):TM ty (setBlock w' m o) s p m l'∧Fr (·=m) w (setBlock w' m o):=by
 have h':=h.keep k;exact⟨⟨by rw[MV.heap_setBlock_ne h.ne];exact h'.hp,⟨o,MV.heap_setBlock h'.mlt,ho⟩,h.lo,h.hi,hl⟩,Fr.put (D:=(·=m)) (Fr.of k) (by left;rfl) _⟩
end
end T12
end Go.Proofs.YtihjgcibpfajkaaGreatDoor
namespace Go.Proofs.YtihjgcibpfajkaaGreatDoor.T12
open Go.RowKit Go.Lib Go.Extern
open Go.ChangeMaps (setBlock)
abbrev TMN:=TM 152
theorem Tryz.ztn(w:World):(zeroValue 111).run Tryz.prog w=.ok (.pointer none) w:=by kernel_rfl
def err(c:Int):Value:=.iface 88 (.int .i64 c)
set_option maxHeartbeats 1000000 in
theorem zxj(s:Int)(hs:I64 s)(w:World):Calls Tryz.prog 76 #[.int .i64 s] w fun e w'=>∃ p,e=.returned (.pointer (some ⟨p,0,none⟩))∧∃ m,TMN w' (if 0≤s then s else 0) p m []∧Keep w w'∧w.heap.size≤p∧w.heap.size≤m:=by
 have hmm:=@run_makeMap Tryz.prog;have hs':=Lib.hid hs;clear hs
 by_cases h0:0≤s
 ·rw[if_pos h0]
  have hb1:decide (0≤s)=true:=decide_eq_true h0;have hb2:decide (s<0)=false:=decide_eq_false (by omega)
  have hb3:decide (0<s)=true∨s=0:=by by_cases h:0<s;exact .inl (decide_eq_true h);exact .inr (by omega)
  have hm:max s 0=s:=by omega
  go_enter Tryz.func76,Tryz.ntmps76
  go_wp2;try simp only[hm]
  go_ret
  refine⟨_,rfl,_,⟨?_,(MV.is_new w).of (Below.block (Keep.one (w.alloc (.map #[] 0)) _) _ (by rw[World.size_alloc];omega)),h0,hs'.out.2,by simpa using h0⟩,(Keep.one _ _).alloc _,by simp,by omega⟩
  have:=heap_alloc_new (w.alloc (.map #[] 0)) (.cells #[.int .i64 s,.map (some w.heap.size)] 152)
  rwa [World.size_alloc] at this
 ·rw[if_neg h0]
  have hb1:decide (0≤s)=false:=decide_eq_false h0;have hb2:decide (s<0)=true:=decide_eq_true (by omega)
  have hb3:decide (0<s)=false:=decide_eq_false (by omega)
  have hm:max s 0=0:=by omega
  go_enter Tryz.func76,Tryz.ntmps76
  go_wp2;try simp only[hm]
  go_ret
  refine⟨_,rfl,_,⟨?_,(MV.is_new w).of (Below.block (Keep.one (w.alloc (.map #[] 0)) _) _ (by rw[World.size_alloc];omega)),by omega,by omega,by simp⟩,(Keep.one _ _).alloc _,by simp,by omega⟩
  have:=heap_alloc_new (w.alloc (.map #[] 0)) (.cells #[.int .i64 0,.map (some w.heap.size)] 152)
  rwa [World.size_alloc] at this
section
variable{w:World}{s:Int}{p m:Nat}{l:List (Int × Value)}
theorem zjm(h:TMN w s p m l)(ty:TypeId)(W:World)(hW:W.heap[m]?=w.heap[m]?):(Builtin.len_ #[150] ty #[.map (some m)]).run Tryz.prog W=.ok (.int .i64 l.length) W:=by
 obtain⟨es,c,hb,hl⟩:=(h.mp.of hW).length_le;rw[← hl];simp[Builtin.len_,MapKept.run_getObj_map hb,go_sem]
set_option maxHeartbeats 1000000 in
theorem zxi(h:TMN w s p m l):Calls Tryz.prog 89 #[.pointer (some ⟨p,0,none⟩)] w fun e w'=>e=.returned (.int .i64 l.length)∧w=w':=by
 have c0:=h.e0;have c1:=h.e1;have hl:=fun ty=>zjm h ty w rfl
 clear h
 go_enter Tryz.func89,Tryz.ntmps89
 go_wp2;go_ret
 exact⟨rfl,rfl⟩
set_option maxHeartbeats 1000000 in
theorem zkt(h:TMN w s p m l):Calls Tryz.prog 102 #[.pointer (some ⟨p,0,none⟩)] w fun e w'=>e=.returned (.int .i64 (s - l.length))∧zau w w':=by
 have c0:=h.e0;have c1:=h.e1;have hl:=fun ty=>zjm h ty w rfl
 have hl2:=fun ty=>zjm h ty w.drew rfl
 have h1:=h.lo;have h2:=h.hi;have h3:=h.len;have hw:wrap64 (s - l.length)=s - l.length:=by unfold wrap64;omega
 clear h
 go_enter Tryz.func102,Tryz.ntmps102
 go_wp2
 go_region
 all_goals go_wp2
 all_goals go_ret
 all_goals (try rw[hw])
 all_goals exact⟨rfl,(zau.refl w).drew⟩
set_option maxHeartbeats 1000000 in
theorem zpw(h:TMN w s p m l)(id:Int)(x:Nat)(hx:MV.lookV l id=some (.pointer (some ⟨x,0,none⟩))):Calls Tryz.prog 92 #[.pointer (some ⟨p,0,none⟩),.int .i64 id] w fun e w'=>e=.returned (.tuple #[.pointer (some ⟨x,0,none⟩),.bool true])∧w=w':=by
 have c1:=h.e1;have ml:=MV.look2 Tryz.underlying150 Tryz.underlying3 Tryz.ztn h.mp id;rw[hx] at ml;simp only[Option.getD_some,Option.isSome_some] at ml;clear h hx
 go_enter Tryz.func92,Tryz.ntmps92
 go_wp2;go_ret2
 exact⟨rfl,rfl⟩
set_option maxHeartbeats 1000000 in
theorem zpv(h:TMN w s p m l)(id:Int)(hx:MV.lookV l id=none):Calls Tryz.prog 92 #[.pointer (some ⟨p,0,none⟩),.int .i64 id] w fun e w'=>e=.returned (.tuple #[.pointer none,.bool false])∧w=w':=by
 have c1:=h.e1;have ml:=MV.look2 Tryz.underlying150 Tryz.underlying3 Tryz.ztn h.mp id;rw[hx] at ml;simp only[Option.getD_none,Option.isSome_none] at ml;clear h hx
 go_enter Tryz.func92,Tryz.ntmps92
 go_wp2;go_ret2
 exact⟨rfl,rfl⟩
set_option maxHeartbeats 1000000 in
theorem zti(h:TMN w s p m l)(id:Int)(x y:Nat)(hy:MV.lookV l id=some (.pointer (some ⟨y,0,none⟩))):Calls Tryz.prog 74 #[.pointer (some ⟨p,0,none⟩),.int .i64 id,.pointer (some ⟨x,0,none⟩)] w fun e w'=>e=.returned (err 6)∧w=w':=by
 have c1:=h.e1;have ml:=MV.look2 Tryz.underlying150 Tryz.underlying3 Tryz.ztn h.mp id;rw[hy] at ml;simp only[Option.getD_some,Option.isSome_some] at ml;clear h hy
 go_enter Tryz.func74,Tryz.ntmps74
 go_wp2;go_ret
 exact⟨rfl,rfl⟩
set_option maxHeartbeats 1000000 in
theorem zpu(h:TMN w s p m l)(id:Int)(x:Nat)(hy:MV.lookV l id=none)(hf:(l.length:Int)=s):Calls Tryz.prog 74 #[.pointer (some ⟨p,0,none⟩),.int .i64 id,.pointer (some ⟨x,0,none⟩)] w fun e w'=>e=.returned (err 7)∧zau w w':=by
 have c1:=h.e1;have ml:=MV.look2 Tryz.underlying150 Tryz.underlying3 Tryz.ztn h.mp id;rw[hy] at ml;simp only[Option.getD_none,Option.isSome_none] at ml;have hr:=Lib.hid (zkt h);have e0:s - (l.length:Int)=0:=by omega
 rw[e0] at hr;clear h hy hf e0
 go_enter Tryz.func74,Tryz.ntmps74
 go_wp2_with (go_at_call 102;refine hr.out.mono ?_;rintro e w' ⟨rfl,hw⟩)
 go_ret
 exact⟨rfl,hw⟩
set_option maxRecDepth 100000 in
set_option maxHeartbeats 1000000 in
theorem ztj(h:TMN w s p m l)(id:Int)(x:Nat)(hy:MV.lookV l id=none)(hf:(l.length:Int)<s):Calls Tryz.prog 74 #[.pointer (some ⟨p,0,none⟩),.int .i64 id,.pointer (some ⟨x,0,none⟩)] w fun e w'=>e=.returned .nilIface∧TMN w' s p m (l++[(id,.pointer (some ⟨x,0,none⟩))])∧Fr (·=m) w w':=by
 have c1:=h.e1;have ml:=MV.look2 Tryz.underlying150 Tryz.underlying3 Tryz.ztn h.mp id;rw[hy] at ml;simp only[Option.getD_none,Option.isSome_none] at ml;have hr:=Lib.hid (zkt h);have e0:¬s - (l.length:Int)=0:=by omega
 obtain⟨n,hn⟩:∃ n,n=s - (l.length:Int):=⟨_,rfl⟩;rw[← hn] at hr e0;replace hn:=Lib.hid hn;obtain⟨o,ho,hu⟩:=MV.put_new Tryz.underlying150 Tryz.underlying3 h.mp id (.pointer (some ⟨x,0,none⟩)) (MV.look_none.1 hy);have H:=Lib.hid h;have hf':=Lib.hid hf;have ho':=Lib.hid ho;have hu':=Lib.hid hu;clear h hy hf ho hu
 go_enter Tryz.func74,Tryz.ntmps74
 go_wp2_with (go_at_call 102;refine hr.out.mono ?_;rintro e w' ⟨rfl,hw⟩;obtain⟨q,hq⟩:=hw;have c2:=((zau.refl w).drewN q).keep.cell c1;have hu2:=hu'.out (w.drewN q) rfl;subst hq)
 go_ret
 refine⟨rfl,?_⟩;exact H.out.put ((zau.refl w).drewN q).keep ho'.out (by have:=hf'.out;simp;omega)
end
end Go.Proofs.YtihjgcibpfajkaaGreatDoor.T12
