/-
  A map from pairs of numbers to numbers: what a look-up answers and what an insert leaves. No condition.
  The program's table of changes: whatever order its map is filled in, it says what the table says. No condition.
  The program's changes answers a map that says what the table says. No condition.
  The program's Next and Run say what the table says. No condition.
  The store's row with a field changed; phase.Next. No condition.
-/
import Derived.Test.YtnclkefddkgojaaGreatDoorB2
import Derived.Laws.StructEq
import Derived.Maps.Own
import Derived.Carry
import Derived.RegionTactic
import Derived.Test.YtnclkefddkgojaaGreatDoorB35
namespace Go.Proofs.YtnclkefddkgojaaGreatDoor
open Go.RowKit Go.Extern.Stop Go.Stop Go.Extern
open Go.ChangeMaps (setBlock)
def kv (p e:Int):Value:=.agg #[.int .i64 p,.int .i64 e]
set_option maxRecDepth 100000 in
theorem Tryz.eqKey (p e q f:Int) (w:World):(Op.equal 174 (kv p e) (kv q f)).run Tryz.prog w = .ok (decide (p = q∧e = f)) w:=by
  unfold kv
  simp only [Op.equal,Op.maxDepth]
  rw [run_equalIn_agg w 9999 174 _ _ (by kernel_rfl) (by kernel_rfl)]
  have hf:∃ f0 f1:Field,(Tryz.prog.fieldsOf 174).toList = [f0,f1]∧f0.name ≠ "_" ∧ f1.name ≠ "_" ∧ f0.type = 3∧f1.type = 3∧f0.offset = 0∧f1.offset = 1:=⟨_,_,rfl,by decide,by decide,rfl,rfl,rfl,rfl⟩
  obtain ⟨f0,f1,hl,n0,n1,t0,t1,o0,o1⟩:=hf
  rw [hl]
  simp [Op.eqFields,n0,n1,t0,t1,o0,o1,go_sem]
  by_cases h:p = q <;> by_cases h':e = f <;> simp [h,h']
theorem Tryz.okKey (b:Bool) (p e:Int) (w:World):(Instr.checkKey b 10000 174 (kv p e)).run Tryz.prog w = .ok () w:=by
  unfold kv
  rw [show (10000:Nat) = 9999 + 1 from rfl]
  unfold Instr.checkKey
  simp only [Sem.run_bind,run_underlying Tryz.underlying174,Result.andThen_ok]
  simp [go_sem]
  have h (x:Int) (v:World):(Instr.checkKey b 9999 3 (.int .i64 x)).run Tryz.prog v = .ok () v:=MapKept.run_checkKey Tryz.underlying3 (by simp [MapKept.IsKey]) b 9998
  simp [h,Result.andThen]
def Ents (es:List MapEntry) (l:List (Int × Int × Int)):Prop:=es.map (fun x=>(x.key,x.val)) = l.map (fun x=>(kv x.1 x.2.1,Value.int .i64 x.2.2))
def look:List (Int × Int × Int)→Int→Int→Option Int
  | [],_,_=>none
  | x :: r,p,e=>if p = x.1∧e = x.2.1 then some x.2.2 else look r p e
theorem look_mem {p e v:Int}:∀ {l:List (Int × Int × Int)},look l p e = some v→(p,e,v) ∈ l
  | [],h=>by simp [look] at h
  | x :: r,h=>by
    unfold look at h
    split at h
    · rename_i hc
      obtain ⟨rfl,rfl⟩:=hc
      cases h
      exact List.mem_cons_self
    · exact List.mem_cons_of_mem _ (look_mem h)
theorem look_none {p e:Int}:∀ {l:List (Int × Int × Int)},look l p e = none→∀ v,(p,e,v) ∉ l
  | [],_,v,hm=>by cases hm
  | x :: r,h,v,hm=>by
    unfold look at h
    split at h
    · cases h
    · rename_i hc
      rcases List.mem_cons.1 hm with rfl | hm
      · exact hc ⟨rfl,rfl⟩
      · exact look_none h v hm
theorem look_not {p e:Int} {l:List (Int × Int × Int)} (h:∀ v,(p,e,v) ∉ l):look l p e = none:=by
  cases hl:look l p e with
  | none=>rfl
  | some v=>exact absurd (look_mem hl) (h v)
theorem ask_run (p e:Int) (w:World):∀ (l:List (Int × Int × Int)) (es:List MapEntry) (i:Nat),Ents es l →
    ∃ r,(Instr.findAsking 174 (kv p e) es i).run Tryz.prog w = .ok r w∧r.map (·.2) = (look l p e).map (Value.int .i64)
  | [],es,i,h=>by
    have:es = []:=by simpa [Ents] using h
    subst this
    exact ⟨none,by simp [Instr.findAsking],rfl⟩
  | x :: r,[],i,h=>by simp [Ents] at h
  | x :: r,y :: es,i,h=>by
    simp only [Ents,List.map_cons,List.cons.injEq,Prod.mk.injEq] at h
    obtain ⟨⟨hk,hv⟩,ht⟩:=h
    unfold Instr.findAsking look
    simp only [Sem.run_bind,hk,Tryz.eqKey,Result.andThen_ok]
    by_cases hc:p = x.1∧e = x.2.1
    · rw [decide_eq_true hc,if_pos hc]
      exact ⟨some (i,y.val),by simp,by simp [hv]⟩
    · rw [decide_eq_false hc,if_neg hc]
      obtain ⟨z,hz,hz'⟩:=ask_run p e w r es (i + 1) ht
      exact ⟨z,by simpa using hz,hz'⟩
set_option maxRecDepth 100000 in
theorem find_run (p e:Int) (w:World) (l:List (Int × Int × Int)) (es:List MapEntry) (h:Ents es l) :
    ∃ r,(Instr.findKey 174 (kv p e) es).run Tryz.prog w = .ok r w∧r.map (·.2) = (look l p e).map (Value.int .i64):=by
  cases es with
  | nil =>
    have:l = []:=by
      have:=congrArg List.length h
      simpa using this.symm
    subst this
    exact ⟨none,by simp [Instr.findKey,run_underlying Tryz.underlying174,Instr.findNow],rfl⟩
  | cons y es =>
    obtain ⟨r,h1,h2⟩:=ask_run p e w l (y :: es) 0 h
    refine ⟨r,?_,h2⟩
    have hn:Instr.findNow (.struct (Tryz.prog.fieldsOf 174)) (kv p e) (y :: es) 0 = none:=rfl
    simp [Instr.findKey,run_underlying (show Tryz.prog.underlying 174 = some (.struct (Tryz.prog.fieldsOf 174)) from rfl),hn,h1]
def MapIs (w:World) (B:Nat) (l:List (Int × Int × Int)):Prop:=∃ es clock,w.heap[B]? = some (.map es clock)∧Ents es.toList l
theorem MapIs.keep {w w':World} {B:Nat} {l:List (Int × Int × Int)} (h:MapIs w B l) (k:Keep w w'):MapIs w' B l:=by
  obtain ⟨es,clock,hb,he⟩:=h
  exact ⟨es,clock,k.block hb,he⟩
theorem map_look {w:World} {B:Nat} {l:List (Int × Int × Int)} (h:MapIs w B l) (p e:Int) :
    (Instr.lookup 171 (.map (some B)) (kv p e) true).run Tryz.prog w = .ok (.tuple #[.int .i64 ((look l p e).getD 0),.bool (look l p e).isSome]) w:=by
  obtain ⟨es,clock,hb,he⟩:=h
  obtain ⟨r,h1,h2⟩:=find_run p e w l es.toList he
  have hz:(zeroValue 3).run Tryz.prog w = .ok (.int .i64 0) w:=by kernel_rfl
  simp only [Instr.lookup,Sem.run_bind,run_underlying Tryz.underlying171,Result.andThen_ok,MapKept.run_getObj_map hb,Tryz.okKey,h1,Sem.run_pure]
  cases hl:look l p e with
  | none =>
    rw [hl] at h2
    have:r = none:=by cases r <;> simp_all
    subst this
    simp [hz]
  | some v =>
    rw [hl] at h2
    cases r with
    | none=>simp at h2
    | some y =>
      obtain ⟨j,z⟩:=y
      have hz:z = .int .i64 v:=by simpa using h2
      subst hz
      simp
theorem map_put {w:World} {B:Nat} {l:List (Int × Int × Int)} (h:MapIs w B l) (p e v:Int) (hn:look l p e = none) :
    ∃ w',(Instr.mapUpdate 171 (.map (some B)) (kv p e) (.int .i64 v)).run Tryz.prog w = .ok () w'∧MapIs w' B (l ++ [(p,e,v)])∧w.grownBy w' (some B):=by
  obtain ⟨es,clock,hb,he⟩:=h
  obtain ⟨r,h1,h2⟩:=find_run p e w l es.toList he
  rw [hn] at h2
  have:r = none:=by cases r <;> simp_all
  subst this
  refine ⟨setBlock w B (.map (es.push { key:=kv p e,val:=.int .i64 v,born:=clock }) (clock + 1)),?_,⟨_,_,ChangeMaps.heap_setBlock_same hb _,?_⟩,⟨rfl,rfl,rfl,by simp [setBlock],fun i _ hi=>ChangeMaps.heap_setBlock_other hb _ (fun e=>hi (by rw [e]))⟩⟩
  · simp [Instr.mapUpdate,run_underlying Tryz.underlying171,MapKept.run_getObj_map hb,Tryz.okKey,h1,MapKept.run_setObj_map _ hb,Result.andThen,setBlock]
  · unfold Ents at he ⊢
    simp [he]
theorem map_new (w:World):MapIs (w.alloc (.map #[] 0)) w.heap.size []:=⟨#[],0,(MapKept.heap_alloc w _).1,rfl⟩
end Go.Proofs.YtnclkefddkgojaaGreatDoor

namespace Go.Proofs.YtnclkefddkgojaaGreatDoor
open Go.RowKit Go.Extern.Stop Go.Stop Go.Extern
def tab:List (Int × Int × Int):=[(1,1,3),(2,1,3),(1,2,2),(2,2,2),(2,3,1),(3,4,4),(1,5,5),(2,5,5),(3,5,5),(4,5,5)]
def row (j:Nat):Int × Int × Int:=tab.getD j (0,0,0)
def nxt (p e:Int):Int:=(look tab p e).getD 0
def Says (w:World) (B:Nat):Prop:=∃ l,MapIs w B l∧∀ x,x ∈ l ↔ x ∈ tab
theorem Says.keep {w w':World} {B:Nat} (h:Says w B) (k:Keep w w'):Says w' B:=by
  obtain ⟨l,h1,h2⟩:=h
  exact ⟨l,h1.keep k,h2⟩
theorem tab_look:∀ x ∈ tab,look tab x.1 x.2.1 = some x.2.2:=by decide
theorem look_says {l:List (Int × Int × Int)} (h:∀ x,x ∈ l ↔ x ∈ tab) (p e:Int):look l p e = look tab p e:=by
  cases hl:look l p e with
  | none =>
    refine (look_not fun v hv=>?_).symm
    exact look_none hl v ((h _).2 hv)
  | some v=>exact (tab_look _ ((h _).1 (look_mem hl))).symm
theorem tab_pos:∀ x ∈ tab,1≤x.2.2:=by decide
theorem some_iff (p e:Int):(look tab p e).isSome = decide (nxt p e≠0):=by
  unfold nxt
  cases hl:look tab p e with
  | none=>rfl
  | some v =>
    have:=tab_pos _ (look_mem hl)
    simp at this ⊢
    omega
theorem says_look {w:World} {B:Nat} (h:Says w B) (p e:Int) :
    (Instr.lookup 171 (.map (some B)) (kv p e) true).run Tryz.prog w = .ok (.tuple #[.int .i64 (nxt p e),.bool (decide (nxt p e≠0))]) w:=by
  obtain ⟨l,h1,h2⟩:=h
  rw [map_look h1,look_says h2,some_iff]
  rfl
def opsOf:Option Code→Array Oper
  | some (.seq _ (.seq (.region _ ops _) _))=>ops
  | _=>#[]
noncomputable def chOps:Array Oper:=opsOf Tryz.f107.body
def lst (r:Nat→Bool):Array Bool:=#[true,true,r 0,true,r 1,true,r 2,true,r 3,true,r 4,true,r 5,true,r 6,true,r 7,true,r 8,true,r 9,false,false]
def bit (b:Bool):Nat:=if b then 0 else 1
def cnt (r:Nat→Bool):Nat:=bit (r 0) + bit (r 1) + bit (r 2) + bit (r 3) + bit (r 4) + bit (r 5) + bit (r 6) + bit (r 7) + bit (r 8) + bit (r 9)
def upd (r:Nat→Bool) (j:Nat):Nat→Bool:=fun i=>if i = j then true else r i
theorem cases10 {j:Nat} (h:j < 10):j = 0∨j = 1∨j = 2∨j = 3∨j = 4∨j = 5∨j = 6∨j = 7∨j = 8∨j = 9:=by omega
theorem lst_upd (r:Nat→Bool) {j:Nat} (h:j < 10):(lst r).setIfInBounds (2 * j + 2) true = lst (upd r j):=by
  rcases cases10 h with rfl | rfl | rfl | rfl | rfl | rfl | rfl | rfl | rfl | rfl <;> rfl
theorem cnt_upd (r:Nat→Bool) {j:Nat} (h:j < 10) (hr:r j = false):cnt (upd r j) + 1 = cnt r:=by
  rcases cases10 h with rfl | rfl | rfl | rfl | rfl | rfl | rfl | rfl | rfl | rfl <;> simp [cnt,upd,hr,bit] <;> omega
theorem cnt_zero {r:Nat→Bool} (h:cnt r = 0) {j:Nat} (hj:j < 10):r j = true:=by
  have hb (b:Bool) (h:bit b = 0):b = true:=by cases b <;> simp_all [bit]
  unfold cnt at h
  rcases cases10 hj with rfl | rfl | rfl | rfl | rfl | rfl | rfl | rfl | rfl | rfl <;> exact hb _ (by omega)
theorem lst_all {r:Nat→Bool} (h:cnt r = 0):lst r = lst fun _=>true:=by
  unfold lst
  simp [cnt_zero h]
set_option maxRecDepth 100000 in
theorem lst_ready (r:Nat→Bool):Region.ready .any chOps (lst r) = (([(2,r 0),(4,r 1),(6,r 2),(8,r 3),(10,r 4),(12,r 5),(14,r 6),(16,r 7),(18,r 8),(20,r 9)].filter (fun x=>!x.2)).map (·.1)) ++
    (if r 0 && r 1 && r 2 && r 3 && r 4 && r 5 && r 6 && r 7 && r 8 && r 9 then [21] else []):=by
  unfold lst
  generalize r 0 = b0
  generalize r 1 = b1
  generalize r 2 = b2
  generalize r 3 = b3
  generalize r 4 = b4
  generalize r 5 = b5
  generalize r 6 = b6
  generalize r 7 = b7
  generalize r 8 = b8
  generalize r 9 = b9
  revert b0 b1 b2 b3 b4 b5 b6 b7 b8 b9
  decide +kernel
theorem ins_step {Q:Exit→Act→World→Prop} {next:Act→World→Prop} {a:Act} {w:World} {B:Nat} {l:List (Int × Int × Int)} {p e v:Int} {s:Nat} {o:Oper}
    (hop:o.op = .insert 171 (.tmp 1) (.tmp s) (.const (.int .i64 v))) (hd:o.dst = none) (e1:a.eval (.tmp 1) = .map (some B)) (e2:a.eval (.tmp s) = kv p e)
    (hm:MapIs w B l) (hn:look l p e = none) (K:∀ w',MapIs w' B (l ++ [(p,e,v)])→w.grownBy w' (some B)→next a w'):o.wp Tryz.prog a w next Q:=by
  obtain ⟨w',hrun,h1,h2⟩:=map_put hm p e v hn
  unfold Oper.wp
  have e3:a.eval (.const (.int .i64 v)) = .int .i64 v:=rfl
  simp [execOp,hop,e1,e2,e3,hrun,Result.andThen]
  have:=K w' h1 h2
  simpa [Oper.upon,hd,Act.put] using this
theorem row_inj:∀ i,i < 10→∀ j,j < 10→(row i).1 = (row j).1→(row i).2.1 = (row j).2.1→i = j:=by decide
theorem row_mem:∀ j,j < 10→row j ∈ tab:=by decide
theorem mem_row:∀ x ∈ tab,∃ j,j < 10∧x = row j:=by
  intro x hx
  obtain ⟨j,hj,e⟩:=List.getElem_of_mem hx
  exact ⟨j,hj,by simp [row,List.getD,hj,e]⟩
section
variable {Q:Exit→Act→World→Prop} {a:Act} {B:Nat} {W:World}
theorem fill_step (hB:W.heap.size≤B) (e1:a.eval (.tmp 1) = .map (some B)) (e2:∀ j,j < 10→a.eval (.tmp (j + 2)) = kv (row j).1 (row j).2.1) {n:Nat}
    (ih:∀ r l w,cnt r = n→MapIs w B l→(∀ x,x ∈ l ↔ ∃ j,j < 10∧r j = true∧x = row j)→Keep W w→wpAny Tryz.prog .any chOps Q (n + 2) (lst r) a w)
    {r:Nat→Bool} {l:List (Int × Int × Int)} {w:World} (hc:cnt r = n + 1) (hm:MapIs w B l) (hl:∀ x,x ∈ l ↔ ∃ j,j < 10∧r j = true∧x = row j) (k:Keep W w)
    {j:Nat} (hj:j < 10) (hr:r j = false) {o:Oper} (ho:chOps[2 * j + 2]? = some o) (hop:o.op = .insert 171 (.tmp 1) (.tmp (j + 2)) (.const (.int .i64 (row j).2.2))) (hd:o.dst = none) (hg:o.guard = none) :
    wpOp Tryz.prog chOps Q (2 * j + 2) (wpAny Tryz.prog .any chOps Q (n + 2) ((lst r).setIfInBounds (2 * j + 2) true)) a w:=by
  have hn:look l (row j).1 (row j).2.1 = none:=by
    refine look_not fun v hv=>?_
    obtain ⟨i,hi,hri,he⟩:=(hl _).1 hv
    have h1:(row i).1 = (row j).1:=by rw [← he]
    have h2:(row i).2.1 = (row j).2.1:=by rw [← he]
    obtain rfl:=row_inj i hi j hj h1 h2
    rw [hr] at hri
    cases hri
  unfold wpOp
  rw [ho]
  have hw:Region.wanted o (yielded chOps a.tmps) = true:=by simp [Region.wanted,hg]
  simp only [hw,if_true]
  refine .inl (ins_step hop hd e1 (e2 j hj) hm hn fun w' h1 h2=>?_)
  rw [lst_upd r hj]
  refine ih (upd r j) _ w' (by have:=cnt_upd r hj hr;omega) h1 (fun x=>?_) (Below.grown k h2 k.size (fun i hi=>by cases hi;exact hB))
  rw [List.mem_append,hl]
  constructor
  · rintro (⟨i,hi,hri,rfl⟩ | h)
    · exact ⟨i,hi,by unfold upd;split <;> simp_all,rfl⟩
    · exact ⟨j,hj,by simp [upd],List.mem_singleton.1 h⟩
  · rintro ⟨i,hi,hri,rfl⟩
    by_cases hij:i = j
    · subst hij
      exact .inr (List.mem_singleton.2 rfl)
    · exact .inl ⟨i,hi,by simpa [upd,hij] using hri,rfl⟩
theorem fill (hB:W.heap.size≤B) (e1:a.eval (.tmp 1) = .map (some B)) (e2:∀ j,j < 10→a.eval (.tmp (j + 2)) = kv (row j).1 (row j).2.1)
    (K:∀ w',Says w' B→Keep W w'→wpAny Tryz.prog .any chOps Q 2 (lst fun _=>true) a w') :
    ∀ n r l w,cnt r = n→MapIs w B l→(∀ x,x ∈ l ↔ ∃ j,j < 10∧r j = true∧x = row j)→Keep W w→wpAny Tryz.prog .any chOps Q (n + 2) (lst r) a w:=by
  intro n
  induction n with
  | zero =>
    intro r l w hc hm hl k
    rw [lst_all hc]
    refine K w ⟨l,hm,fun x=>?_⟩ k
    rw [hl]
    constructor
    · rintro ⟨j,hj,_,rfl⟩
      exact row_mem j hj
    · intro hx
      obtain ⟨j,hj,rfl⟩:=mem_row x hx
      exact ⟨j,hj,cnt_zero hc hj,rfl⟩
  | succ n ih =>
    intro r l w hc hm hl k
    show (Region.ready .any chOps (lst r) = []→Q .normal a w)∧∀ i ∈ Region.ready .any chOps (lst r),wpOp Tryz.prog chOps Q i (wpAny Tryz.prog .any chOps Q (n + 2) ((lst r).setIfInBounds i true)) a w
    have hall:(r 0 && r 1 && r 2 && r 3 && r 4 && r 5 && r 6 && r 7 && r 8 && r 9) = false:=by
      cases h:(r 0 && r 1 && r 2 && r 3 && r 4 && r 5 && r 6 && r 7 && r 8 && r 9) with
      | false=>rfl
      | true =>
        simp only [Bool.and_eq_true] at h
        obtain ⟨⟨⟨⟨⟨⟨⟨⟨⟨h0,h1⟩,h2⟩,h3⟩,h4⟩,h5⟩,h6⟩,h7⟩,h8⟩,h9⟩:=h
        rw [cnt,h0,h1,h2,h3,h4,h5,h6,h7,h8,h9] at hc
        cases hc
    have hst {j:Nat} (hj:j < 10) (hr:r j = false) {o:Oper} (ho:chOps[2 * j + 2]? = some o) (hop:o.op = .insert 171 (.tmp 1) (.tmp (j + 2)) (.const (.int .i64 (row j).2.2))) (hd:o.dst = none) (hg:o.guard = none) :=
      fill_step (Q:=Q) hB e1 e2 ih hc hm hl k hj hr ho hop hd hg
    rw [lst_ready,hall]
    refine ⟨fun h=>?_,fun i hi=>?_⟩
    · exfalso
      simp only [Bool.false_eq_true,if_false,List.append_nil,List.map_eq_nil_iff,List.filter_eq_nil_iff] at h
      have hb (b:Bool) (h:¬ (!b) = true):bit b = 0:=by cases b <;> simp_all [bit]
      have:=hb (r 0) (h (2,r 0) (by simp))
      have:=hb (r 1) (h (4,r 1) (by simp))
      have:=hb (r 2) (h (6,r 2) (by simp))
      have:=hb (r 3) (h (8,r 3) (by simp))
      have:=hb (r 4) (h (10,r 4) (by simp))
      have:=hb (r 5) (h (12,r 5) (by simp))
      have:=hb (r 6) (h (14,r 6) (by simp))
      have:=hb (r 7) (h (16,r 7) (by simp))
      have:=hb (r 8) (h (18,r 8) (by simp))
      have:=hb (r 9) (h (20,r 9) (by simp))
      unfold cnt at hc
      omega
    · simp only [Bool.false_eq_true,if_false,List.append_nil,List.mem_map,List.mem_filter] at hi
      obtain ⟨⟨i',b⟩,⟨hm',hb⟩,rfl⟩:=hi
      simp only [List.mem_cons,List.not_mem_nil,or_false,Prod.mk.injEq] at hm'
      simp only [Bool.not_eq_true'] at hb
      subst hb
      rcases hm' with ⟨rfl,h⟩ | ⟨rfl,h⟩ | ⟨rfl,h⟩ | ⟨rfl,h⟩ | ⟨rfl,h⟩ | ⟨rfl,h⟩ | ⟨rfl,h⟩ | ⟨rfl,h⟩ | ⟨rfl,h⟩ | ⟨rfl,h⟩
      · exact hst (j:=0) (by omega) h.symm rfl rfl rfl rfl
      · exact hst (j:=1) (by omega) h.symm rfl rfl rfl rfl
      · exact hst (j:=2) (by omega) h.symm rfl rfl rfl rfl
      · exact hst (j:=3) (by omega) h.symm rfl rfl rfl rfl
      · exact hst (j:=4) (by omega) h.symm rfl rfl rfl rfl
      · exact hst (j:=5) (by omega) h.symm rfl rfl rfl rfl
      · exact hst (j:=6) (by omega) h.symm rfl rfl rfl rfl
      · exact hst (j:=7) (by omega) h.symm rfl rfl rfl rfl
      · exact hst (j:=8) (by omega) h.symm rfl rfl rfl rfl
      · exact hst (j:=9) (by omega) h.symm rfl rfl rfl rfl
end
end Go.Proofs.YtnclkefddkgojaaGreatDoor

namespace Go.Proofs.YtnclkefddkgojaaGreatDoor
open Go.RowKit Go.Extern.Stop Go.Stop Go.Extern
theorem changes_fn (w:World):Calls Tryz.prog 107 #[] w fun e w'=>∃ B,e = .returned (.map (some B))∧Says w' B∧Keep w w':=by
  go_enter Tryz.func107,Tryz.ntmps107
  go_wp2
  refine wp_region_any (by kernel_rfl) ?_
  change wpAny _ _ _ _ _ _ _ (World.drew _)
  refine wpAny_take (i:=1) (v:=.agg #[.int .i64 1,.int .i64 1]) rfl (by kernel_rfl) (by kernel_rfl) (by kernel_rfl) (fun _ _ _ h=>h) (Or.inl ⟨by rfl,by intro w;go_simp⟩) ?_
  refine wpAny_take (i:=3) (v:=.agg #[.int .i64 2,.int .i64 1]) rfl (by kernel_rfl) (by kernel_rfl) (by kernel_rfl) (fun _ _ _ h=>h) (Or.inl ⟨by rfl,by intro w;go_simp⟩) ?_
  refine wpAny_take (i:=5) (v:=.agg #[.int .i64 1,.int .i64 2]) rfl (by kernel_rfl) (by kernel_rfl) (by kernel_rfl) (fun _ _ _ h=>h) (Or.inl ⟨by rfl,by intro w;go_simp⟩) ?_
  refine wpAny_take (i:=7) (v:=.agg #[.int .i64 2,.int .i64 2]) rfl (by kernel_rfl) (by kernel_rfl) (by kernel_rfl) (fun _ _ _ h=>h) (Or.inl ⟨by rfl,by intro w;go_simp⟩) ?_
  refine wpAny_take (i:=9) (v:=.agg #[.int .i64 2,.int .i64 3]) rfl (by kernel_rfl) (by kernel_rfl) (by kernel_rfl) (fun _ _ _ h=>h) (Or.inl ⟨by rfl,by intro w;go_simp⟩) ?_
  refine wpAny_take (i:=11) (v:=.agg #[.int .i64 3,.int .i64 4]) rfl (by kernel_rfl) (by kernel_rfl) (by kernel_rfl) (fun _ _ _ h=>h) (Or.inl ⟨by rfl,by intro w;go_simp⟩) ?_
  refine wpAny_take (i:=13) (v:=.agg #[.int .i64 1,.int .i64 5]) rfl (by kernel_rfl) (by kernel_rfl) (by kernel_rfl) (fun _ _ _ h=>h) (Or.inl ⟨by rfl,by intro w;go_simp⟩) ?_
  refine wpAny_take (i:=15) (v:=.agg #[.int .i64 2,.int .i64 5]) rfl (by kernel_rfl) (by kernel_rfl) (by kernel_rfl) (fun _ _ _ h=>h) (Or.inl ⟨by rfl,by intro w;go_simp⟩) ?_
  refine wpAny_take (i:=17) (v:=.agg #[.int .i64 3,.int .i64 5]) rfl (by kernel_rfl) (by kernel_rfl) (by kernel_rfl) (fun _ _ _ h=>h) (Or.inl ⟨by rfl,by intro w;go_simp⟩) ?_
  refine wpAny_take (i:=19) (v:=.agg #[.int .i64 4,.int .i64 5]) rfl (by kernel_rfl) (by kernel_rfl) (by kernel_rfl) (fun _ _ _ h=>h) (Or.inl ⟨by rfl,by intro w;go_simp⟩) ?_
  refine wpAny_ready (rs:=[0]) (by kernel_rfl) (by simp) ?_
  refine AllReady.cons rfl (fun K hK=>?_) AllReady.nil
  go_simp
  refine hK _ _ ?_
  clear hK K
  have h0:Keep w (w.drew.alloc (.map #[] 0)):=(Keep.refl w).drew.alloc _
  have hm:=map_new w.drew
  refine fill (W:=w) (B:=w.heap.size) (Nat.le_refl _) rfl (fun j hj=>?_) (fun w' hs hk=>?_) 10 (fun _=>false) [] _ rfl hm (fun x=>?_) h0
  · rcases cases10 hj with rfl | rfl | rfl | rfl | rfl | rfl | rfl | rfl | rfl | rfl <;> rfl
  · clear h0 hm
    refine wpAny_take (i:=21) (v:=.map (some w.heap.size)) rfl (by kernel_rfl) (by kernel_rfl) (by kernel_rfl) (fun _ _ _ h=>h) (Or.inl ⟨by rfl,fun _=>rfl⟩) ?_
    refine wpAny_take (i:=22) (v:=.map (some w.heap.size)) rfl (by kernel_rfl) (by kernel_rfl) (by kernel_rfl) (fun _ _ _ h=>h) (Or.inl ⟨by rfl,fun _=>rfl⟩) ?_
    refine wpAny_done (by kernel_rfl) ?_ _
    go_wp2
    go_ret
    exact ⟨_,rfl,hs,hk⟩
  · simp
end Go.Proofs.YtnclkefddkgojaaGreatDoor

namespace Go.Proofs.YtnclkefddkgojaaGreatDoor
open Go.RowKit Go.Extern.Stop Go.Stop Go.Extern
theorem next_fn (p e:Int) (w:World):Calls Tryz.prog 87 #[.int .i64 p,.int .i64 e] w fun r w'=>r = .returned (.tuple #[.int .i64 (nxt p e),.bool (decide (nxt p e≠0))])∧Keep w w':=by
  go_enter Tryz.func87,Tryz.ntmps87
  go_wp2_with fail
  refine (changes_fn w).mono ?_
  rintro r w1 ⟨B,rfl,hs,k⟩
  have hl:=says_look hs p e
  unfold kv at hl
  obtain ⟨x,hx⟩:∃ x,x = nxt p e:=⟨_,rfl⟩
  obtain ⟨y,hy⟩:∃ y,y = decide (nxt p e≠0):=⟨_,rfl⟩
  rw [← hy,← hx] at hl
  replace hx:=Lib.hid hx
  replace hy:=Lib.hid hy
  replace hs:=Lib.hid hs
  replace k:=Lib.hid k
  go_wp2
  go_ret2
  exact ⟨by rw [← hy.out,← hx.out];rfl,k.out⟩
end Go.Proofs.YtnclkefddkgojaaGreatDoor

namespace Go.Proofs.YtnclkefddkgojaaGreatDoor.T13
open Go.RowKit Go.Sort Go.Lib V12
set_option maxRecDepth 100000 in
theorem nxt_nx (p e:Int):nxt p e = nx p e:=by
  by_cases h:(1≤p∧p≤4)∧(1≤e∧e≤5)
  · obtain ⟨⟨h1,h2⟩,h3,h4⟩:=h
    have hp:p = 1∨p = 2∨p = 3∨p = 4:=by omega
    have he:e = 1∨e = 2∨e = 3∨e = 4∨e = 5:=by omega
    rcases hp with rfl | rfl | rfl | rfl <;> rcases he with rfl | rfl | rfl | rfl | rfl <;> decide
  · have h1:look tab p e = none:=look_not fun v hv=>h (by
      have hall:∀ x ∈ tab,(1≤x.1∧x.1≤4)∧(1≤x.2.1∧x.2.1≤5):=by decide
      exact hall _ hv)
    have h2:nx p e = 0:=by
      unfold nx
      repeat' split
      all_goals first | rfl | (exfalso;omega)
    rw [h2]
    unfold nxt
    rw [h1]
    rfl
theorem pdnext_fn (p e:Int) (w:World):Calls Tryz.prog 87 #[.int .i64 p,.int .i64 e] w fun r w'=>r = .returned (.tuple #[.int .i64 (nx p e),.bool (decide (nx p e≠0))])∧Keep w w':=by
  rw [← nxt_nx]
  exact next_fn p e w
theorem podCs_set {P:Nat→PodV} {n j i:Nat} (hj:j < n) (hi:i < 9) {x:PodV} {u:Value} (hx:x.cells = (P j).cells.set i u):podCs (put P j x) n = (podCs P n).set (j * 9 + i) u:=by
  refine List.ext_getElem? fun t=>?_
  rw [List.getElem?_set]
  by_cases ht:t < n * 9
  · have h1:t / 9 < n:=by omega
    have h2:t % 9 < 9:=Nat.mod_lt _ (by omega)
    have e1:=podCs_get (put P j x) n (t / 9) (t % 9) h1 h2
    have e2:=podCs_get P n (t / 9) (t % 9) h1 h2
    rw [show t / 9 * 9 + t % 9 = t by omega] at e1 e2
    rw [e1,e2,podCs_len]
    by_cases e:t / 9 = j
    · rw [e,put_at,hx,List.getElem?_set,cells9]
      by_cases e3:i = t % 9
      · rw [if_pos e3,if_pos hi,if_pos (by omega),if_pos (by omega)]
      · rw [if_neg e3,if_neg (by omega)]
    · rw [put_ne _ _ _ e,if_neg (by omega)]
  · rw [List.getElem?_eq_none (by rw [podCs_len];omega),podCs_len,if_neg (by omega),List.getElem?_eq_none (by rw [podCs_len];omega)]
theorem RowP.field {w:World} {b0 g c n j i:Nat} {P:Nat→PodV} (h:RowP w b0 (.slice (some ⟨g,0,none⟩) n c) n P) (hj:j < n) (hi:i < 9) {x:PodV} {u:Value} (hx:x.cells = (P j).cells.set i u) (hr:x.A = (P j).A∧x.m = (P j).m∧x.c = (P j).c∧x.Z = (P j).Z) (ok:PodOk x):RowP (w.setCell ⟨g,j * 9 + i,none⟩ u) b0 (.slice (some ⟨g,0,none⟩) n c) n (put P j x) where
  row:=by rw [podCs_set hj hi hx];exact (h.row.stored (j * 9 + i) u).1
  own:=fun t ht=>by
    have key:∀ s,s < n→Req (w.setCell ⟨g,j * 9 + i,none⟩ u) b0 (P s):=fun s hs=>own_blocks1 (h.own s hs) fun k hk=>Below.heap_setCell _ _ _ _ fun e=>by
      have:=typ_one (own_typ (h.own s hs) hk) (e ▸ own_typ h.row rfl)
      exact absurd this (by decide)
    by_cases e:t = j
    · subst e
      rw [put_at]
      have:=key t hj
      unfold Req at this ⊢
      rw [hr.1,hr.2.1,hr.2.2.1,hr.2.2.2]
      exact this
    · rw [put_ne _ _ _ e];exact key t ht
  ok:=fun t ht=>by
    by_cases e:t = j
    · subst e;rw [put_at];exact ok
    · rw [put_ne _ _ _ e];exact h.ok t ht
theorem put_twice (P:Nat→PodV) (j:Nat) (x y:PodV):put (put P j x) j y = put P j y:=by
  funext t
  unfold put
  split <;> rfl
def chg (x:PodV) (h d t:Int):PodV:={ x with h:=h,d:=d,t:=t }
theorem chg_ok {x:PodV} (o:PodOk x) {h d t:Int} (h1:I64 h) (h2:I64 d) (h3:I64 t):PodOk (chg x h d t):=⟨o.small,o.range,o.nil,o.rng.1,o.rng.2.1,o.rng.2.2.1,o.rng.2.2.2.1,h1,h2,h3⟩
theorem RowP.chg6 {w:World} {b0 g c n j:Nat} {P:Nat→PodV} (h:RowP w b0 (.slice (some ⟨g,0,none⟩) n c) n P) (hj:j < n) {a:Int} (ha:I64 a):RowP (w.setCell ⟨g,j * 9 + 6,none⟩ (.int .i64 a)) b0 (.slice (some ⟨g,0,none⟩) n c) n (put P j (chg (P j) a (P j).d (P j).t)) :=
  h.field hj (by omega) rfl ⟨rfl,rfl,rfl,rfl⟩ (chg_ok (h.ok j hj) ha (h.ok j hj).rng.2.2.2.2.2.1 (h.ok j hj).rng.2.2.2.2.2.2)
theorem RowP.chg7 {w:World} {b0 g c n j:Nat} {P:Nat→PodV} (h:RowP w b0 (.slice (some ⟨g,0,none⟩) n c) n P) (hj:j < n) {a:Int} (ha:I64 a):RowP (w.setCell ⟨g,j * 9 + 7,none⟩ (.int .i64 a)) b0 (.slice (some ⟨g,0,none⟩) n c) n (put P j (chg (P j) (P j).h a (P j).t)) :=
  h.field hj (by omega) rfl ⟨rfl,rfl,rfl,rfl⟩ (chg_ok (h.ok j hj) (h.ok j hj).rng.2.2.2.2.1 ha (h.ok j hj).rng.2.2.2.2.2.2)
theorem RowP.chg8 {w:World} {b0 g c n j:Nat} {P:Nat→PodV} (h:RowP w b0 (.slice (some ⟨g,0,none⟩) n c) n P) (hj:j < n) {a:Int} (ha:I64 a):RowP (w.setCell ⟨g,j * 9 + 8,none⟩ (.int .i64 a)) b0 (.slice (some ⟨g,0,none⟩) n c) n (put P j (chg (P j) (P j).h (P j).d a)) :=
  h.field hj (by omega) rfl ⟨rfl,rfl,rfl,rfl⟩ (chg_ok (h.ok j hj) (h.ok j hj).rng.2.2.2.2.1 (h.ok j hj).rng.2.2.2.2.2.1 ha)
theorem RowP.set3 {w:World} {b0 g c n j:Nat} {P:Nat→PodV} (h:RowP w b0 (.slice (some ⟨g,0,none⟩) n c) n P) (hj:j < n) {a d:Int} (ha:I64 a) (hd:I64 d):RowP (((w.setCell ⟨g,j * 9 + 6,none⟩ (.int .i64 a)).setCell ⟨g,j * 9 + 8,none⟩ (.int .i64 (-1))).setCell ⟨g,j * 9 + 7,none⟩ (.int .i64 d)) b0 (.slice (some ⟨g,0,none⟩) n c) n (put P j (chg (P j) a d (-1))):=by
  have h1:=((h.chg6 hj ha).chg8 hj (a:=-1) (by unfold I64;omega)).chg7 hj hd
  simp only [put_at,put_twice] at h1
  exact h1
theorem RowP.setT {w:World} {b0 g c n j:Nat} {P:Nat→PodV} (h:RowP w b0 (.slice (some ⟨g,0,none⟩) n c) n P) (hj:j < n) {a t:Int} (ha:I64 a) (ht:I64 t):RowP (((w.setCell ⟨g,j * 9 + 6,none⟩ (.int .i64 a)).setCell ⟨g,j * 9 + 8,none⟩ (.int .i64 (-1))).setCell ⟨g,j * 9 + 8,none⟩ (.int .i64 t)) b0 (.slice (some ⟨g,0,none⟩) n c) n (put P j (chg (P j) a (P j).d t)):=by
  have h1:=((h.chg6 hj ha).chg8 hj (a:=-1) (by unfold I64;omega)).chg8 hj ht
  simp only [put_at,put_twice] at h1
  exact h1
theorem fr_set3 {w:World} {D:Nat→Prop} {g i1 i2 i3:Nat} {u1 u2 u3:Value} (hD:D g):Fr D w (((w.setCell ⟨g,i1,none⟩ u1).setCell ⟨g,i2,none⟩ u2).setCell ⟨g,i3,none⟩ u3) :=
  (((Fr.refl D w).set (by left;exact hD) u1).set (by left;exact hD) u2).set (by left;exact hD) u3
section
variable {w w':World} {b0:Nat} {s:Int} {q t m:Nat} {A:Option Addr} {c n:Nat} {P:Nat→PodV}
theorem lst_app (h:ST w b0 s q t m A c n P) {j:Nat} (hj:j < n) {e nd dl:Int} (hx:nx (P j).h e≠0):(lst (put P j (appP (P j) e nd dl)) n).map nm = appL ((lst P n).map nm) (P j).k e nd dl∧appC ((lst P n).map nm) (P j).k e = 0:=by
  have hc:appC ((lst P n).map nm) (P j).k e = 0:=by
    unfold appC
    rw [keys_nm,← get_nm,h.get hj,if_neg (not_not_intro (key_in hj)),if_neg (show ¬ nx (nm (P j)).h e = 0 from hx)]
  refine ⟨?_,hc⟩
  unfold appL
  rw [if_pos hc]
  unfold lst
  rw [List.map_map,List.map_map,List.map_map]
  refine List.map_congr_left fun i hi=>?_
  show nm (put P j (appP (P j) e nd dl) i) = if (nm (P i)).k = (P j).k then appP (nm (P i)) e nd dl else nm (P i)
  by_cases e1:i = j
  · rw [e1,put_at,nm_k,if_pos rfl,nm_app]
  · rw [put_ne _ _ _ e1,nm_k,if_neg fun e2=>e1 (h.uniq (List.mem_range.1 hi) hj e2)]
theorem ST.app (h:ST w b0 s q t m A c n P) {j:Nat} (hj:j < n) {e nd dl:Int} (hx:nx (P j).h e≠0) (f:Fr (fun i=>(Value.slice A n c).ownBlock = some i) w w') (hr:RowP w' b0 (.slice A n c) n (put P j (appP (P j) e nd dl))):ST w' b0 s q t m A c n (put P j (appP (P j) e nd dl)):=by
  have nq:¬ (Value.slice A n c).ownBlock = some q:=fun e=>absurd (typ_one (h.tg e) h.tq) (by decide)
  have nt:¬ (Value.slice A n c).ownBlock = some t:=fun e=>absurd (typ_one (h.tg e) h.tt) (by decide)
  have nm':¬ (Value.slice A n c).ownBlock = some m:=fun e=>h.offT (h.tg e) rfl
  have ep:prs (put P j (appP (P j) e nd dl)) n = prs P n:=prs_congr fun i hi=>by
    by_cases e1:i = j
    · rw [e1,put_at];rfl
    · rw [put_ne _ _ _ e1]
  refine ⟨(f.block _ (lt_blk h.hq) nq).trans h.hq,?_,hr,h.bq,h.bt,h.bm,?_⟩
  · rw [ep];exact h.tb.fr f nt nm'
  · rw [(lst_app h hj hx).1]
    exact appL_ok h.lk
end
end Go.Proofs.YtnclkefddkgojaaGreatDoor.T13

