/-
  A map of numbers to values: a value put in place of another; a table's blocks. No condition.
  The methods of a table of pointers but IDs. No condition.
  The store's memory: its struct, its table with its map, its entries. No condition.
  maps.Keys and its iterator, over a map as a list of pairs. No condition.
  The ids of a table, in ascending order. No condition.
-/
import Derived.Test.YtclfbplbccehkaaGreatDoorD24
import Derived.Test.YtclfbplbccehkaaGreatDoorD23
import Derived.Maps.OwnSet
import Derived.Deep.RegionWith
import Derived.RangeFuncNested
import Derived.RangeFuncBound
import Derived.RangeFuncCalls
import Derived.RangeFuncLeaves
import Derived.Shelf.Abstract
import Derived.Shelf.AbstractIn
import Derived.Shelf.RegionOpen
import Derived.WalkKit
import Derived.OwnWalkIn
import Derived.TacticsInMore
import Derived.LoopNIn
import Derived.LoopIn
import Derived.RegionIn
import Derived.RangeFuncSeq
import Derived.RangeFuncStops
import Derived.RangeFuncFrom
import Derived.Sort.MapsRangeIn
import Derived.Lib.SlKeysI
import Derived.Maps.AppendAt
import Derived.RangeFuncBox
namespace Go.Proofs.YtclfbplbccehkaaGreatDoor
open Go.RowKit Go.Extern.Stop Go.Stop Go.Extern
open Go.ChangeMaps (setBlock)
namespace MV
def repV (l:List (Int × Value)) (k:Int) (v:Value):List (Int × Value):=l.map fun x=>if x.1 = k then (k,v) else x
theorem repV_keys (l:List (Int × Value)) (k:Int) (v:Value):(repV l k v).map (·.1) = l.map (·.1):=by
  unfold repV
  rw [List.map_map]
  refine List.map_congr_left fun x _=>?_
  show (if x.1 = k then (k,v) else x).1 = x.1
  split
  · exact Eq.symm (by assumption)
  · rfl
theorem repV_modify (k:Int) (v:Value):∀ (l:List (Int × Value)) (j:Nat) (x:Int × Value),(l.map (·.1)).Nodup→l[j]? = some x→x.1 = k→repV l k v = l.modify j fun _=>(k,v)
  | [],j,x,_,h,_=>by simp at h
  | y :: r,0,x,hn,h,hk=>by
    simp only [List.getElem?_cons_zero,Option.some.injEq] at h
    subst h
    rw [List.map_cons,List.nodup_cons] at hn
    show (if y.1 = k then (k,v) else y) :: repV r k v = (k,v) :: r
    rw [if_pos hk]
    congr 1
    unfold repV
    conv=>rhs;rw [← List.map_id r]
    refine List.map_congr_left fun z hz=>?_
    rw [if_neg (fun e=>hn.1 (by rw [hk,← e];exact List.mem_map_of_mem (f:=(·.1)) hz))]
    rfl
  | y :: r,j + 1,x,hn,h,hk=>by
    simp only [List.getElem?_cons_succ] at h
    rw [List.map_cons,List.nodup_cons] at hn
    show (if y.1 = k then (k,v) else y) :: repV r k v = y :: r.modify j fun _=>(k,v)
    rw [repV_modify k v r j x hn.2 h hk,if_neg]
    intro e
    exact hn.1 (by rw [e,← hk];exact List.mem_map_of_mem (f:=(·.1)) (List.mem_of_getElem? h))
theorem modify_map {α β:Type} (f:α→β) (g:α→α) (h:β→β) (e:∀ x,f (g x) = h (f x)):∀ (l:List α) (j:Nat),(l.modify j g).map f = (l.map f).modify j h
  | [],j=>by cases j <;> rfl
  | x :: r,0=>by show f (g x) :: r.map f = h (f x) :: r.map f;rw [e]
  | x :: r,j + 1=>by
    show f x :: (r.modify j g).map f = f x :: (r.map f).modify j h
    rw [modify_map f g h e r j]
section
variable {P:Program} {tM tK tE:TypeId} (ht:P.underlying tM = some (.map tK tE)) (hk:P.underlying tK = some (.int .i64))
include ht hk
theorem put_old {w:World} {B:Nat} {l:List (Int × Value)} (h:Is w B l) (k:Int) (v:Value) (hm:k ∈ l.map (·.1)) :
    ∃ o,Obj' o (repV l k v)∧∀ W:World,W.heap[B]? = w.heap[B]?→(Instr.mapUpdate tM (.map (some B)) (.int .i64 k) v).run P W = .ok () (setBlock W B o):=by
  obtain ⟨o,hb,es,c,rfl,h3,h4,h5,h6⟩:=h
  obtain ⟨r,h7,h8,h9⟩:=find_v k l es.toList 0 h3
  cases r with
  | none=>exact absurd (look_none.1 (by simpa using h8.symm)) (fun e=>e hm)
  | some y =>
    obtain ⟨j,hj,x,hx,hxk⟩:=h9 y rfl
    obtain ⟨j',yv⟩:=y
    have hj:j' = j:=by simpa using hj
    subst hj
    refine ⟨.map (es.modify j' fun e=>{ e with key:=iv k,val:=v }) c,⟨_,_,rfl,?_,?_,?_,?_⟩,fun W hW=>?_⟩
    · unfold Ent at h3 ⊢
      rw [Array.toList_modify,modify_map (fun x:MapEntry=>(x.key,x.val)) (fun e=>{ e with key:=iv k,val:=v }) (fun _=>(iv k,v)) (fun _=>rfl),h3,repV_modify k v l j' x h4 hx hxk,modify_map (fun x:Int × Value=>(iv x.1,x.2)) (fun _=>(k,v)) (fun _=>(iv k,v)) (fun _=>rfl)]
    · rw [repV_keys];exact h4
    · rw [Array.toList_modify,modify_map (fun x:MapEntry=>x.born) (fun e=>{ e with key:=iv k,val:=v }) id (fun _=>rfl),List.modify_id];exact h5
    · intro e he
      rw [Array.toList_modify] at he
      have hb:e.born ∈ (es.toList.modify j' fun e=>{ e with key:=iv k,val:=v }).map (·.born):=List.mem_map_of_mem (f:=(·.born)) he
      rw [modify_map (fun x:MapEntry=>x.born) (fun e=>{ e with key:=iv k,val:=v }) id (fun _=>rfl),List.modify_id] at hb
      obtain ⟨z,hz,hzb⟩:=List.mem_map.1 hb
      rw [← hzb]
      exact h6 z hz
    · have hc:(Instr.checkKey false 10000 tK (.int .i64 k)).run P W = .ok () W:=MapKept.run_checkKey (P:=P) (w:=W) hk (k:=iv k) rfl false 9999
      have hf:(Instr.findKey tK (.int .i64 k) es.toList).run P W = .ok (some (j',yv)) W:=MapKept.run_findKey (P:=P) (w:=W) hk h7
      have hB:=hW.trans hb
      have hold:((es[j']?).map (·.key)).getD (.int .i64 k) = .int .i64 k:=by
        have h9:(es.toList.map (fun x=>(x.key,x.val)))[j']? = (l.map (fun x=>(iv x.1,x.2)))[j']?:=by rw [h3]
        rw [List.getElem?_map,List.getElem?_map,hx] at h9
        simp only [Array.getElem?_toList,Option.map_some] at h9
        cases he:es[j']? with
        | none=>rfl
        | some y =>
          rw [he] at h9
          simp only [Option.map_some,Option.some.injEq,Prod.mk.injEq] at h9
          simp [h9.1,hxk,iv]
      have hkeep:(Instr.keyThatStays (.int .i64 k) (.int .i64 k)).run P W = .ok (.int .i64 k) W:=by
        simp [Instr.keyThatStays,Instr.sameBits]
      simp [Instr.mapUpdate,run_underlying ht,MapKept.run_getObj_map hB,hc,hf,hold,hkeep,MapKept.run_setObj_map _ hB,Result.andThen,setBlock,iv]
end
theorem Is.length_le {w:World} {B:Nat} {l:List (Int × Value)} (h:Is w B l):∃ es c,w.heap[B]? = some (.map es c)∧es.size = l.length:=by
  obtain ⟨o,hb,es,c,rfl,h3,_⟩:=h
  refine ⟨es,c,hb,?_⟩
  have:=congrArg List.length h3
  simpa using this
theorem heap_setBlock {w:World} {B:Nat} {o:Obj} (h:B < w.heap.size):(setBlock w B o).heap[B]? = some o:=by
  simp [setBlock,h]
theorem heap_setBlock_ne {w:World} {B k:Nat} {o:Obj} (h:k≠B):(setBlock w B o).heap[k]? = w.heap[k]?:=by
  simp [setBlock,Ne.symm h]
end MV
namespace T12
theorem Fr.put {D:Nat→Prop} {a b:World} (h:Fr D a b) {B:Nat} (hp:D B∨a.heap.size≤B) (o:Obj):Fr D a (setBlock b B o) :=
  ⟨h.os,h.tape,h.output,by simp [setBlock];exact h.size,fun k hk hn=>by
    rw [MV.heap_setBlock_ne (fun e=>hp.elim (fun h=>hn (by rw [e];exact h)) (fun h=>absurd h (by omega)))];exact h.block k hk hn⟩
structure TM (ty:TypeId) (w:World) (s:Int) (p m:Nat) (l:List (Int × Value)):Prop where
  hp:w.heap[p]? = some (.cells #[.int .i64 s,.map (some m)] ty (0,0))
  mp:MV.Is w m l
  lo:0≤s
  hi:s≤9223372036854775807
  len:(l.length:Int)≤s
section
variable {ty:TypeId} {w w':World} {s:Int} {p m:Nat} {l:List (Int × Value)}
theorem TM.plt (h:TM ty w s p m l):p < w.heap.size:=(Array.getElem?_eq_some_iff.1 h.hp).1
theorem TM.mlt (h:TM ty w s p m l):m < w.heap.size:=h.mp.lt
theorem TM.ne (h:TM ty w s p m l):p≠m:=by
  rintro rfl
  obtain ⟨o,hb,es,c,rfl,_⟩:=h.mp
  rw [h.hp] at hb
  cases hb
theorem TM.e0 (h:TM ty w s p m l):w.cell? ⟨p,0,none⟩ = some (.int .i64 s):=by rw [cell_of_row w _ _ _ _ _ h.hp];rfl
theorem TM.e1 (h:TM ty w s p m l):w.cell? ⟨p,0 + 1,none⟩ = some (.map (some m)):=by rw [cell_of_row w _ _ _ _ _ h.hp];rfl
theorem TM.keep (h:TM ty w s p m l) (k:Keep w w'):TM ty w' s p m l:=⟨k.block h.hp,h.mp.of (Below.block k _ h.mlt),h.lo,h.hi,h.len⟩
theorem TM.fr (h:TM ty w s p m l) {E:Nat→Prop} (f:Fr E w w') (h1:¬ E p) (h2:¬ E m):TM ty w' s p m l :=
  ⟨(f.block _ h.plt h1).trans h.hp,h.mp.of (f.block _ h.mlt h2),h.lo,h.hi,h.len⟩
theorem TM.put (h:TM ty w s p m l) (k:Keep w w') {o:Obj} {l':List (Int × Value)} (ho:MV.Obj' o l') (hl:(l'.length:Int)≤s):TM ty (setBlock w' m o) s p m l'∧Fr (· = m) w (setBlock w' m o):=by
  have h':=h.keep k
  exact ⟨⟨by rw [MV.heap_setBlock_ne h.ne];exact h'.hp,⟨o,MV.heap_setBlock h'.mlt,ho⟩,h.lo,h.hi,hl⟩,Fr.put (D:=(· = m)) (Fr.of k) (by left;rfl) _⟩
end
end T12
end Go.Proofs.YtclfbplbccehkaaGreatDoor

namespace Go.Proofs.YtclfbplbccehkaaGreatDoor.T12
open Go.RowKit Go.Lib Go.Extern
open Go.ChangeMaps (setBlock)
abbrev TMN:=TM 171
theorem Tryz.ztn (w:World):(zeroValue 131).run Tryz.prog w = .ok (.pointer none) w:=by kernel_rfl
def err (c:Int):Value:=.iface 108 (.int .i64 c)
set_option maxHeartbeats 1000000 in
theorem tnnew_fn (s:Int) (hs:I64 s) (w:World):Calls Tryz.prog 81 #[.int .i64 s] w fun e w'=>∃ p,e = .returned (.pointer (some ⟨p,0,none⟩))∧∃ m,TMN w' (if 0≤s then s else 0) p m []∧Keep w w'∧w.heap.size≤p∧w.heap.size≤m:=by
  have hmm:=@run_makeMap Tryz.prog
  have hs':=Lib.hid hs
  clear hs
  by_cases h0:0≤s
  · rw [if_pos h0]
    have hb1:decide (0≤s) = true:=decide_eq_true h0
    have hb2:decide (s < 0) = false:=decide_eq_false (by omega)
    have hb3:decide (0 < s) = true∨s = 0:=by by_cases h:0 < s;exact .inl (decide_eq_true h);exact .inr (by omega)
    have hm:max s 0 = s:=by omega
    go_enter Tryz.func81,Tryz.ntmps81
    go_wp2
    try simp only [hm]
    go_ret
    refine ⟨_,rfl,_,⟨?_,(MV.is_new w).of (Below.block (Keep.one (w.alloc (.map #[] 0)) _) _ (by rw [World.size_alloc];omega)),h0,hs'.out.2,by simpa using h0⟩,(Keep.one _ _).alloc _,by simp,by omega⟩
    have:=heap_alloc_new (w.alloc (.map #[] 0)) (.cells #[.int .i64 s,.map (some w.heap.size)] 171)
    rwa [World.size_alloc] at this
  · rw [if_neg h0]
    have hb1:decide (0≤s) = false:=decide_eq_false h0
    have hb2:decide (s < 0) = true:=decide_eq_true (by omega)
    have hb3:decide (0 < s) = false:=decide_eq_false (by omega)
    have hm:max s 0 = 0:=by omega
    go_enter Tryz.func81,Tryz.ntmps81
    go_wp2
    try simp only [hm]
    go_ret
    refine ⟨_,rfl,_,⟨?_,(MV.is_new w).of (Below.block (Keep.one (w.alloc (.map #[] 0)) _) _ (by rw [World.size_alloc];omega)),by omega,by omega,by simp⟩,(Keep.one _ _).alloc _,by simp,by omega⟩
    have:=heap_alloc_new (w.alloc (.map #[] 0)) (.cells #[.int .i64 0,.map (some w.heap.size)] 171)
    rwa [World.size_alloc] at this
section
variable {w:World} {s:Int} {p m:Nat} {l:List (Int × Value)}
theorem len_runN (h:TMN w s p m l) (ty:TypeId) (W:World) (hW:W.heap[m]? = w.heap[m]?):(Builtin.len_ #[169] ty #[.map (some m)]).run Tryz.prog W = .ok (.int .i64 l.length) W:=by
  obtain ⟨es,c,hb,hl⟩:=(h.mp.of hW).length_le
  rw [← hl]
  simp [Builtin.len_,MapKept.run_getObj_map hb,go_sem]
set_option maxHeartbeats 1000000 in
theorem tnroom_fn (h:TMN w s p m l):Calls Tryz.prog 107 #[.pointer (some ⟨p,0,none⟩)] w fun e w'=>e = .returned (.int .i64 (s - l.length))∧Drawn w w':=by
  have c0:=h.e0
  have c1:=h.e1
  have hl:=fun ty=>len_runN h ty w rfl
  have hl2:=fun ty=>len_runN h ty w.drew rfl
  have h1:=h.lo
  have h2:=h.hi
  have h3:=h.len
  have hw:wrap64 (s - l.length) = s - l.length:=by unfold wrap64;omega
  clear h
  go_enter Tryz.func107,Tryz.ntmps107
  go_wp2
  go_region
  all_goals go_wp2
  all_goals go_ret
  all_goals (try rw [hw])
  all_goals exact ⟨rfl,(Drawn.refl w).drew⟩
set_option maxHeartbeats 1000000 in
theorem tnget_some (h:TMN w s p m l) (id:Int) (x:Nat) (hx:MV.lookV l id = some (.pointer (some ⟨x,0,none⟩))):Calls Tryz.prog 118 #[.pointer (some ⟨p,0,none⟩),.int .i64 id] w fun e w'=>e = .returned (.tuple #[.pointer (some ⟨x,0,none⟩),.bool true])∧w = w':=by
  have c1:=h.e1
  have ml:=MV.look2 Tryz.underlying169 Tryz.underlying3 Tryz.ztn h.mp id
  rw [hx] at ml
  simp only [Option.getD_some,Option.isSome_some] at ml
  clear h hx
  go_enter Tryz.func118,Tryz.ntmps118
  go_wp2
  go_ret2
  exact ⟨rfl,rfl⟩
set_option maxHeartbeats 1000000 in
theorem tnget_none (h:TMN w s p m l) (id:Int) (hx:MV.lookV l id = none):Calls Tryz.prog 118 #[.pointer (some ⟨p,0,none⟩),.int .i64 id] w fun e w'=>e = .returned (.tuple #[.pointer none,.bool false])∧w = w':=by
  have c1:=h.e1
  have ml:=MV.look2 Tryz.underlying169 Tryz.underlying3 Tryz.ztn h.mp id
  rw [hx] at ml
  simp only [Option.getD_none,Option.isSome_none] at ml
  clear h hx
  go_enter Tryz.func118,Tryz.ntmps118
  go_wp2
  go_ret2
  exact ⟨rfl,rfl⟩
set_option maxHeartbeats 1000000 in
theorem tnadd_dup (h:TMN w s p m l) (id:Int) (x y:Nat) (hy:MV.lookV l id = some (.pointer (some ⟨y,0,none⟩))):Calls Tryz.prog 84 #[.pointer (some ⟨p,0,none⟩),.int .i64 id,.pointer (some ⟨x,0,none⟩)] w fun e w'=>e = .returned (err 6)∧w = w':=by
  have c1:=h.e1
  have ml:=MV.look2 Tryz.underlying169 Tryz.underlying3 Tryz.ztn h.mp id
  rw [hy] at ml
  simp only [Option.getD_some,Option.isSome_some] at ml
  clear h hy
  go_enter Tryz.func84,Tryz.ntmps84
  go_wp2
  go_ret
  exact ⟨rfl,rfl⟩
set_option maxHeartbeats 1000000 in
theorem tnadd_full (h:TMN w s p m l) (id:Int) (x:Nat) (hy:MV.lookV l id = none) (hf:(l.length:Int) = s):Calls Tryz.prog 84 #[.pointer (some ⟨p,0,none⟩),.int .i64 id,.pointer (some ⟨x,0,none⟩)] w fun e w'=>e = .returned (err 7)∧Drawn w w':=by
  have c1:=h.e1
  have ml:=MV.look2 Tryz.underlying169 Tryz.underlying3 Tryz.ztn h.mp id
  rw [hy] at ml
  simp only [Option.getD_none,Option.isSome_none] at ml
  have hr:=Lib.hid (tnroom_fn h)
  have e0:s - (l.length:Int) = 0:=by omega
  rw [e0] at hr
  clear h hy hf e0
  go_enter Tryz.func84,Tryz.ntmps84
  go_wp2_with (go_at_call 107;refine hr.out.mono ?_;rintro e w' ⟨rfl,hw⟩)
  go_ret
  exact ⟨rfl,hw⟩
set_option maxRecDepth 100000 in
set_option maxHeartbeats 1000000 in
theorem tnadd_new (h:TMN w s p m l) (id:Int) (x:Nat) (hy:MV.lookV l id = none) (hf:(l.length:Int) < s):Calls Tryz.prog 84 #[.pointer (some ⟨p,0,none⟩),.int .i64 id,.pointer (some ⟨x,0,none⟩)] w fun e w'=>e = .returned .nilIface∧TMN w' s p m (l ++ [(id,.pointer (some ⟨x,0,none⟩))])∧Fr (· = m) w w':=by
  have c1:=h.e1
  have ml:=MV.look2 Tryz.underlying169 Tryz.underlying3 Tryz.ztn h.mp id
  rw [hy] at ml
  simp only [Option.getD_none,Option.isSome_none] at ml
  have hr:=Lib.hid (tnroom_fn h)
  have e0:¬ s - (l.length:Int) = 0:=by omega
  obtain ⟨n,hn⟩:∃ n,n = s - (l.length:Int):=⟨_,rfl⟩
  rw [← hn] at hr e0
  replace hn:=Lib.hid hn
  obtain ⟨o,ho,hu⟩:=MV.put_new Tryz.underlying169 Tryz.underlying3 h.mp id (.pointer (some ⟨x,0,none⟩)) (MV.look_none.1 hy)
  have H:=Lib.hid h
  have hf':=Lib.hid hf
  have ho':=Lib.hid ho
  have hu':=Lib.hid hu
  clear h hy hf ho hu
  go_enter Tryz.func84,Tryz.ntmps84
  go_wp2_with (go_at_call 107;refine hr.out.mono ?_;rintro e w' ⟨rfl,hw⟩;obtain ⟨q,hq⟩:=hw;have c2:=((Drawn.refl w).drewN q).keep.cell c1;have hu2:=hu'.out (w.drewN q) rfl;subst hq)
  go_ret
  refine ⟨rfl,?_⟩
  exact H.out.put ((Drawn.refl w).drewN q).keep ho'.out (by have:=hf'.out;simp;omega)
end
end Go.Proofs.YtclfbplbccehkaaGreatDoor.T12

namespace Go.Proofs.YtclfbplbccehkaaGreatDoor.T12
open Go.RowKit Go.Sort Go.Lib V12
open Go.ChangeMaps (setBlock)
structure EnV where
  k:Int
  p:Nat
  A:Option Addr
  c:Nat
  C:Nat→Int
  B:Option Addr
  e:Nat
  U:Nat→Int
def ze:EnV:=⟨0,0,none,0,fun _=>0,none,0,fun _=>0⟩
def EnV.nv (x:EnV):NodeV:=⟨x.k,x.C,x.U⟩
def EnV.kv (x:EnV):Int × Value:=(x.k,.pointer (some ⟨x.p,0,none⟩))
theorem nv_k (x:EnV):x.nv.k = x.k:=rfl
abbrev ekeys (E:List EnV):List Int:=G.keys EnV.k E
def eget (E:List EnV) (id:Int):EnV:=G.get EnV.k ze E id
theorem kv_keys (E:List EnV):(E.map EnV.kv).map (·.1) = ekeys E:=by unfold ekeys G.keys;rw [List.map_map];rfl
theorem nv_keys (E:List EnV):nkeys (E.map EnV.nv) = ekeys E:=G.map_keys (ka:=EnV.k) (kb:=NodeV.k) nv_k E
theorem nv_get (E:List EnV) (id:Int):(eget E id).nv = nget (E.map EnV.nv) id:=G.map_get (ka:=EnV.k) (kb:=NodeV.k) nv_k ze E id
structure EIs (w:World) (d:Nat) (x:EnV):Prop where
  blk:w.heap[x.p]? = some (.cells #[.int .i64 x.k,.slice x.A d x.c,.slice x.B d x.e] 142 (0,0))
  rc:Rd w x.A d x.C
  ru:Rd w x.B d x.U
  na:x.A = none→d = 0∧x.c = 0
  nb:x.B = none→d = 0∧x.e = 0
  ta:0 < d→∀ b o,x.A = some ⟨b,o,none⟩→Typ w b 2
  tb:0 < d→∀ b o,x.B = some ⟨b,o,none⟩→Typ w b 2
  ok:NodeOk d x.nv
structure SC (w:World) (d:Nat) (s:Int) (q t m:Nat) (E:List EnV):Prop where
  hq:w.heap[q]? = some (.cells #[.int .i64 d,.pointer (some ⟨t,0,none⟩)] 136 (0,0))
  ex:∃ l,TMN w s t m l∧l.Perm (E.map EnV.kv)
  srt:G.Srt EnV.k E
  is:∀ x ∈ E,EIs w d x
def DE (m:Nat) (E:List EnV) (k:Nat):Prop:=k = m∨∃ x ∈ E,k = x.p
def FE (d q t m:Nat) (E:List EnV) (k:Nat):Prop:=k = q∨k = t∨k = m∨∃ x ∈ E,k = x.p∨(0 < d∧((∃ o,x.A = some ⟨k,o,none⟩)∨∃ o,x.B = some ⟨k,o,none⟩))
def SI (w:World) (d:Nat) (s:Int) (q:Nat) (D:Nat→Prop) (L:List NodeV):Prop:=∃ t m E,SC w d s q t m E∧L = E.map EnV.nv∧D = DE m E
theorem EIs.keep {w w':World} {d:Nat} {x:EnV} (h:EIs w d x) (k:Keep w w'):EIs w' d x:=⟨k.block h.blk,h.rc.keep k,h.ru.keep k,h.na,h.nb,fun hn b o e=>(h.ta hn b o e).keep k,fun hn b o e=>(h.tb hn b o e).keep k,h.ok⟩
theorem lt_blk {w:World} {k:Nat} {o:Obj} (h:w.heap[k]? = some o):k < w.heap.size:=(Array.getElem?_eq_some_iff.1 h).1
theorem cell_blk {w w':World} {a:Addr} (h:w'.heap[a.block]? = w.heap[a.block]?):w'.cell? a = w.cell? a:=World.cell?_of_block (w:=w) h
section
variable {w w':World} {d:Nat} {s:Int} {q t m:Nat} {E:List EnV}
theorem SC.keep (h:SC w d s q t m E) (k:Keep w w'):SC w' d s q t m E:=⟨k.block h.hq,by obtain ⟨l,a,b⟩:=h.ex;exact ⟨l,a.keep k,b⟩,h.srt,fun x hx=>(h.is x hx).keep k⟩
theorem SC.frame (h:SC w d s q t m E) (f:∀ k,FE d q t m E k→w'.heap[k]? = w.heap[k]?):SC w' d s q t m E:=by
  refine ⟨(f q (Or.inl rfl)).trans h.hq,?_,h.srt,fun x hx=>?_⟩
  · obtain ⟨l,a,b⟩:=h.ex
    exact ⟨l,⟨(f t (Or.inr (Or.inl rfl))).trans a.hp,a.mp.of (f m (Or.inr (Or.inr (Or.inl rfl)))),a.lo,a.hi,a.len⟩,b⟩
  · have hx':=h.is x hx
    refine ⟨(f x.p (Or.inr (Or.inr (Or.inr ⟨x,hx,Or.inl rfl⟩)))).trans hx'.blk,⟨hx'.rc.small,hx'.rc.range,fun hn=>?_⟩,⟨hx'.ru.small,hx'.ru.range,fun hn=>?_⟩,hx'.na,hx'.nb,fun hn b o e=>(hx'.ta hn b o e).same (f b (Or.inr (Or.inr (Or.inr ⟨x,hx,Or.inr ⟨hn,Or.inl ⟨o,e⟩⟩⟩)))),fun hn b o e=>(hx'.tb hn b o e).same (f b (Or.inr (Or.inr (Or.inr ⟨x,hx,Or.inr ⟨hn,Or.inr ⟨o,e⟩⟩⟩)))),hx'.ok⟩
    · obtain ⟨b,off,e,hc⟩:=hx'.rc.adr hn
      exact ⟨b,off,e,fun j hj=>(cell_blk (a:=⟨b,off + j,none⟩) (f b (Or.inr (Or.inr (Or.inr ⟨x,hx,Or.inr ⟨hn,Or.inl ⟨off,e⟩⟩⟩))))).trans (hc j hj)⟩
    · obtain ⟨b,off,e,hc⟩:=hx'.ru.adr hn
      exact ⟨b,off,e,fun j hj=>(cell_blk (a:=⟨b,off + j,none⟩) (f b (Or.inr (Or.inr (Or.inr ⟨x,hx,Or.inr ⟨hn,Or.inr ⟨off,e⟩⟩⟩))))).trans (hc j hj)⟩
theorem SC.mp (h:SC w d s q t m E):∃ es c,w.heap[m]? = some (.map es c):=by
  obtain ⟨l,a,_⟩:=h.ex
  obtain ⟨es,c,e,_⟩:=a.mp.length_le
  exact ⟨es,c,e⟩
theorem SC.hp (h:SC w d s q t m E):w.heap[t]? = some (.cells #[.int .i64 s,.map (some m)] 171 (0,0)):=by
  obtain ⟨l,a,_⟩:=h.ex
  exact a.hp
theorem SC.lt (h:SC w d s q t m E):∀ k,FE d q t m E k→k < w.heap.size:=by
  intro k hk
  rcases hk with rfl | rfl | rfl | ⟨x,hx,h1 | ⟨hd,⟨o,ha⟩ | ⟨o,ha⟩⟩⟩
  · exact lt_blk h.hq
  · exact lt_blk h.hp
  · obtain ⟨_,_,e⟩:=h.mp
    exact lt_blk e
  · rw [h1];exact lt_blk (h.is x hx).blk
  · obtain ⟨b,off,e,hc⟩:=(h.is x hx).rc.adr hd
    rw [ha] at e
    simp only [Option.some.injEq,Addr.mk.injEq,and_true] at e
    rw [e.1]
    exact cell_lt (hc 0 hd)
  · obtain ⟨b,off,e,hc⟩:=(h.is x hx).ru.adr hd
    rw [ha] at e
    simp only [Option.some.injEq,Addr.mk.injEq,and_true] at e
    rw [e.1]
    exact cell_lt (hc 0 hd)
theorem SC.off (h:SC w d s q t m E) {a:Addr} {v:Value} (hc:w.cell? a = some v):¬ a.block = m:=fun e=>by
  obtain ⟨es,c,e2⟩:=h.mp
  simp [World.cell?,e,e2] at hc
theorem SC.qm (h:SC w d s q t m E):¬ q = m:=fun e=>by
  obtain ⟨es,c,e2⟩:=h.mp
  rw [← e,h.hq] at e2
  cases e2
theorem SC.xm (h:SC w d s q t m E) {x:EnV} (hx:x ∈ E):¬ x.p = m:=fun e=>by
  obtain ⟨es,c,e2⟩:=h.mp
  rw [← e,(h.is x hx).blk] at e2
  cases e2
theorem SC.xq (h:SC w d s q t m E) {x:EnV} (hx:x ∈ E):¬ q = x.p:=fun e=>by
  have e2:=h.hq
  rw [e,(h.is x hx).blk] at e2
  simp at e2
theorem SC.xt (h:SC w d s q t m E) {x:EnV} (hx:x ∈ E):¬ t = x.p:=fun e=>by
  have e2:=h.hp
  rw [e,(h.is x hx).blk] at e2
  simp at e2
theorem SC.xy (h:SC w d s q t m E) {x y:EnV} (hx:x ∈ E) (hy:y ∈ E) (e:x.p = y.p):x.k = y.k:=by
  have e1:=(h.is x hx).blk
  rw [e,(h.is y hy).blk] at e1
  simp at e1
  exact e1.1.symm
theorem SC.c0 (h:SC w d s q t m E):w.cell? ⟨q,0,none⟩ = some (.int .i64 d):=by rw [cell_of_row w q _ _ _ _ h.hq];rfl
theorem SC.c1 (h:SC w d s q t m E):w.cell? ⟨q,1,none⟩ = some (.pointer (some ⟨t,0,none⟩)):=by rw [cell_of_row w q _ _ _ _ h.hq];rfl
theorem SC.len (h:SC w d s q t m E):(E.length:Int)≤s:=by
  obtain ⟨l,a,b⟩:=h.ex
  have:=a.len
  rw [b.length_eq,List.length_map] at this
  exact this
theorem eget_in {id:Int} (h:id ∈ ekeys E):eget E id ∈ E∧(eget E id).k = id:=G.get_some h
theorem SC.look_in (h:SC w d s q t m E) {l:List (Int × Value)} (hp:l.Perm (E.map EnV.kv)) {id:Int} (hk:id ∈ ekeys E):MV.lookV l id = some (.pointer (some ⟨(eget E id).p,0,none⟩)):=by
  have hn:(l.map (·.1)).Nodup:=by rw [(hp.map _).nodup_iff,kv_keys];exact G.keys_nodup h.srt
  rw [MV.look_mem hn,hp.mem_iff]
  have g:=eget_in hk
  refine List.mem_map.2 ⟨eget E id,g.1,?_⟩
  unfold EnV.kv
  rw [g.2]
theorem look_out {l:List (Int × Value)} (hp:l.Perm (E.map EnV.kv)) {id:Int} (h:id ∉ ekeys E):MV.lookV l id = none:=by
  rw [MV.look_none,(hp.map _).mem_iff,kv_keys]
  exact h
theorem tget_in (h:SC w d s q t m E) {id:Int} (hk:id ∈ ekeys E):Calls Tryz.prog 118 #[.pointer (some ⟨t,0,none⟩),.int .i64 id] w fun e w'=>e = .returned (.tuple #[.pointer (some ⟨(eget E id).p,0,none⟩),.bool true])∧w = w':=by
  obtain ⟨l,a,b⟩:=h.ex
  exact tnget_some a id _ (h.look_in b hk)
theorem tget_out (h:SC w d s q t m E) {id:Int} (hk:id ∉ ekeys E):Calls Tryz.prog 118 #[.pointer (some ⟨t,0,none⟩),.int .i64 id] w fun e w'=>e = .returned (.tuple #[.pointer none,.bool false])∧w = w':=by
  obtain ⟨l,a,b⟩:=h.ex
  exact tnget_none a id (look_out b hk)
theorem SC.put (h:SC w d s q t m E) {E':List EnV} {l':List (Int × Value)} (a:TMN w' s t m l') (b:l'.Perm (E'.map EnV.kv)) (f:Fr (· = m) w w') (hs:G.Srt EnV.k E') (hi:∀ x ∈ E',EIs w d x):SC w' d s q t m E':=by
  have h0:∀ {a:Addr} {v:Value},w.cell? a = some v→¬ a.block = m:=fun hc=>h.off hc
  refine ⟨(f.block _ (lt_blk h.hq) h.qm).trans h.hq,⟨l',a,b⟩,hs,fun x hx=>?_⟩
  have hx':=hi x hx
  have nm:¬ x.p = m:=fun e=>by
    obtain ⟨es,c,e2⟩:=h.mp
    rw [← e,hx'.blk] at e2
    cases e2
  have rr:∀ {A:Option Addr} {Z:Nat→Int},Rd w A d Z→Rd w' A d Z:=fun g=>⟨g.small,g.range,fun hn=>by
    obtain ⟨b,off,e,hc⟩:=g.adr hn
    exact ⟨b,off,e,fun j hj=>f.cell (hc j hj) (h0 (hc j hj))⟩⟩
  have tt:∀ {b:Nat} {T:TypeId},Typ w b T→Typ w' b T:=fun g=>g.same (f.block _ g.lt fun e=>by
    obtain ⟨es,c,e2⟩:=h.mp
    obtain ⟨cs,loc,e3⟩:=g
    rw [e,e2] at e3
    cases e3)
  exact ⟨(f.block _ (lt_blk hx'.blk) nm).trans hx'.blk,rr hx'.rc,rr hx'.ru,hx'.na,hx'.nb,fun hn b o e=>tt (hx'.ta hn b o e),fun hn b o e=>tt (hx'.tb hn b o e),hx'.ok⟩
theorem fr_int (h:SC w d s q t m E) {D:Nat→Prop} (f:Fr (· = m) w w') (hD:∀ k,k = m→D k):FrS D w w':=⟨f.less hD,fun _ _ _ _ hc=>f.cell hc (h.off hc)⟩
theorem tadd_new (h:SC w d s q t m E) (x:EnV) (hx:EIs w d x) (hk:x.k ∉ ekeys E) (hl:(E.length:Int) < s):Calls Tryz.prog 84 #[.pointer (some ⟨t,0,none⟩),.int .i64 x.k,.pointer (some ⟨x.p,0,none⟩)] w fun e w'=>e = .returned .nilIface∧SC w' d s q t m (G.ins EnV.k x E)∧Fr (· = m) w w':=by
  obtain ⟨l,a,b⟩:=h.ex
  have e:l.length = E.length:=by rw [b.length_eq,List.length_map]
  refine (tnadd_new a x.k x.p (look_out b hk) (by omega)).mono fun _ _ ⟨he,ht,hw⟩=>⟨he,h.put ht ?_ hw (G.ins_sorted h.srt hk) fun y hy=>?_,hw⟩
  · refine List.Perm.trans ?_ ((G.ins_perm x E).map EnV.kv).symm
    rw [List.map_cons]
    exact (List.perm_append_singleton _ _).trans (b.cons _)
  · rcases G.ins_mem.1 hy with rfl | hy
    · exact hx
    · exact h.is y hy
theorem tadd_dup (h:SC w d s q t m E) (k:Int) (p:Nat) (hk:k ∈ ekeys E):Calls Tryz.prog 84 #[.pointer (some ⟨t,0,none⟩),.int .i64 k,.pointer (some ⟨p,0,none⟩)] w fun e w'=>e = .returned (err 6)∧w = w':=by
  obtain ⟨l,a,b⟩:=h.ex
  exact tnadd_dup a k p _ (h.look_in b hk)
theorem tadd_full (h:SC w d s q t m E) (k:Int) (p:Nat) (hk:k ∉ ekeys E) (hl:(E.length:Int) = s):Calls Tryz.prog 84 #[.pointer (some ⟨t,0,none⟩),.int .i64 k,.pointer (some ⟨p,0,none⟩)] w fun e w'=>e = .returned (err 7)∧Drawn w w':=by
  obtain ⟨l,a,b⟩:=h.ex
  have e:l.length = E.length:=by rw [b.length_eq,List.length_map]
  exact tnadd_full a k p (look_out b hk) (by omega)
theorem tri_last {w:World} {k:Nat} {a b c u:Value} {T:TypeId} (h:w.heap[k]? = some (.cells #[a,b,c] T (0,0))):(w.setCell ⟨k,2,none⟩ u).heap[k]? = some (.cells #[a,b,u] T (0,0)):=by
  have hlt:=lt_blk h
  have h':w.heap[k] = .cells #[a,b,c] T (0,0):=by simpa [Array.getElem?_eq_getElem hlt] using h
  show (w.heap.modify k _)[k]? = _
  rw [Array.getElem?_eq_getElem (by simpa using hlt),Array.getElem_modify_self,h']
  rfl
theorem FrS.ent {w:World} {k:Nat} {a b u:Value} {A:Option Addr} {n c:Nat} {T:TypeId} {D:Nat→Prop} (h:w.heap[k]? = some (.cells #[a,b,.slice A n c] T (0,0))) (hD:D k):FrS D w (w.setCell ⟨k,2,none⟩ u):=by
  have f:Fr D w (w.setCell ⟨k,2,none⟩ u):=Fr.set (Fr.refl D w) (by left;exact hD) u
  refine ⟨f,fun b o kk i hc=>?_⟩
  by_cases e:b = k
  · subst e
    rw [cell_of_row w _ _ _ _ _ h] at hc
    rw [cell_of_row _ _ _ _ _ _ (tri_last (u:=u) h)]
    rcases o with _ | _ | _ | o
    · exact hc
    · exact hc
    · cases hc
    · cases hc
  · rw [cell_blk (a:=⟨b,o,none⟩) (Below.heap_setCell w ⟨k,2,none⟩ u b e)]
    exact hc
theorem SC.used (h:SC w d s q t m E) {id:Int} (hk:id ∈ ekeys E) (B:Option Addr) (e:Nat) (U:Nat→Int) (hr:Rd w B d U) (nb:B = none→d = 0∧e = 0) (tB:0 < d→∀ b o,B = some ⟨b,o,none⟩→Typ w b 2) (ok:NodeOk d ⟨id,(eget E id).C,U⟩) :
    SC (w.setCell ⟨(eget E id).p,2,none⟩ (.slice B d e)) d s q t m (G.rep EnV.k E { eget E id with B:=B,e:=e,U:=U }):=by
  obtain ⟨hx,hkx⟩:=eget_in hk
  obtain ⟨x,hxx⟩:∃ x,x = eget E id:=⟨_,rfl⟩
  rw [← hxx] at hx hkx ok ⊢
  have hX:=h.is x hx
  have ht:=tri_last (u:=.slice B d e) hX.blk
  have f:FrS (fun k=>k = x.p) w (w.setCell ⟨x.p,2,none⟩ (.slice B d e)):=FrS.ent hX.blk rfl
  have ob:∀ k,k < w.heap.size→¬ k = x.p→(w.setCell ⟨x.p,2,none⟩ (.slice B d e)).heap[k]? = w.heap[k]?:=fun k hk2 hne=>f.fr.block k hk2 hne
  refine ⟨(ob _ (lt_blk h.hq) (h.xq hx)).trans h.hq,?_,G.rep_sorted h.srt,fun y hy=>?_⟩
  · obtain ⟨l,a,b⟩:=h.ex
    refine ⟨l,⟨(ob _ a.plt (h.xt hx)).trans a.hp,a.mp.of (ob _ a.mlt (fun e=>h.xm hx e.symm)),a.lo,a.hi,a.len⟩,?_⟩
    have e1:(G.rep EnV.k E { x with B:=B,e:=e,U:=U }).map EnV.kv = E.map EnV.kv:=by
      unfold G.rep
      rw [List.map_map]
      refine List.map_congr_left fun y hy=>?_
      show EnV.kv (if y.k = x.k then _ else y) = EnV.kv y
      by_cases e1:y.k = x.k
      · rw [if_pos e1]
        have:y = x:=by
          have g1:=G.get_at (z:=ze) h.srt hy
          have g2:=G.get_at (z:=ze) h.srt hx
          rw [e1] at g1
          exact g1.symm.trans g2
        rw [this]
        rfl
      · rw [if_neg e1]
    rw [e1]
    exact b
  · rcases G.rep_mem hy with hy2 | rfl
    · by_cases e1:y.k = x.k
      · have hy3:y = { x with B:=B,e:=e,U:=U }:=by
          unfold G.rep at hy
          obtain ⟨z,hz,hzy⟩:=List.mem_map.1 hy
          by_cases e3:z.k = x.k
          · rw [if_pos (by exact e3)] at hzy
            exact hzy.symm
          · rw [if_neg (by exact e3)] at hzy
            rw [hzy] at e3
            exact absurd e1 e3
        rw [hy3]
        exact ⟨ht,f.rd hX.rc,f.rd hr,hX.na,nb,fun hn b o e=>(hX.ta hn b o e).set _ _,fun hn b o e=>(tB hn b o e).set _ _,by rw [← hkx] at ok;exact ok⟩
      · have hY:=h.is y hy2
        exact ⟨(ob _ (lt_blk hY.blk) (fun e2=>e1 (h.xy hy2 hx e2))).trans hY.blk,f.rd hY.rc,f.rd hY.ru,hY.na,hY.nb,fun hn b o e=>(hY.ta hn b o e).set _ _,fun hn b o e=>(hY.tb hn b o e).set _ _,hY.ok⟩
    · exact ⟨ht,f.rd hX.rc,f.rd hr,hX.na,nb,fun hn b o e=>(hX.ta hn b o e).set _ _,fun hn b o e=>(tB hn b o e).set _ _,by rw [← hkx] at ok;exact ok⟩
theorem nv_rep {id:Int} (hk:id ∈ ekeys E) (B:Option Addr) (e:Nat) (U:Nat→Int):(G.rep EnV.k E { eget E id with B:=B,e:=e,U:=U }).map EnV.nv = G.rep NodeV.k (E.map EnV.nv) ⟨id,(nget (E.map EnV.nv) id).C,U⟩:=by
  rw [G.map_rep (ka:=EnV.k) (kb:=NodeV.k) nv_k,← nv_get]
  unfold EnV.nv
  rw [(eget_in hk).2]
theorem DE.rep {x:EnV} (hx:x ∈ E) {y:EnV} (hy:y.p = x.p):∀ k,DE m (G.rep EnV.k E y) k→DE m E k:=by
  intro k hk
  rcases hk with rfl | ⟨z,hz,rfl⟩
  · exact Or.inl rfl
  · rcases G.rep_mem hz with hz | rfl
    · exact Or.inr ⟨z,hz,rfl⟩
    · exact Or.inr ⟨x,hx,hy⟩
theorem SC.offT (h:SC w d s q t m E) {b:Nat} {T:TypeId} (hb:DE m E b) (ht:Typ w b T):T = 142:=by
  obtain ⟨cs,loc,e⟩:=ht
  rcases hb with rfl | ⟨x,hx,rfl⟩
  · obtain ⟨es,c,e2⟩:=h.mp
    rw [e] at e2
    cases e2
  · rw [(h.is x hx).blk] at e
    simp at e
    exact e.2.1.symm
end
end Go.Proofs.YtclfbplbccehkaaGreatDoor.T12

namespace Go.Proofs.YtclfbplbccehkaaGreatDoor
open Go.RowKit Go.Maps Go.Sort Go.Shelf
namespace MV
section
variable {F:Fence} {n:Nat} {P:Program} {w:World} {ops:Array Oper} {rest:List Oper} {o:Oper} {a:Act} {Q:Exit→Act→World→Prop}
end
theorem Rng.left {w:World} {b r:Nat} {todo:List (Int × Value)} (h:Rng w b r todo):w.rangeLeft b r = todo.length:=by
  obtain ⟨es,clock,since,seen,c0,h1,h2,h3,h4,h5,h6,h7,h8⟩:=h
  have:=h7.length_eq
  rw [List.length_map,List.length_map,Array.length_toList] at this
  simp only [World.rangeLeft,h1,h2]
  exact this
end MV
namespace T12
end T12
end Go.Proofs.YtclfbplbccehkaaGreatDoor

namespace Go.Proofs.YtclfbplbccehkaaGreatDoor.T12
open Go.RowKit Go.Maps Go.Sort Go.Shelf
attribute [local go_sem] Oper.semAt_some
end Go.Proofs.YtclfbplbccehkaaGreatDoor.T12

