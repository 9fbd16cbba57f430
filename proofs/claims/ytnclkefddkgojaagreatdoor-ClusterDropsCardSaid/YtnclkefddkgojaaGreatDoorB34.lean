/-
  A store of nodes beside blocks of others: its contracts. Condition: errors.errorType holds its own (for Add).
  A map of numbers to values: a value put in place of another; a table's blocks. No condition.
  The methods of a table of ints but IDs. No condition.
  The store's memory: its struct, its row of pods with their requests, its table of places. No condition.
-/
import Derived.Test.YtnclkefddkgojaaGreatDoorB33
import Derived.Test.YtnclkefddkgojaaGreatDoorB7
import Derived.Test.YtnclkefddkgojaaGreatDoorB29
import Derived.Test.YtnclkefddkgojaaGreatDoorB4
import Derived.Maps.OwnSet
import Derived.Deep.RegionWith
import Derived.Test.YtnclkefddkgojaaGreatDoorB5
namespace Go.Proofs.YtnclkefddkgojaaGreatDoor.T14
open Go.RowKit Go.Sort Go.Lib V12 T13
def ON (w:World) (d:Nat) (s:Int) (q:Nat) (N:List T12.NodeV) (X:Nat→Prop) (w1:World):Prop :=
  ∃ t m E,T12.SC w1 d s q t m E∧E.map T12.EnV.nv = N∧d≤64∧Keep w w1∧(∀ i,T12.FE d q t m E i→w.heap.size≤i∧¬ X i)∧∀ i,X i→i < w1.heap.size
section
variable {w w1 w2:World} {d:Nat} {s:Int} {q:Nat} {N:List T12.NodeV} {X Z:Nat→Prop}
theorem ON.kp (o:ON w d s q N X w1):Keep w w1:=by
  obtain ⟨t,m,E,h,hL,hd,k,hF,hX⟩:=o
  exact k
theorem ON.lt (o:ON w d s q N X w1):∀ i,X i→i < w1.heap.size:=by
  obtain ⟨t,m,E,h,hL,hd,k,hF,hX⟩:=o
  exact hX
theorem ON.d64 (o:ON w d s q N X w1):d≤64:=by
  obtain ⟨t,m,E,h,hL,hd,k,hF,hX⟩:=o
  exact hd
theorem ON.srt (o:ON w d s q N X w1):T12.NSrt N:=by
  obtain ⟨t,m,E,h,rfl,hd,k,hF,hX⟩:=o
  exact (G.map_srt (ka:=T12.EnV.k) (kb:=T12.NodeV.k) T12.nv_k).2 h.srt
theorem ON.ok (o:ON w d s q N X w1):∀ x ∈ N,T12.NodeOk d x:=by
  obtain ⟨t,m,E,h,rfl,hd,k,hF,hX⟩:=o
  intro x hx
  obtain ⟨e,he,rfl⟩:=List.mem_map.1 hx
  exact (h.is e he).ok
theorem ON.less (o:ON w d s q N X w1) (hZ:∀ i,Z i→X i):ON w d s q N Z w1:=by
  obtain ⟨t,m,E,h,hL,hd,k,hF,hX⟩:=o
  exact ⟨t,m,E,h,hL,hd,k,fun i hi=>⟨(hF i hi).1,fun hz=>(hF i hi).2 (hZ i hz)⟩,fun i hi=>hX i (hZ i hi)⟩
theorem ON.grow (o:ON w d s q N X w1) (kw:Keep w w2) (hs2:w1.heap.size≤w2.heap.size) (f:∀ k,k < w1.heap.size→¬ X k→w2.heap[k]? = w1.heap[k]?) (hZ:∀ i,Z i→w1.heap.size≤i∧i < w2.heap.size):ON w d s q N (fun i=>X i∨Z i) w2:=by
  obtain ⟨t,m,E,h,hL,hd,k,hF,hX⟩:=o
  refine ⟨t,m,E,h.frame fun i hi=>f i (h.lt i hi) (hF i hi).2,hL,hd,kw,fun i hi=>⟨(hF i hi).1,?_⟩,?_⟩
  · rintro (h1 | h1)
    · exact (hF i hi).2 h1
    · have:=(hZ i h1).1
      have:=h.lt i hi
      omega
  · rintro i (h1 | h1)
    · exact Nat.lt_of_lt_of_le (hX i h1) hs2
    · exact (hZ i h1).2
theorem on_new (d:Nat) (s:Int) (w w0:World) (X:Nat→Prop) (k:Keep w w0) (hd:d≤64) (h0:0≤s) (hs:I64 s) (hX:∀ i,X i→i < w0.heap.size) :
    Calls Tryz.prog 31 #[.int .i64 d,.int .i64 s] w0 fun e w'=>∃ q,e = .returned (.pointer (some ⟨q,0,none⟩))∧ON w d s q [] X w'∧Keep w0 w'∧w0.heap.size≤q:=by
  refine (T12.nnew_fn d s w0 hd h0 hs).mono ?_
  rintro e w' ⟨q,rfl,t,m,h,k1,h1,h2,h3⟩
  have:=k.size
  refine ⟨q,rfl,⟨t,m,[],h,rfl,hd,k.trans k1,fun i hi=>?_,fun i hi=>Nat.lt_of_lt_of_le (hX i hi) k1.size⟩,k1,h1⟩
  have hw:w0.heap.size≤i:=by
    rcases hi with rfl | rfl | rfl | ⟨x,hx,_⟩
    · omega
    · omega
    · omega
    · cases hx
  exact ⟨by omega,fun hx=>by have:=hX i hx;omega⟩
theorem ON.after {t m:Nat} {E:List T12.EnV} {N2:List T12.NodeV} (hd:d≤64) (k:Keep w w1) (hF:∀ i,T12.FE d q t m E i→w.heap.size≤i∧¬ X i) (hX:∀ i,X i→i < w1.heap.size) (a:T12.After w1 w2 d s q t m E N2):ON w d s q N2 X w2∧SameX X w1 w2∧w1.heap.size≤w2.heap.size:=by
  obtain ⟨E',h1,h2,h3,h4,h5⟩:=a
  have fe:∀ i,T12.DE m E i→T12.FE d q t m E i:=fun i h=>by
    rcases h with rfl | ⟨x,hx,rfl⟩
    · exact Or.inr (Or.inr (Or.inl rfl))
    · exact Or.inr (Or.inr (Or.inr ⟨x,hx,Or.inl rfl⟩))
  have low:∀ i,T12.DE m E i→w.heap.size≤i:=fun i hi=>(hF i (fe i hi)).1
  refine ⟨⟨t,m,E',h1,h2,hd,h3.fr.low k low,fun i hi=>?_,fun i hi=>Nat.lt_of_lt_of_le (hX i hi) h3.fr.size⟩,fun i hi=>h3.fr.block i (hX i hi) fun hde=>(hF i (fe i hde)).2 hi,h3.fr.size⟩
  rcases h5 i hi with h6 | h6
  · exact hF i h6
  · exact ⟨Nat.le_trans k.size h6,fun hx=>by have:=hX i hx;omega⟩
theorem on_add (o:ON w d s q N X w1) (hg:ErrT w1) (id:Int) (A:Option Addr) (n c:Nat) (Y:Nat→Int) (hv:Rd w1 A n Y) (nilA:A = none→n = 0∧c = 0) (hid:I64 id) :
    Calls Tryz.prog 58 #[.pointer (some ⟨q,0,none⟩),.agg #[.int .i64 id,.slice A n c]] w1 fun e w'=>e = .returned (fltA (T12.addC N d s id n Y) (T12.addI d n Y))∧ON w d s q (T12.addL N d s id n Y) X w'∧SameX X w1 w'∧w1.heap.size≤w'.heap.size:=by
  obtain ⟨t,m,E,h,rfl,hd,k,hF,hX⟩:=o
  refine (T12.nadd_fn h hg id A n c Y hv nilA hid hd).mono fun _ _ ⟨he,ha⟩=>?_
  exact ⟨he,ON.after hd k hF hX ha⟩
theorem on_hold (o:ON w d s q N X w1) (id:Int) (A:Option Addr) (n c:Nat) (Y:Nat→Int) (hv:Rd w1 A n Y) :
    Calls Tryz.prog 61 #[.pointer (some ⟨q,0,none⟩),.int .i64 id,.slice A n c] w1 fun e w'=>e = .returned (fltA (T12.chC N d id n Y false) 0)∧ON w d s q (T12.chL N d id n Y false) X w'∧SameX X w1 w'∧w1.heap.size≤w'.heap.size:=by
  obtain ⟨t,m,E,h,rfl,hd,k,hF,hX⟩:=o
  exact (T12.nhold_fn h id A n c Y hv hd).mono fun _ _ ⟨he,ha⟩=>⟨he,ON.after hd k hF hX ha⟩
theorem on_release (o:ON w d s q N X w1) (id:Int) (A:Option Addr) (n c:Nat) (Y:Nat→Int) (hv:Rd w1 A n Y) :
    Calls Tryz.prog 63 #[.pointer (some ⟨q,0,none⟩),.int .i64 id,.slice A n c] w1 fun e w'=>e = .returned (fltA (T12.chC N d id n Y true) 0)∧ON w d s q (T12.chL N d id n Y true) X w'∧SameX X w1 w'∧w1.heap.size≤w'.heap.size:=by
  obtain ⟨t,m,E,h,rfl,hd,k,hF,hX⟩:=o
  exact (T12.nrelease_fn h id A n c Y hv hd).mono fun _ _ ⟨he,ha⟩=>⟨he,ON.after hd k hF hX ha⟩
theorem on_drop_in (o:ON w d s q N X w1) (id:Int) (hk:id ∈ T12.nkeys N) :
    Calls Tryz.prog 52 #[.pointer (some ⟨q,0,none⟩),.int .i64 id] w1 fun e w'=>∃ A c,e = .returned (.tuple #[.agg #[.int .i64 id,.slice A d c],.nilIface])∧ON w d s q (T12.dropL N id) X w'∧SameX X w1 w'∧w1.heap.size≤w'.heap.size:=by
  obtain ⟨t,m,E,h,rfl,hd,k,hF,hX⟩:=o
  rw [T12.nv_keys] at hk
  exact (T12.ndrop_in h hk).mono fun _ _ ⟨he,_,ha⟩=>⟨_,_,he,ON.after hd k hF hX ha⟩
theorem on_drop_out (o:ON w d s q N X w1) (id:Int) (hk:id ∉ T12.nkeys N) :
    Calls Tryz.prog 52 #[.pointer (some ⟨q,0,none⟩),.int .i64 id] w1 fun e w'=>e = .returned (.tuple #[.agg #[.int .i64 0,.slice none 0 0],flt 5 0])∧Keep w1 w':=by
  obtain ⟨t,m,E,h,rfl,hd,k,hF,hX⟩:=o
  rw [T12.nv_keys] at hk
  exact T12.ndrop_out h hk
theorem on_get_in (o:ON w d s q N X w1) (id:Int) (hk:id ∈ T12.nkeys N) :
    Calls Tryz.prog 50 #[.pointer (some ⟨q,0,none⟩),.int .i64 id] w1 fun e w'=>∃ A c,e = .returned (.tuple #[.agg #[.int .i64 id,.slice A d c],.bool true])∧T12.Row w1 w' A d c (T12.nget N id).C∧Keep w1 w':=by
  obtain ⟨t,m,E,h,rfl,hd,k,hF,hX⟩:=o
  rw [T12.nv_keys] at hk
  have e:(T12.nget (E.map T12.EnV.nv) id).C = (T12.eget E id).C:=by rw [← T12.nv_get];rfl
  rw [e]
  exact T12.nget_in h hk hd
theorem on_get_out (o:ON w d s q N X w1) (id:Int) (hk:id ∉ T12.nkeys N) :
    Calls Tryz.prog 50 #[.pointer (some ⟨q,0,none⟩),.int .i64 id] w1 fun e w'=>e = .returned (.tuple #[.agg #[.int .i64 0,.slice none 0 0],.bool false])∧Keep w1 w':=by
  obtain ⟨t,m,E,h,rfl,hd,k,hF,hX⟩:=o
  rw [T12.nv_keys] at hk
  exact T12.nget_out h hk
theorem on_free_in (o:ON w d s q N X w1) (id:Int) (hk:id ∈ T12.nkeys N) :
    Calls Tryz.prog 59 #[.pointer (some ⟨q,0,none⟩),.int .i64 id] w1 fun e w'=>∃ A c,e = .returned (.slice A d c)∧T12.Row w1 w' A d c (fun j=>(T12.nget N id).C j - (T12.nget N id).U j)∧Keep w1 w':=by
  obtain ⟨t,m,E,h,rfl,hd,k,hF,hX⟩:=o
  rw [T12.nv_keys] at hk
  have e:(fun j=>(T12.nget (E.map T12.EnV.nv) id).C j - (T12.nget (E.map T12.EnV.nv) id).U j) = fun j=>(T12.eget E id).C j - (T12.eget E id).U j:=by rw [← T12.nv_get];rfl
  rw [e]
  exact T12.nfree_in h hk hd
theorem on_free_out (o:ON w d s q N X w1) (id:Int) (hk:id ∉ T12.nkeys N) :
    Calls Tryz.prog 59 #[.pointer (some ⟨q,0,none⟩),.int .i64 id] w1 fun e w'=>e = .returned (.slice none 0 0)∧Keep w1 w':=by
  obtain ⟨t,m,E,h,rfl,hd,k,hF,hX⟩:=o
  rw [T12.nv_keys] at hk
  exact T12.nfree_out h hk
theorem on_ids (o:ON w d s q N X w1) (hl:N.length≤1000) :
    Calls Tryz.prog 49 #[.pointer (some ⟨q,0,none⟩)] w1 fun e w'=>∃ A c,e = .returned (.slice A N.length c)∧Rd w' A N.length (fun j=>(T12.nrow N j).k)∧Keep w1 w':=by
  obtain ⟨t,m,E,h,rfl,hd,k,hF,hX⟩:=o
  rw [List.length_map] at hl ⊢
  exact T12.nids_fn h hl
theorem on_dims (o:ON w d s q N X w1):Calls Tryz.prog 68 #[.pointer (some ⟨q,0,none⟩)] w1 fun e w'=>e = .returned (.int .i64 d)∧Keep w1 w':=by
  obtain ⟨t,m,E,h,rfl,hd,k,hF,hX⟩:=o
  exact T12.ndims_fn h
end
end Go.Proofs.YtnclkefddkgojaaGreatDoor.T14

namespace Go.Proofs.YtnclkefddkgojaaGreatDoor
open Go.RowKit Go.Extern.Stop Go.Stop Go.Extern
open Go.ChangeMaps (setBlock)
namespace T13
theorem Fr.put {D:Nat→Prop} {a b:World} (h:Fr D a b) {B:Nat} (hp:D B∨a.heap.size≤B) (o:Obj):Fr D a (setBlock b B o) :=
  ⟨h.os,h.tape,h.output,by simp [setBlock];exact h.size,fun k hk hn=>by
    rw [MV.heap_setBlock_ne (fun e=>hp.elim (fun h=>hn (by rw [e];exact h)) (fun h=>absurd h (by omega)))];exact h.block k hk hn⟩
structure TM (ty:TypeId) (w:World) (s:Int) (p m:Nat) (l:List (Int × Value)):Prop where
  hp:w.heap[p]? = some (.cells #[.int .i64 s,.map (some m)] ty (0,0))
  mp:MV.Is w m l
  lo:0≤s
  hi:s≤9223372036854775807
  len:(l.length:Int)≤s
section
variable {ty:TypeId} {w w':World} {s:Int} {p m:Nat} {l:List (Int × Value)}
theorem TM.plt (h:TM ty w s p m l):p < w.heap.size:=(Array.getElem?_eq_some_iff.1 h.hp).1
theorem TM.mlt (h:TM ty w s p m l):m < w.heap.size:=h.mp.lt
theorem TM.ne (h:TM ty w s p m l):p≠m:=by
  rintro rfl
  obtain ⟨o,hb,es,c,rfl,_⟩:=h.mp
  rw [h.hp] at hb
  cases hb
theorem TM.e0 (h:TM ty w s p m l):w.cell? ⟨p,0,none⟩ = some (.int .i64 s):=by rw [cell_of_row w _ _ _ _ _ h.hp];rfl
theorem TM.e1 (h:TM ty w s p m l):w.cell? ⟨p,0 + 1,none⟩ = some (.map (some m)):=by rw [cell_of_row w _ _ _ _ _ h.hp];rfl
theorem TM.keep (h:TM ty w s p m l) (k:Keep w w'):TM ty w' s p m l:=⟨k.block h.hp,h.mp.of (Below.block k _ h.mlt),h.lo,h.hi,h.len⟩
theorem TM.fr (h:TM ty w s p m l) {E:Nat→Prop} (f:Fr E w w') (h1:¬ E p) (h2:¬ E m):TM ty w' s p m l :=
  ⟨(f.block _ h.plt h1).trans h.hp,h.mp.of (f.block _ h.mlt h2),h.lo,h.hi,h.len⟩
theorem TM.put (h:TM ty w s p m l) (k:Keep w w') {o:Obj} {l':List (Int × Value)} (ho:MV.Obj' o l') (hl:(l'.length:Int)≤s):TM ty (setBlock w' m o) s p m l'∧Fr (· = m) w (setBlock w' m o):=by
  have h':=h.keep k
  exact ⟨⟨by rw [MV.heap_setBlock_ne h.ne];exact h'.hp,⟨o,MV.heap_setBlock h'.mlt,ho⟩,h.lo,h.hi,hl⟩,Fr.put (D:=(· = m)) (Fr.of k) (by left;rfl) _⟩
end
end T13
end Go.Proofs.YtnclkefddkgojaaGreatDoor

namespace Go.Proofs.YtnclkefddkgojaaGreatDoor.T13
open Go.RowKit Go.Lib Go.Extern V12
open Go.ChangeMaps (setBlock)
abbrev TMI:=TM 159
theorem Tryz.ztb (w:World):(zeroValue 3).run Tryz.prog w = .ok (.int .i64 0) w:=by kernel_rfl
def err (c:Int):Value:=.iface 103 (.int .i64 c)
set_option maxHeartbeats 1000000 in
theorem tbnew_fn (s:Int) (hs:I64 s) (w:World):Calls Tryz.prog 65 #[.int .i64 s] w fun e w'=>∃ p,e = .returned (.pointer (some ⟨p,0,none⟩))∧∃ m,TMI w' (if 0≤s then s else 0) p m []∧Keep w w'∧w.heap.size≤p∧w.heap.size≤m:=by
  have hmm:=@run_makeMap Tryz.prog
  have hs':=Lib.hid hs
  clear hs
  by_cases h0:0≤s
  · rw [if_pos h0]
    have hb1:decide (0≤s) = true:=decide_eq_true h0
    have hb2:decide (s < 0) = false:=decide_eq_false (by omega)
    have hb3:decide (0 < s) = true∨s = 0:=by by_cases h:0 < s;exact .inl (decide_eq_true h);exact .inr (by omega)
    have hm:max s 0 = s:=by omega
    go_enter Tryz.func65,Tryz.ntmps65
    go_wp2
    try simp only [hm]
    go_ret
    refine ⟨_,rfl,_,⟨?_,(MV.is_new w).of (Below.block (Keep.one (w.alloc (.map #[] 0)) _) _ (by rw [World.size_alloc];omega)),h0,hs'.out.2,by simpa using h0⟩,(Keep.one _ _).alloc _,by simp,by omega⟩
    have:=heap_alloc_new (w.alloc (.map #[] 0)) (.cells #[.int .i64 s,.map (some w.heap.size)] 159)
    rwa [World.size_alloc] at this
  · rw [if_neg h0]
    have hb1:decide (0≤s) = false:=decide_eq_false h0
    have hb2:decide (s < 0) = true:=decide_eq_true (by omega)
    have hb3:decide (0 < s) = false:=decide_eq_false (by omega)
    have hm:max s 0 = 0:=by omega
    go_enter Tryz.func65,Tryz.ntmps65
    go_wp2
    try simp only [hm]
    go_ret
    refine ⟨_,rfl,_,⟨?_,(MV.is_new w).of (Below.block (Keep.one (w.alloc (.map #[] 0)) _) _ (by rw [World.size_alloc];omega)),by omega,by omega,by simp⟩,(Keep.one _ _).alloc _,by simp,by omega⟩
    have:=heap_alloc_new (w.alloc (.map #[] 0)) (.cells #[.int .i64 0,.map (some w.heap.size)] 159)
    rwa [World.size_alloc] at this
section
variable {w:World} {s:Int} {p m:Nat} {l:List (Int × Value)}
theorem len_runI (h:TMI w s p m l) (ty:TypeId) (W:World) (hW:W.heap[m]? = w.heap[m]?):(Builtin.len_ #[157] ty #[.map (some m)]).run Tryz.prog W = .ok (.int .i64 l.length) W:=by
  obtain ⟨es,c,hb,hl⟩:=(h.mp.of hW).length_le
  rw [← hl]
  simp [Builtin.len_,MapKept.run_getObj_map hb,go_sem]
set_option maxHeartbeats 1000000 in
theorem tbroom_fn (h:TMI w s p m l):Calls Tryz.prog 120 #[.pointer (some ⟨p,0,none⟩)] w fun e w'=>e = .returned (.int .i64 (s - l.length))∧Drawn w w':=by
  have c0:=h.e0
  have c1:=h.e1
  have hl:=fun ty=>len_runI h ty w rfl
  have hl2:=fun ty=>len_runI h ty w.drew rfl
  have h1:=h.lo
  have h2:=h.hi
  have h3:=h.len
  have hw:wrap64 (s - l.length) = s - l.length:=by unfold wrap64;omega
  clear h
  go_enter Tryz.func120,Tryz.ntmps120
  go_wp2
  go_region
  all_goals go_wp2
  all_goals go_ret
  all_goals (try rw [hw])
  all_goals exact ⟨rfl,(Drawn.refl w).drew⟩
set_option maxHeartbeats 1000000 in
theorem tbget_some (h:TMI w s p m l) (id:Int) (x:Int) (hx:MV.lookV l id = some (.int .i64 x)):Calls Tryz.prog 100 #[.pointer (some ⟨p,0,none⟩),.int .i64 id] w fun e w'=>e = .returned (.tuple #[.int .i64 x,.bool true])∧w = w':=by
  have c1:=h.e1
  have ml:=MV.look2 Tryz.underlying157 Tryz.underlying3 Tryz.ztb h.mp id
  rw [hx] at ml
  simp only [Option.getD_some,Option.isSome_some] at ml
  clear h hx
  go_enter Tryz.func100,Tryz.ntmps100
  go_wp2
  go_ret2
  exact ⟨rfl,rfl⟩
set_option maxHeartbeats 1000000 in
theorem tbget_none (h:TMI w s p m l) (id:Int) (hx:MV.lookV l id = none):Calls Tryz.prog 100 #[.pointer (some ⟨p,0,none⟩),.int .i64 id] w fun e w'=>e = .returned (.tuple #[.int .i64 0,.bool false])∧w = w':=by
  have c1:=h.e1
  have ml:=MV.look2 Tryz.underlying157 Tryz.underlying3 Tryz.ztb h.mp id
  rw [hx] at ml
  simp only [Option.getD_none,Option.isSome_none] at ml
  clear h hx
  go_enter Tryz.func100,Tryz.ntmps100
  go_wp2
  go_ret2
  exact ⟨rfl,rfl⟩
set_option maxHeartbeats 1000000 in
theorem tbadd_dup (h:TMI w s p m l) (id:Int) (x y:Int) (hy:MV.lookV l id = some (.int .i64 y)):Calls Tryz.prog 99 #[.pointer (some ⟨p,0,none⟩),.int .i64 id,.int .i64 x] w fun e w'=>e = .returned (err 6)∧w = w':=by
  have c1:=h.e1
  have ml:=MV.look2 Tryz.underlying157 Tryz.underlying3 Tryz.ztb h.mp id
  rw [hy] at ml
  simp only [Option.getD_some,Option.isSome_some] at ml
  clear h hy
  go_enter Tryz.func99,Tryz.ntmps99
  go_wp2
  go_ret
  exact ⟨rfl,rfl⟩
set_option maxHeartbeats 1000000 in
theorem tbadd_full (h:TMI w s p m l) (id:Int) (x:Int) (hy:MV.lookV l id = none) (hf:(l.length:Int) = s):Calls Tryz.prog 99 #[.pointer (some ⟨p,0,none⟩),.int .i64 id,.int .i64 x] w fun e w'=>e = .returned (err 7)∧Drawn w w':=by
  have c1:=h.e1
  have ml:=MV.look2 Tryz.underlying157 Tryz.underlying3 Tryz.ztb h.mp id
  rw [hy] at ml
  simp only [Option.getD_none,Option.isSome_none] at ml
  have hr:=Lib.hid (tbroom_fn h)
  have e0:s - (l.length:Int) = 0:=by omega
  rw [e0] at hr
  clear h hy hf e0
  go_enter Tryz.func99,Tryz.ntmps99
  go_wp2_with (go_at_call 120;refine hr.out.mono ?_;rintro e w' ⟨rfl,hw⟩)
  go_ret
  exact ⟨rfl,hw⟩
set_option maxRecDepth 100000 in
set_option maxHeartbeats 1000000 in
theorem tbadd_new (h:TMI w s p m l) (id:Int) (x:Int) (hy:MV.lookV l id = none) (hf:(l.length:Int) < s):Calls Tryz.prog 99 #[.pointer (some ⟨p,0,none⟩),.int .i64 id,.int .i64 x] w fun e w'=>e = .returned .nilIface∧TMI w' s p m (l ++ [(id,.int .i64 x)])∧Fr (· = m) w w':=by
  have c1:=h.e1
  have ml:=MV.look2 Tryz.underlying157 Tryz.underlying3 Tryz.ztb h.mp id
  rw [hy] at ml
  simp only [Option.getD_none,Option.isSome_none] at ml
  have hr:=Lib.hid (tbroom_fn h)
  have e0:¬ s - (l.length:Int) = 0:=by omega
  obtain ⟨n,hn⟩:∃ n,n = s - (l.length:Int):=⟨_,rfl⟩
  rw [← hn] at hr e0
  replace hn:=Lib.hid hn
  obtain ⟨o,ho,hu⟩:=MV.put_new Tryz.underlying157 Tryz.underlying3 h.mp id (.int .i64 x) (MV.look_none.1 hy)
  have H:=Lib.hid h
  have hf':=Lib.hid hf
  have ho':=Lib.hid ho
  have hu':=Lib.hid hu
  clear h hy hf ho hu
  go_enter Tryz.func99,Tryz.ntmps99
  go_wp2_with (go_at_call 120;refine hr.out.mono ?_;rintro e w' ⟨rfl,hw⟩;obtain ⟨q,hq⟩:=hw;have c2:=((Drawn.refl w).drewN q).keep.cell c1;have hu2:=hu'.out (w.drewN q) rfl;subst hq)
  go_ret
  refine ⟨rfl,?_⟩
  exact H.out.put ((Drawn.refl w).drewN q).keep ho'.out (by have:=hf'.out;simp;omega)
end
end Go.Proofs.YtnclkefddkgojaaGreatDoor.T13

namespace Go.Proofs.YtnclkefddkgojaaGreatDoor.T13
open Go.RowKit Go.Sort Go.Lib V12
open Go.ChangeMaps (setBlock)
def prs (P:Nat→PodV) (n:Nat):List (Int × Value):=(List.range n).map fun j=>((P j).k,.int .i64 j)
theorem prs_len (P:Nat→PodV) (n:Nat):(prs P n).length = n:=by simp [prs]
theorem prs_keys (P:Nat→PodV) (n:Nat):(prs P n).map (·.1) = keys (lst P n):=by unfold prs keys lst;rw [List.map_map,List.map_map];rfl
theorem prs_congr {P Q:Nat→PodV} {n:Nat} (h:∀ j,j < n→(P j).k = (Q j).k):prs P n = prs Q n:=List.map_congr_left fun j hj=>by
  show ((P j).k,Value.int .i64 j) = ((Q j).k,Value.int .i64 j)
  rw [h j (List.mem_range.1 hj)]
theorem prs_succ (P:Nat→PodV) (n:Nat) (x:PodV):prs (put P n x) (n + 1) = prs P n ++ [(x.k,.int .i64 n)]:=by
  have e:prs (put P n x) n = prs P n:=prs_congr fun j hj=>by rw [put_ne _ _ _ (by omega)]
  rw [← e]
  unfold prs
  rw [List.range_succ,List.map_append,List.map_singleton,put_at]
structure ST (w:World) (b0:Nat) (s:Int) (q t m:Nat) (A:Option Addr) (c n:Nat) (P:Nat→PodV):Prop where
  hq:w.heap[q]? = some (.cells #[.slice A n c,.pointer (some ⟨t,0,none⟩)] 118 (0,0))
  tb:TMI w (if 0≤s then s else 0) t m (prs P n)
  rp:RowP w b0 (.slice A n c) n P
  bq:b0≤q
  bt:b0≤t
  bm:b0≤m
  lk:LOk ((lst P n).map nm)
def FE (q t m:Nat) (A:Option Addr) (c n:Nat) (P:Nat→PodV) (i:Nat):Prop:=i = q∨i = t∨i = m∨(Value.slice A n c).ownBlock = some i∨∃ j,j < n∧(Value.slice (P j).A (P j).m (P j).c).ownBlock = some i
section
variable {w w':World} {b0:Nat} {s:Int} {q t m:Nat} {A:Option Addr} {c n:Nat} {P:Nat→PodV}
theorem ST.keep (h:ST w b0 s q t m A c n P) (k:Keep w w'):ST w' b0 s q t m A c n P:=⟨k.block h.hq,h.tb.keep k,h.rp.keep k,h.bq,h.bt,h.bm,h.lk⟩
theorem ST.frame (h:ST w b0 s q t m A c n P) (f:∀ i,FE q t m A c n P i→w'.heap[i]? = w.heap[i]?):ST w' b0 s q t m A c n P:=by
  refine ⟨(f q (Or.inl rfl)).trans h.hq,⟨(f t (Or.inr (Or.inl rfl))).trans h.tb.hp,h.tb.mp.of (f m (Or.inr (Or.inr (Or.inl rfl)))),h.tb.lo,h.tb.hi,h.tb.len⟩,⟨?_,fun j hj=>?_,h.rp.ok⟩,h.bq,h.bt,h.bm,h.lk⟩
  · exact own_blocks1 h.rp.row fun g hg=>f g (Or.inr (Or.inr (Or.inr (Or.inl hg))))
  · exact own_blocks1 (h.rp.own j hj) fun g hg=>f g (Or.inr (Or.inr (Or.inr (Or.inr ⟨j,hj,hg⟩))))
theorem lt_blk {w:World} {k:Nat} {o:Obj} (h:w.heap[k]? = some o):k < w.heap.size:=(Array.getElem?_eq_some_iff.1 h).1
theorem ST.lt (h:ST w b0 s q t m A c n P):∀ i,FE q t m A c n P i→b0≤i∧i < w.heap.size:=by
  rintro i (rfl | rfl | rfl | h1 | ⟨j,hj,h1⟩)
  · exact ⟨h.bq,lt_blk h.hq⟩
  · exact ⟨h.bt,h.tb.plt⟩
  · exact ⟨h.bm,h.tb.mlt⟩
  · exact h.rp.row.lt i h1
  · exact (h.rp.own j hj).lt i h1
theorem ST.mp (h:ST w b0 s q t m A c n P):∃ es x,w.heap[m]? = some (.map es x):=by
  obtain ⟨es,x,e,_⟩:=h.tb.mp.length_le
  exact ⟨es,x,e⟩
theorem ST.off (h:ST w b0 s q t m A c n P) {a:Addr} {v:Value} (hc:w.cell? a = some v):¬ a.block = m:=fun e=>by
  obtain ⟨es,x,e2⟩:=h.mp
  simp [World.cell?,e,e2] at hc
theorem ST.offT (h:ST w b0 s q t m A c n P) {b:Nat} {T:TypeId} (hT:Typ w b T):¬ b = m:=fun e=>by
  obtain ⟨es,x,e2⟩:=h.mp
  obtain ⟨cs,loc,e3⟩:=hT
  rw [e,e2] at e3
  cases e3
theorem typ_one {w:World} {b:Nat} {T T2:TypeId} (h:Typ w b T) (k:Typ w b T2):T = T2:=by
  obtain ⟨cs,loc,e⟩:=h
  obtain ⟨cs2,loc2,e2⟩:=k
  rw [e] at e2
  simp at e2
  exact e2.2.1
theorem own_typ {w:World} {base n z:Nat} {T:TypeId} {v:Value} {xs:List Value} (h:w.ownsRow base T z v n xs) {g:Nat} (hg:v.ownBlock = some g):Typ w g T:=by
  obtain ⟨cur,e⟩:=row_kind h hg
  exact ⟨cur,_,e⟩
theorem ST.tq (h:ST w b0 s q t m A c n P):Typ w q 118:=⟨_,_,h.hq⟩
theorem ST.tt (h:ST w b0 s q t m A c n P):Typ w t 159:=⟨_,_,h.tb.hp⟩
theorem ST.tg (h:ST w b0 s q t m A c n P) {g:Nat} (hg:(Value.slice A n c).ownBlock = some g):Typ w g 35:=own_typ h.rp.row hg
theorem ST.tr (h:ST w b0 s q t m A c n P) {j:Nat} (hj:j < n) {g:Nat} (hg:(Value.slice (P j).A (P j).m (P j).c).ownBlock = some g):Typ w g 2:=own_typ (h.rp.own j hj) hg
theorem ST.c0 (h:ST w b0 s q t m A c n P):w.cell? ⟨q,0,none⟩ = some (.slice A n c):=by rw [cell_of_row w q _ _ _ _ h.hq];rfl
theorem ST.c1 (h:ST w b0 s q t m A c n P):w.cell? ⟨q,1,none⟩ = some (.pointer (some ⟨t,0,none⟩)):=by rw [cell_of_row w q _ _ _ _ h.hq];rfl
theorem ST.f0 (h:ST w b0 s q t m A c n P) (i:Nat):w.frozen? ⟨q,i,none⟩ = false:=frozen_of_row w q i _ _ h.hq
theorem ST.nodup (h:ST w b0 s q t m A c n P):((prs P n).map (·.1)).Nodup:=by
  rw [prs_keys,← keys_nm]
  exact h.lk.nod
theorem ST.look_in (h:ST w b0 s q t m A c n P) {j:Nat} (hj:j < n):MV.lookV (prs P n) (P j).k = some (.int .i64 j):=by
  rw [MV.look_mem h.nodup]
  exact List.mem_map.2 ⟨j,List.mem_range.2 hj,rfl⟩
theorem look_out {P:Nat→PodV} {n:Nat} {id:Int} (h:id ∉ keys (lst P n)):MV.lookV (prs P n) id = none:=by
  rw [MV.look_none,prs_keys]
  exact h
theorem key_at {P:Nat→PodV} {n:Nat} {id:Int} (h:id ∈ keys (lst P n)):∃ j,j < n∧(P j).k = id:=by
  obtain ⟨y,hy,e⟩:=List.mem_map.1 h
  obtain ⟨j,hj,rfl⟩:=lst_mem.1 hy
  exact ⟨j,hj,e⟩
theorem key_in {P:Nat→PodV} {n j:Nat} (hj:j < n):(P j).k ∈ keys (lst P n):=List.mem_map.2 ⟨P j,lst_mem.2 ⟨j,hj,rfl⟩,rfl⟩
theorem ST.uniq (h:ST w b0 s q t m A c n P) {i j:Nat} (hi:i < n) (hj:j < n) (e:(P i).k = (P j).k):i = j:=by
  have h1:=h.look_in hi
  rw [e,h.look_in hj] at h1
  simp at h1
  omega
theorem ST.get (h:ST w b0 s q t m A c n P) {j:Nat} (hj:j < n):getL (lst P n) (P j).k = P j :=
  get_first hj rfl fun i hi e=>by
    have:=h.uniq (by omega) hj e
    omega
theorem ErrT.off {w w':World} (hg:ErrT w) (h:ST w b0 s q t m A c n P) (f:Fr (· = m) w w'):ErrT w':=f.cell hg (h.off hg)
end
def OSd:Pred:=fun w s q L X w1=>∃ t m A c P,ST w1 w.heap.size s q t m A c L.length P∧(lst P L.length).map nm = L∧Keep w w1∧∀ i,X i→i < w1.heap.size∧¬ FE q t m A c L.length P i
section
variable {w w1 w2:World} {s:Int} {q:Nat} {L:List PodV} {X Z:Nat→Prop}
theorem OSd.keep (o:OSd w s q L X w1) (k:Keep w1 w2):OSd w s q L X w2:=by
  obtain ⟨t,m,A,c,P,h,hL,k0,hX⟩:=o
  exact ⟨t,m,A,c,P,h.keep k,hL,k0.trans k,fun i hi=>⟨Nat.lt_of_lt_of_le (hX i hi).1 k.size,(hX i hi).2⟩⟩
theorem OSd.more (o:OSd w s q L X w1) (k:Keep w1 w2) (hZ:∀ i,Z i→w1.heap.size≤i∧i < w2.heap.size):OSd w s q L (fun i=>X i∨Z i) w2:=by
  obtain ⟨t,m,A,c,P,h,hL,k0,hX⟩:=o
  refine ⟨t,m,A,c,P,h.keep k,hL,k0.trans k,?_⟩
  rintro i (hi | hi)
  · exact ⟨Nat.lt_of_lt_of_le (hX i hi).1 k.size,(hX i hi).2⟩
  · exact ⟨(hZ i hi).2,fun hF=>by have:=(h.lt i hF).2;have:=(hZ i hi).1;omega⟩
theorem OSd.less (o:OSd w s q L X w1) (hZ:∀ i,Z i→X i):OSd w s q L Z w1:=by
  obtain ⟨t,m,A,c,P,h,hL,k0,hX⟩:=o
  exact ⟨t,m,A,c,P,h,hL,k0,fun i hi=>hX i (hZ i hi)⟩
theorem OSd.write (o:OSd w s q L X w1) (k:Keep w w2) (hs:w1.heap.size≤w2.heap.size) (f:∀ i,i < w1.heap.size→¬ X i→w2.heap[i]? = w1.heap[i]?):OSd w s q L X w2:=by
  obtain ⟨t,m,A,c,P,h,hL,k0,hX⟩:=o
  exact ⟨t,m,A,c,P,h.frame fun i hi=>f i (h.lt i hi).2 fun hx=>(hX i hx).2 hi,hL,k,fun i hi=>⟨Nat.lt_of_lt_of_le (hX i hi).1 hs,(hX i hi).2⟩⟩
theorem OSd.grow (o:OSd w s q L X w1) (k:Keep w w2) (hs:w1.heap.size≤w2.heap.size) (f:∀ i,i < w1.heap.size→¬ X i→w2.heap[i]? = w1.heap[i]?) (hZ:∀ i,Z i→w1.heap.size≤i∧i < w2.heap.size):OSd w s q L (fun i=>X i∨Z i) w2:=by
  obtain ⟨t,m,A,c,P,h,hL,k0,hX⟩:=o
  refine ⟨t,m,A,c,P,h.frame fun i hi=>f i (h.lt i hi).2 fun hx=>(hX i hx).2 hi,hL,k,?_⟩
  rintro i (hi | hi)
  · exact ⟨Nat.lt_of_lt_of_le (hX i hi).1 hs,(hX i hi).2⟩
  · exact ⟨(hZ i hi).2,fun hF=>by have:=(h.lt i hF).2;have:=(hZ i hi).1;omega⟩
end
end Go.Proofs.YtnclkefddkgojaaGreatDoor.T13

