/-
  A cluster beside a block of the law's own, which it leaves as it is; the reference's cluster in that block. No condition, no walk.
  What the laws' ends want. No condition, no walk.
  What the law's fixed example comes to. No condition, no walk.
  The law's awake. Condition: errors.errorType holds its own.
-/
import Derived.Test.YtnclkefddkgojaaGreatDoorB24
import Derived.Test.YtnclkefddkgojaaGreatDoorB25
import Derived.Test.YtnclkefddkgojaaGreatDoorB18
namespace Go.Proofs.YtnclkefddkgojaaGreatDoor.T14
open Go.RowKit Go.Sort Go.Lib V12 T13
def Bx (CS:PredC) (bw:Nat) (blk:Obj):PredC:=fun w d q M L X w1=>CS w d q M L (fun i=>X i∨i = bw) w1∧w1.heap[bw]? = some blk∧¬ X bw∧w.heap.size≤bw
section
variable {CS:PredC} {bw:Nat} {blk:Obj}
theorem bx_lift {w:World} {d q:Nat} {M M2:List NV} {L L2:List PodV} {X:Nat→Prop} {w1 w':World} (h:Bx CS bw blk w d q M L X w1) (k:CS w d q M2 L2 (fun i=>X i∨i = bw) w') (f:SameX (fun i=>X i∨i = bw) w1 w'):Bx CS bw blk w d q M2 L2 X w'∧SameX X w1 w' :=
  ⟨⟨k,(f bw (Or.inr rfl)).trans h.2.1,h.2.2.1,h.2.2.2⟩,fun i hi=>f i (Or.inl hi)⟩
theorem bx_con (C:Con CS):Con (Bx CS bw blk) where
  kp h:=C.kp h.1
  keep h k:=⟨C.keep h.1 k,(keep_at k (lt_of_block h.2.1)).trans h.2.1,h.2.2⟩
  more h k hz:=⟨C.less (C.more h.1 k hz) fun i hi=>by
      rcases hi with (hi | hi) | hi
      · exact Or.inl (Or.inl hi)
      · exact Or.inr hi
      · exact Or.inl (Or.inr hi),(keep_at k (lt_of_block h.2.1)).trans h.2.1,fun e=>by
      rcases e with e | e
      · exact h.2.2.1 e
      · have:=(hz _ e).1
        have:=lt_of_block h.2.1
        omega,h.2.2.2⟩
  less h hz:=⟨C.less h.1 fun i hi=>hi.imp (hz i) fun e=>e,h.2.1,fun e=>h.2.2.1 (hz _ e),h.2.2.2⟩
  write h k hs f:=⟨C.write h.1 k hs fun i hi hn=>f i hi fun e=>hn (Or.inl e),(f bw (lt_of_block h.2.1) h.2.2.1).trans h.2.1,h.2.2⟩
  lt h i hi:=C.lt h.1 i (Or.inl hi)
  ok h:=C.ok h.1
  addNode k A n c Z h hg hr h0 hk hn hm:=(C.addNode k A n c Z h.1 hg hr h0 hk hn hm).mono fun _ _ ⟨h1,h2,h3⟩=>⟨h1,(bx_lift h h2 h3).1,(bx_lift h h2 h3).2⟩
  dropNode id h hg hi hm hl:=(C.dropNode id h.1 hg hi hm hl).mono fun _ _ ⟨h1,h2⟩ =>
    ⟨fun hin=>by
      obtain ⟨v,S,e1,e2,e3,e4,e5⟩:=h1 hin
      exact ⟨v,S,e1,e2,e3,(bx_lift h e4 e5).1,(bx_lift h e4 e5).2⟩,fun hin=>by
      obtain ⟨A,c,e1,e4,e5⟩:=h2 hin
      exact ⟨A,c,e1,(bx_lift h e4 e5).1,(bx_lift h e4 e5).2⟩⟩
  submit x h hg hx hm hl:=(C.submit x h.1 hg hx hm hl).mono fun _ _ ⟨r,e1,e2,e3,e4,e5,e6,e7⟩=>⟨r,e1,e2,e3,e4,e5,(bx_lift h e6 e7).1,(bx_lift h e6 e7).2⟩
  bind id nd h hg hi hd hm hl:=(C.bind id nd h.1 hg hi hd hm hl).mono fun _ _ ⟨r,e1,e2,e3,e4,e5,e6,e7⟩=>⟨r,e1,e2,e3,e4,e5,(bx_lift h e6 e7).1,(bx_lift h e6 e7).2⟩
  claim id nd h hg hi hd hm hl:=(C.claim id nd h.1 hg hi hd hm hl).mono fun _ _ ⟨r,e1,e2,e3,e4,e5,e6,e7⟩=>⟨r,e1,e2,e3,e4,e5,(bx_lift h e6 e7).1,(bx_lift h e6 e7).2⟩
  change id ev dl h hg hi he hd hm hl:=(C.change id ev dl h.1 hg hi he hd hm hl).mono fun _ _ ⟨r,e1,e2,e3,e4,e5,e6,e7⟩=>⟨r,e1,e2,e3,e4,e5,(bx_lift h e6 e7).1,(bx_lift h e6 e7).2⟩
  nodes h hm:=C.nodes h.1 hm
  node id h hi hm:=C.node id h.1 hi hm
  free id h hi hm hl:=C.free id h.1 hi hm hl
  pods h hl:=C.pods h.1 hl
  pod id h hi hl:=C.pod id h.1 hi hl
  on nd h hi hl:=C.on nd h.1 hi hl
  dims h:=C.dims h.1
  addNil:=C.addNil
  podsNil:=C.podsNil
theorem bx_new (C:Con CS) {w:World} {d q:Nat} {w1 w2:World} (h:CS w d q [] [] (fun _=>False) w1) (x:RcV) (e:x = ⟨d,none,0,0,none,0,0⟩) (hw:w2 = w1.alloc (.cells x.arr 30)) :
    St (Bx CS w1.heap.size (.cells x.arr 30 (0,0))) w d q [] [] (fun _=>False) w2 x (fun _=>C14.zp) (fun _=>zpod):=by
  subst hw
  refine St.new ⟨C.less (C.more h (Keep.one _ _) (Z:=fun i=>i = w1.heap.size) fun i hi=>by rw [World.size_alloc];omega) fun i hi=>hi,heap_alloc_new _ _,fun e=>e.elim,(C.kp h).size⟩ x e
theorem bx_store (C:Con CS) {w:World} {d q:Nat} {M:List NV} {L:List PodV} {X:Nat→Prop} {w1 w2:World} {x y:RcV} {Q:Nat→C14.NdC} {P:Nat→PodV} (h:St (Bx CS bw (.cells y.arr 30 (0,0))) w d q M L X w1 x Q P) (hw:w2 = put3 w1 bw x) :
    St (Bx CS bw (.cells x.arr 30 (0,0))) w d q M L X w2 x Q P:=by
  have P2:=put3_x hw
  have kw:Keep w w2:=by rw [hw];exact put3_keep _ (C.kp h.o.1) h.o.2.2.2
  have ne:∀ i,X i→i≠bw:=fun i hi e=>h.o.2.2.1 (e ▸ hi)
  refine ⟨⟨C.write h.o.1 kw (by rw [hw,put3_size];exact Nat.le_refl _) fun i _ hi=>P2 i fun e=>hi (Or.inr e),by rw [hw];exact put3_heap _ _ h.o.2.1,h.o.2.2.1,h.o.2.2.2⟩,h.xd,h.rn.same fun i hi=>P2 i (ne i hi),h.em,h.dn,h.rl.same kw fun i hi=>P2 i (ne i hi),h.el⟩
theorem St.un {w:World} {d q:Nat} {M:List NV} {L:List PodV} {X:Nat→Prop} {w1:World} {x:RcV} {Q:Nat→C14.NdC} {P:Nat→PodV} (h:St (Bx CS bw blk) w d q M L X w1 x Q P):CS w d q M L (fun i=>X i∨i = bw) w1:=h.o.1
end
end Go.Proofs.YtnclkefddkgojaaGreatDoor.T14

namespace Go.Proofs.YtnclkefddkgojaaGreatDoor.T14
open Go.RowKit Go.Sort Go.Lib V12 T13
theorem amt_ok {n:Nat} {Z:Nat→Int} (h:∀ j,j < n→Amt (Z j)):¬ 0≤wrongOf n Z (n:Int):=by
  rw [wrongOf_ok fun j hj=>?_,if_pos rfl]
  · decide
  · unfold badAmt
    have:=h j hj
    unfold Amt at this
    exact decide_eq_false (by omega)
theorem on_drop (L:List PodV) (id:Int):(drL L id).filter (onB id) = []:=by
  rw [List.filter_eq_nil_iff]
  intro y hy
  obtain ⟨z,hz,rfl⟩:=List.mem_map.1 hy
  split
  · rename_i h1
    intro h2
    have:=(drP_h h1).2
    have:=on_h h2
    omega
  · assumption
theorem drM_not (M:List NV) (id:Int):id ∉ nk (drM M id):=fun h=>(G.wo_keys.1 h).2 rfl
theorem drM_len (M:List NV) (id:Int):(drM M id).length≤M.length:=List.length_filter_le _ _
theorem back {d:Nat} {M:List NV} {L:List PodV} (ok:Ok d M L) {id:Int} (hin:id ∈ nk M) (hm:M.length≤100):adC (drM M id) d id d (nget M id).C = 0∧wrI d d (nget M id).C = 0∧id ∈ nk (adL (drM M id) d id d (nget M id).C)∧nget (adL (drM M id) d id d (nget M id).C) id = ⟨id,(nget M id).C⟩:=by
  have ha:=amt_ok (ok.cap _ (getM hin).1)
  have hl:=drM_len M id
  have h0:adC (drM M id) d id d (nget M id).C = 0:=by
    unfold adC
    rw [if_neg ha,if_neg (drM_not M id),if_neg (by omega)]
  have e:adL (drM M id) d id d (nget M id).C = G.ins NV.k ⟨id,(nget M id).C⟩ (drM M id):=by unfold adL;rw [if_pos h0]
  have hmem:(⟨id,(nget M id).C⟩:NV) ∈ adL (drM M id) d id d (nget M id).C:=by rw [e];exact G.ins_mem.2 (Or.inl rfl)
  refine ⟨h0,by unfold wrI;rw [if_neg ha],List.mem_map_of_mem (f:=NV.k) hmem,?_⟩
  exact G.get_at (adL_ok (drL_ok ok id)).srt hmem
theorem drop_free {d:Nat} {M:List NV} {L:List PodV} (ok:Ok d M L) (id:Int) (j:Nat):usedL (drL L id) id j = 0:=(drL_ok ok id).free (drM_not M id) j
theorem rd_sameB {w w':World} {g o n:Nat} {Z:Nat→Int} (h:Rd w (some ⟨g,o,none⟩) n Z) (f:w'.heap[g]? = w.heap[g]?):Rd w' (some ⟨g,o,none⟩) n Z :=
  ⟨h.small,h.range,fun hn=>by
    obtain ⟨b,off,e,hc⟩:=h.adr hn
    have e2:=Option.some.inj e
    simp only [Addr.mk.injEq,and_true] at e2
    obtain ⟨rfl,rfl⟩:=e2
    exact ⟨g,o,rfl,fun j hj=>cell_same (hc j hj) f⟩⟩
theorem same_rows {w:World} {A B:Option Addr} {n c d:Nat} {Z Y:Nat→Int} (hA:Rd w A n Z) (hB:Rd w B n Y) (e:∀ j,j < n→Z j = Y j):Calls Tryz.prog 27 #[.slice A n c,.slice B n d] w fun e w'=>e = .returned (.bool true)∧Keep w w':=by
  refine (rsame_is A B n n c d Z Y w hA hB true (decide_eq_true ⟨rfl,e⟩)).mono ?_
  rintro e w' ⟨h2,qq,rfl⟩
  exact ⟨h2,(Gr.refl w |>.drewN qq).keep⟩
theorem node_in {CS:PredC} (C:Con CS) {w:World} {d q:Nat} {M:List NV} {L:List PodV} {X:Nat→Prop} {w1:World} (h:CS w d q M L X w1) (id:Int) (hi:I64 id) (hm:M.length≤100) (hd:0 < d) (hin:id ∈ nk M) :
    Calls Tryz.prog 22 #[.pointer (some ⟨q,0,none⟩),.int .i64 id] w1 fun e w'=>∃ g o c,e = .returned (.tuple #[.agg #[.int .i64 id,.slice (some ⟨g,o,none⟩) d c],.bool true])∧Rd w' (some ⟨g,o,none⟩) d (nget M id).C∧w1.heap.size≤g∧g < w'.heap.size∧Keep w1 w':=by
  refine (C.node id h hi hm).mono ?_
  rintro e w' ⟨k,A,n,c,h1,h2,_,h4⟩
  obtain ⟨rfl,rfl,h5,h6⟩:=h2 hin
  obtain ⟨g,o,rfl,hc⟩:=h5.adr hd
  rw [decide_eq_true hin] at h1
  exact ⟨g,o,c,h1,h5,h6 g o hd rfl,cell_lt (hc 0 hd),h4⟩
theorem node_out {CS:PredC} (C:Con CS) {w:World} {d q:Nat} {M:List NV} {L:List PodV} {X:Nat→Prop} {w1:World} (h:CS w d q M L X w1) (id:Int) (hi:I64 id) (hm:M.length≤100) (hin:id ∉ nk M) :
    Calls Tryz.prog 22 #[.pointer (some ⟨q,0,none⟩),.int .i64 id] w1 fun e w'=>∃ k A n c,e = .returned (.tuple #[.agg #[.int .i64 k,.slice A n c],.bool false])∧Keep w1 w':=by
  refine (C.node id h hi hm).mono ?_
  rintro e w' ⟨k,A,n,c,h1,_,_,h4⟩
  rw [decide_eq_false hin] at h1
  exact ⟨k,A,n,c,h1,h4⟩
theorem free_in {CS:PredC} (C:Con CS) {w:World} {d q:Nat} {M:List NV} {L:List PodV} {X:Nat→Prop} {w1:World} (h:CS w d q M L X w1) (id:Int) (hi:I64 id) (hm:M.length≤100) (hl:L.length≤100) (hd:0 < d) (hin:id ∈ nk M) :
    Calls Tryz.prog 28 #[.pointer (some ⟨q,0,none⟩),.int .i64 id] w1 fun e w'=>∃ g o c,e = .returned (.slice (some ⟨g,o,none⟩) d c)∧Rd w' (some ⟨g,o,none⟩) d (fun j=>(nget M id).C j - usedL L id j)∧w1.heap.size≤g∧g < w'.heap.size∧Keep w1 w':=by
  refine (C.free id h hi hm hl).mono ?_
  rintro e w' ⟨A,n,c,h1,h2,_,h4⟩
  obtain ⟨rfl,h5,h6⟩:=h2 hin
  obtain ⟨g,o,rfl,hc⟩:=h5.adr hd
  exact ⟨g,o,c,h1,h5,h6 g o hd rfl,cell_lt (hc 0 hd),h4⟩
theorem free_out {CS:PredC} (C:Con CS) {w:World} {d q:Nat} {M:List NV} {L:List PodV} {X:Nat→Prop} {w1:World} (h:CS w d q M L X w1) (id:Int) (hi:I64 id) (hm:M.length≤100) (hl:L.length≤100) (hin:id ∉ nk M) :
    Calls Tryz.prog 28 #[.pointer (some ⟨q,0,none⟩),.int .i64 id] w1 fun e w'=>∃ A c,e = .returned (.slice A 0 c)∧Keep w1 w':=by
  refine (C.free id h hi hm hl).mono ?_
  rintro e w' ⟨A,n,c,h1,_,h3,h4⟩
  rw [h3 hin] at h1
  exact ⟨A,c,h1,h4⟩
end Go.Proofs.YtnclkefddkgojaaGreatDoor.T14

namespace Go.Proofs.YtnclkefddkgojaaGreatDoor.T14
open Go.RowKit Go.Sort Go.Lib V12 T13
def z5:Nat→Int:=fun _=>5
def z3:Nat→Int:=fun _=>3
def aM:List NV:=[⟨7,z5⟩]
def aP (k a h d:Int):PodV:=⟨k,0,false,0,none,1,0,z3,a,h,d,-1⟩
def aX (k:Int) (A:Option Addr) (c:Nat):PodV:=⟨k,0,false,0,A,1,c,z3,0,0,0,0⟩
theorem no5:¬ 0≤wrongOf 1 z5 ((1:Nat):Int):=by decide +kernel
theorem no3:¬ 0≤wrongOf 1 z3 ((1:Nat):Int):=by decide +kernel
theorem wa1:adC [] 1 7 1 z5 = 0:=by unfold adC;rw [if_neg no5];rfl
theorem wa2:wrI 1 1 z5 = 0:=by unfold wrI;rw [if_neg no5]
theorem wa3:adL [] 1 7 1 z5 = aM:=by unfold adL;rw [wa1,if_pos rfl];rfl
theorem wb0:wrI 1 1 z3 = 0:=by unfold wrI;rw [if_neg no3]
theorem wb1 (A:Option Addr) (c:Nat):sbC [] 1 (aX 1 A c) = 0:=by unfold sbC;rw [show (aX 1 A c).m = 1 from rfl,show (aX 1 A c).Z = z3 from rfl,if_neg no3];rfl
theorem wb2 (A:Option Addr) (c:Nat):sbL [] 1 (aX 1 A c) = [aP 1 0 1 (-1)]:=by
  unfold sbL
  rw [show (aX 1 A c).m = 1 from rfl,show (aX 1 A c).Z = z3 from rfl,if_neg no3]
  rfl
theorem wb3 (A:Option Addr) (c:Nat):sbC [aP 1 0 1 (-1)] 1 (aX 2 A c) = 0:=by unfold sbC;rw [show (aX 2 A c).m = 1 from rfl,show (aX 2 A c).Z = z3 from rfl,if_neg no3];rfl
theorem wb4 (A:Option Addr) (c:Nat):sbL [aP 1 0 1 (-1)] 1 (aX 2 A c) = [aP 1 0 1 (-1),aP 2 1 1 (-1)]:=by
  unfold sbL
  rw [show (aX 2 A c).m = 1 from rfl,show (aX 2 A c).Z = z3 from rfl,if_neg no3]
  rfl
def aL:List PodV:=[aP 1 0 1 (-1),aP 2 1 1 (-1)]
def aL2:List PodV:=[aP 1 0 3 7,aP 2 1 1 (-1)]
theorem wc1:plC aM aL 1 1 7 1 = 0:=by decide +kernel
theorem wc2:plI aM aL 1 7 = 0:=by decide +kernel
theorem wc3:plL aM aL 1 1 7 1 = aL2:=by unfold plL;rw [wc1];rfl
theorem wc4:(appP (getL aL 1) 1 7 (-1)).h = 3:=by decide +kernel
theorem wd1:plC aM aL2 1 2 7 1 = 10:=by decide +kernel
theorem wd2:plI aM aL2 2 7 = 0:=by decide +kernel
theorem wd3:plL aM aL2 1 2 7 1 = aL2:=by unfold plL;rw [wd1];rfl
theorem we1:(getL aL2 2).h = 1:=by decide +kernel
theorem we2:decide ((2:Int) ∈ keys aL2) = true:=by decide +kernel
theorem wf1:(7:Int) ∈ nk aM:=by decide +kernel
theorem wf2:(nget aM 7).C 0 - usedL aL2 7 0 = 2:=by decide +kernel
theorem wg1:(drO aL2 7).length = 1:=by decide +kernel
theorem wg2:∀ y ∈ drO aL2 7,y.h = 5:=by
  intro y hy
  rw [show drO aL2 7 = [drP (aP 1 0 3 7)] from rfl] at hy
  rw [List.mem_singleton.1 hy]
  decide +kernel
theorem wg3:drM aM 7 = []:=rfl
theorem wg4:(drL aL2 7).length = 2:=rfl
theorem rd_one {w:World} {b:Nat} {z:Int} {T:TypeId} (h:w.heap[b]? = some (.cells #[.int .i64 z] T (0,0))) (hz:-9223372036854775808≤z∧z≤9223372036854775807):Rd w (some ⟨b,0,none⟩) 1 (fun _=>z):=by
  refine ⟨by omega,fun _ _=>hz,fun _=>⟨b,0,rfl,fun j hj=>?_⟩⟩
  obtain rfl:j = 0:=by omega
  rw [Nat.zero_add,cell_of_row w b 0 _ _ _ h]
  rfl
theorem rd_5 {w:World} {b:Nat} {T:TypeId} (h:w.heap[b]? = some (.cells #[.int .i64 5] T (0,0))):Rd w (some ⟨b,0,none⟩) 1 z5:=rd_one (z:=5) h (by omega)
theorem rd_3 {w:World} {b:Nat} {T:TypeId} (h:w.heap[b]? = some (.cells #[.int .i64 3] T (0,0))):Rd w (some ⟨b,0,none⟩) 1 z3:=rd_one (z:=3) h (by omega)
theorem ax_is {w:World} {A:Option Addr} {c:Nat} (k:Int) (hk:I64 k) (h:Rd w A 1 z3) (ha:A≠none):PodIs w (aX k A c):=⟨h,fun e=>absurd e ha,hk,(zpod_is w).rng.1,(zpod_is w).rng.1,(zpod_is w).rng.1,(zpod_is w).rng.1,(zpod_is w).rng.1,(zpod_is w).rng.1⟩
end Go.Proofs.YtnclkefddkgojaaGreatDoor.T14

namespace Go.Proofs.YtnclkefddkgojaaGreatDoor.T14
open Go.RowKit Go.Sort Go.Lib V12 T13
set_option maxRecDepth 100000 in
set_option maxHeartbeats 16000000 in
theorem awake_true {CS:PredC} (C:Con CS) (N:NewOk CS) (w:World) (hg:ErrT w):Calls Tryz.prog 9 #[] w fun e w'=>e = .returned (.bool true)∧Keep w w':=by
  obtain ⟨f10,hf10⟩:∃ v,v = flt 10 0:=⟨_,rfl⟩
  have t10:Hid (∀ W,Keep w W→Calls Tryz.prog 24 #[f10,.int .i64 10,.int .i64 0] W fun e w'=>e = .returned (.bool true)∧Keep W w'):=fun W k=>by rw [hf10];exact told_yes 10 0 W (hg.keep k)
  obtain ⟨f5,hf5⟩:∃ v,v = flt 5 0:=⟨_,rfl⟩
  have t5:Hid (∀ W,Keep w W→Calls Tryz.prog 24 #[f5,.int .i64 5,.int .i64 0] W fun e w'=>e = .returned (.bool true)∧Keep W w'):=fun W k=>by rw [hf5];exact told_yes 5 0 W (hg.keep k)
  have cN:Hid (Calls Tryz.prog 8 #[.int .i64 1] w fun e w'=>∃ q,e = .returned (.pointer (some ⟨q,0,none⟩))∧CS w 1 q [] [] (fun _=>False) w'∧Keep w w'):=N 1 w w (Keep.refl w) (by omega)
  have cZ:Hid (∀ W,Keep w W→Calls Tryz.prog 26 #[.pointer none,.agg #[.int .i64 0,.slice none 0 0]] W fun e w'=>e = .returned f5∧Keep W w'):=fun W k=>by rw [hf5];exact C.addNil none 0 0 0 W (hg.keep k)
  have cP0:=Lib.hid C.podsNil
  replace hf10:=Lib.hid hf10
  replace hf5:=Lib.hid hf5
  replace hg:=Lib.hid hg
  go_enter Tryz.func9,Tryz.ntmps9
  go_wp2_with fail
  refine cN.out.mono ?_
  rintro e w1 ⟨q,rfl,o1,_⟩
  replace o1:=Lib.hid o1
  clear cN
  obtain ⟨ba,hba⟩:∃ b,b = w1.heap.size:=⟨_,rfl⟩
  obtain ⟨Wa,hWa⟩:∃ W,W = w1.alloc (.cells #[.int .i64 5] 2):=⟨_,rfl⟩
  have Ka:Hid (Keep w1 Wa):=by rw [hWa];exact Keep.one _ _
  have Ba:Hid (Wa.heap[ba]? = some (.cells #[.int .i64 5] 2 (0,0))):=by rw [hWa,hba];exact heap_alloc_new _ _
  have oa:=Lib.hid (C.keep o1.out Ka.out)
  have cA:Hid (Calls Tryz.prog 26 #[.pointer (some ⟨q,0,none⟩),.agg #[.int .i64 7,.slice (some ⟨ba,0,none⟩) 1 1]] Wa fun e w'=>e = .returned .nilIface∧CS w 1 q aM [] (fun _=>False) w'):=by
    refine (C.addNode 7 (some ⟨ba,0,none⟩) 1 1 z5 oa.out (hg.out.keep (C.kp oa.out)) (rd_5 Ba.out) (fun e=>by cases e) (by unfold I64;omega) (by omega) (Nat.zero_le _)).mono ?_
    rintro e w' ⟨h1,h2,_⟩
    rw [wa1,wa2] at h1
    rw [wa3] at h2
    exact ⟨h1,h2⟩
  go_wp2_with fail
  rw [← hWa,← hba]
  replace hWa:=Lib.hid hWa
  replace hba:=Lib.hid hba
  refine cA.out.mono ?_
  rintro e w2 ⟨rfl,o2⟩
  replace o2:=Lib.hid o2
  clear cA
  obtain ⟨bs1,hbs1⟩:∃ b,b = w2.heap.size:=⟨_,rfl⟩
  have sz1:w2.heap.size = bs1:=by rw [hbs1]
  obtain ⟨Ws1,hWs1⟩:∃ W,W = w2.alloc (.cells #[.int .i64 3] 2):=⟨_,rfl⟩
  have Ks1:Hid (Keep w2 Ws1):=by rw [hWs1];exact Keep.one _ _
  have Bs1:Hid (Ws1.heap[bs1]? = some (.cells #[.int .i64 3] 2 (0,0))):=by rw [hWs1,← sz1];exact heap_alloc_new _ _
  clear sz1
  have os1:=Lib.hid (C.keep o2.out Ks1.out)
  have cS1:Hid (Calls Tryz.prog 33 #[.pointer (some ⟨q,0,none⟩),(aX 1 (some ⟨bs1,0,none⟩) 1).val] Ws1 fun e w'=>∃ r:PodV,e = .returned (.tuple #[r.val,.nilIface])∧CS w 1 q aM [aP 1 0 1 (-1)] (fun _=>False) w'):=by
    refine (C.submit (aX 1 (some ⟨bs1,0,none⟩) 1) os1.out (hg.out.keep (C.kp os1.out)) (ax_is 1 (by unfold I64;omega) (rd_3 Bs1.out) (fun e=>by cases e)) (by show (1:Nat)≤1000;omega) (by decide)).mono ?_
    rintro e w' ⟨r,h1,_,_,_,_,h2,_⟩
    rw [wb1,show wrI 1 (aX 1 (some ⟨bs1,0,none⟩) 1).m (aX 1 (some ⟨bs1,0,none⟩) 1).Z = 0 from wb0] at h1
    rw [wb2] at h2
    exact ⟨r,h1,h2⟩
  unfold aX PodV.val at cS1
  simp only at cS1
  go_wp2_with fail
  rw [← hWs1,← hbs1]
  replace hWs1:=Lib.hid hWs1
  replace hbs1:=Lib.hid hbs1
  refine cS1.out.mono ?_
  rintro e w3 ⟨r1,rfl,o3⟩
  replace o3:=Lib.hid o3
  clear cS1
  obtain ⟨bp1,hbp1⟩:∃ b,b = w3.heap.size:=⟨_,rfl⟩
  obtain ⟨Wp1,hWp1⟩:∃ W,W = w3.alloc (.cells (podB r1) 35):=⟨_,rfl⟩
  have Kp1:Hid (Keep w3 Wp1):=by rw [hWp1];exact Keep.one _ _
  have p3:=Lib.hid (C.keep o3.out Kp1.out)
  unfold podB at hWp1
  obtain ⟨bs2,hbs2⟩:∃ b,b = bp1 + 1:=⟨_,rfl⟩
  have sz2:Wp1.heap.size = bs2:=by rw [hWp1,World.size_alloc,hbs2,hbp1]
  obtain ⟨Ws2,hWs2⟩:∃ W,W = Wp1.alloc (.cells #[.int .i64 3] 2):=⟨_,rfl⟩
  have Ks2:Hid (Keep Wp1 Ws2):=by rw [hWs2];exact Keep.one _ _
  have Bs2:Hid (Ws2.heap[bs2]? = some (.cells #[.int .i64 3] 2 (0,0))):=by rw [hWs2,← sz2];exact heap_alloc_new _ _
  clear sz2
  have os2:=Lib.hid (C.keep p3.out Ks2.out)
  have cS2:Hid (Calls Tryz.prog 33 #[.pointer (some ⟨q,0,none⟩),(aX 2 (some ⟨bs2,0,none⟩) 1).val] Ws2 fun e w'=>∃ r:PodV,e = .returned (.tuple #[r.val,.nilIface])∧CS w 1 q aM aL (fun _=>False) w'):=by
    refine (C.submit (aX 2 (some ⟨bs2,0,none⟩) 1) os2.out (hg.out.keep (C.kp os2.out)) (ax_is 2 (by unfold I64;omega) (rd_3 Bs2.out) (fun e=>by cases e)) (by show (1:Nat)≤1000;omega) (by decide)).mono ?_
    rintro e w' ⟨r,h1,_,_,_,_,h2,_⟩
    rw [wb3,show wrI 1 (aX 2 (some ⟨bs2,0,none⟩) 1).m (aX 2 (some ⟨bs2,0,none⟩) 1).Z = 0 from wb0] at h1
    rw [wb4] at h2
    exact ⟨r,h1,h2⟩
  unfold aX PodV.val at cS2
  simp only at cS2
  go_wp2_with fail
  rw [← hWp1]
  try rw [← hbp1]
  replace hWp1:=Lib.hid hWp1
  replace hbp1:=Lib.hid hbp1
  rw [← hWs2,← hbs2]
  replace hWs2:=Lib.hid hWs2
  replace hbs2:=Lib.hid hbs2
  refine cS2.out.mono ?_
  rintro e w4 ⟨r2,rfl,o4⟩
  replace o4:=Lib.hid o4
  clear cS2
  obtain ⟨bp2,hbp2⟩:∃ b,b = w4.heap.size:=⟨_,rfl⟩
  obtain ⟨Wp2,hWp2⟩:∃ W,W = w4.alloc (.cells (podB r2) 35):=⟨_,rfl⟩
  have Kp2:Hid (Keep w4 Wp2):=by rw [hWp2];exact Keep.one _ _
  have p4:=Lib.hid (C.keep o4.out Kp2.out)
  unfold podB at hWp2
  have cB1:Hid (Calls Tryz.prog 29 #[.pointer (some ⟨q,0,none⟩),.int .i64 1,.int .i64 7] Wp2 fun e w'=>∃ r:PodV,e = .returned (.tuple #[r.val,.nilIface])∧r.h = 3∧CS w 1 q aM aL2 (fun _=>False) w'):=by
    refine (C.bind 1 7 p4.out (hg.out.keep (C.kp p4.out)) (by unfold I64;omega) (by unfold I64;omega) (by decide) (by decide)).mono ?_
    rintro e w' ⟨r,h1,h2,_,_,_,h3,_⟩
    rw [wc1,wc2] at h1
    rw [wc3] at h3
    have h4:=congrArg PodV.h (h2 wc1)
    rw [nm_h,wc4] at h4
    exact ⟨r,h1,h4,h3⟩
  unfold PodV.val at cB1
  go_wp2_with fail
  rw [← hWp2]
  try rw [← hbp2]
  replace hWp2:=Lib.hid hWp2
  replace hbp2:=Lib.hid hbp2
  refine cB1.out.mono ?_
  rintro e w5 ⟨r3,rfl,rh3,o5⟩
  replace o5:=Lib.hid o5
  clear cB1
  obtain ⟨bp3,hbp3⟩:∃ b,b = w5.heap.size:=⟨_,rfl⟩
  obtain ⟨Wp3,hWp3⟩:∃ W,W = w5.alloc (.cells (podB r3) 35):=⟨_,rfl⟩
  have Kp3:Hid (Keep w5 Wp3):=by rw [hWp3];exact Keep.one _ _
  have A8:Hid (Wp3.heap[bp3]? = some (.cells (podB r3) 35 (0,0))):=by rw [hWp3,hbp3];exact heap_alloc_new _ _
  have p5:=Lib.hid (C.more o5.out Kp3.out (Z:=fun i=>i = bp3) (fun i hi=>by have:=lt_of_block A8.out;omega))
  unfold podB at hWp3
  replace rh3:=Lib.hid rh3
  have cB2:Hid (Calls Tryz.prog 29 #[.pointer (some ⟨q,0,none⟩),.int .i64 2,.int .i64 7] Wp3 fun e w'=>∃ r:PodV,e = .returned (.tuple #[r.val,f10])∧CS w 1 q aM aL2 (fun i=>False∨i = bp3) w'∧SameX (fun i=>False∨i = bp3) Wp3 w'):=by
    refine (C.bind 2 7 p5.out (hg.out.keep (C.kp p5.out)) (by unfold I64;omega) (by unfold I64;omega) (by decide) (by decide)).mono ?_
    rintro e w' ⟨r,h1,_,_,_,_,h3,h4⟩
    rw [wd1,wd2,show fltA 10 0 = flt 10 0 from rfl,← hf10.out] at h1
    rw [wd3] at h3
    exact ⟨r,h1,h3,h4⟩
  unfold PodV.val at cB2
  go_wp2_with fail
  rw [← hWp3]
  try rw [← hbp3]
  replace hWp3:=Lib.hid hWp3
  replace hbp3:=Lib.hid hbp3
  refine cB2.out.mono ?_
  rintro e w6 ⟨r4,rfl,o6,s6⟩
  replace o6:=Lib.hid o6
  replace A8:Hid (w6.heap[bp3]? = some (.cells (podB r3) 35 (0,0))):=(s6 bp3 (Or.inr rfl)).trans A8.out
  clear cB2 s6
  obtain ⟨bp4,hbp4⟩:∃ b,b = w6.heap.size:=⟨_,rfl⟩
  obtain ⟨Wp4,hWp4⟩:∃ W,W = w6.alloc (.cells (podB r4) 35):=⟨_,rfl⟩
  have Kp4:Hid (Keep w6 Wp4):=by rw [hWp4];exact Keep.one _ _
  have p6:=Lib.hid (C.keep o6.out Kp4.out)
  replace A8:Hid (Wp4.heap[bp3]? = some (.cells (podB r3) 35 (0,0))):=Kp4.out.block A8.out
  unfold podB at hWp4
  have cPd:Hid (Calls Tryz.prog 13 #[.pointer (some ⟨q,0,none⟩),.int .i64 2] Wp4 fun e w'=>∃ r:PodV,e = .returned (.tuple #[r.val,.bool true])∧r.h = 1∧Keep Wp4 w'):=by
    refine (C.pod 2 p6.out (by unfold I64;omega) (by decide)).mono ?_
    rintro e w' ⟨r,h1,h2,_,_,h3⟩
    rw [we2] at h1
    have h4:=congrArg PodV.h h2
    rw [nm_h,we1] at h4
    exact ⟨r,h1,h4,h3⟩
  unfold PodV.val at cPd
  go_wp2_with fail
  rw [← hWp4]
  try rw [← hbp4]
  replace hWp4:=Lib.hid hWp4
  replace hbp4:=Lib.hid hbp4
  refine cPd.out.mono ?_
  rintro e w7 ⟨r5,rfl,rh5,k7⟩
  have o7:=Lib.hid (C.keep p6.out k7)
  replace A8:Hid (w7.heap[bp3]? = some (.cells (podB r3) 35 (0,0))):=k7.block A8.out
  replace k7:=Lib.hid k7
  clear cPd
  obtain ⟨bp5,hbp5⟩:∃ b,b = w7.heap.size:=⟨_,rfl⟩
  obtain ⟨Wp5,hWp5⟩:∃ W,W = w7.alloc (.cells (podB r5) 35):=⟨_,rfl⟩
  have Kp5:Hid (Keep w7 Wp5):=by rw [hWp5];exact Keep.one _ _
  have A12:Hid (Wp5.heap[bp5]? = some (.cells (podB r5) 35 (0,0))):=by rw [hWp5,hbp5];exact heap_alloc_new _ _
  have p7:=Lib.hid (C.more o7.out Kp5.out (Z:=fun i=>i = bp5) (fun i hi=>by have:=lt_of_block A12.out;omega))
  replace A8:Hid (Wp5.heap[bp3]? = some (.cells (podB r3) 35 (0,0))):=Kp5.out.block A8.out
  unfold podB at hWp5
  replace rh5:=Lib.hid rh5
  have cFr:Hid (Calls Tryz.prog 28 #[.pointer (some ⟨q,0,none⟩),.int .i64 7] Wp5 fun e w'=>∃ g o c,e = .returned (.slice (some ⟨g,o,none⟩) 1 c)∧w'.cell? ⟨g,o,none⟩ = some (.int .i64 2)∧Wp5.heap.size≤g∧Keep Wp5 w'):=by
    refine (C.free 7 p7.out (by unfold I64;omega) (by decide) (by decide)).mono ?_
    rintro e w' ⟨FA,fn,c,h1,h2,_,h4⟩
    obtain ⟨h5,h6,h7⟩:=h2 wf1
    rw [h5] at h1 h7
    obtain ⟨g,o,e2,hc⟩:=h6.adr (by omega)
    have h8:=hc 0 (by omega)
    simp only [wf2] at h8
    rw [e2] at h1
    exact ⟨g,o,c,h1,h8,h7 g o (by omega) e2,h4⟩
  go_wp2_with fail
  rw [← hWp5]
  try rw [← hbp5]
  replace hWp5:=Lib.hid hWp5
  replace hbp5:=Lib.hid hbp5
  refine cFr.out.mono ?_
  rintro e w8 ⟨gf,off,fc,rfl,f0,hgf,k8⟩
  have o8:=Lib.hid (C.more p7.out k8 (Z:=fun i=>i = gf) (fun i hi=>by have:=cell_lt f0;rw [hi];exact ⟨hgf,this⟩))
  replace A8:Hid (w8.heap[bp3]? = some (.cells (podB r3) 35 (0,0))):=k8.block A8.out
  replace A12:Hid (w8.heap[bp5]? = some (.cells (podB r5) 35 (0,0))):=k8.block A12.out
  replace k8:=Lib.hid k8
  replace f0:=Lib.hid f0
  replace hgf:=Lib.hid hgf
  clear cFr
  have cDr:Hid (Calls Tryz.prog 23 #[.pointer (some ⟨q,0,none⟩),.int .i64 7] w8 fun e w'=>∃ gl ol lc,e = .returned (.tuple #[.slice (some ⟨gl,ol,none⟩) 1 lc,.nilIface])∧w'.cell? ⟨gl,ol + 6,none⟩ = some (.int .i64 5)∧CS w 1 q [] (drL aL2 7) (fun i=>((False∨i = bp3)∨i = bp5)∨i = gf) w'∧SameX (fun i=>((False∨i = bp3)∨i = bp5)∨i = gf) w8 w'):=by
    refine (C.dropNode 7 o8.out (hg.out.keep (C.kp o8.out)) (by unfold I64;omega) (by decide) (by decide)).mono ?_
    rintro e w' ⟨h1,_⟩
    obtain ⟨v,S,h2,h3,h4,h5,h6⟩:=h1 wf1
    rw [wg1] at h3 h4
    obtain ⟨LA,lc,rfl,h7⟩:=h3.rd (by omega)
    obtain ⟨gl,ol,rfl,h8⟩:=h7.adr (by omega)
    have h9:=(h8 0 (by omega)).e6
    have h10:nm (S 0) ∈ drO aL2 7:=by rw [← h4];exact List.mem_map_of_mem (lst_mem.2 ⟨0,by omega,rfl⟩)
    have h11:=wg2 _ h10
    rw [nm_h] at h11
    rw [h11] at h9
    simp only [Nat.zero_mul,Nat.add_zero] at h9
    rw [wg3] at h5
    exact ⟨gl,ol,lc,h2,h9,h5,h6⟩
  go_wp2_with fail
  refine cDr.out.mono ?_
  rintro e w9 ⟨gl,ol,lc,rfl,l6,o9,s9⟩
  replace A8:Hid (w9.heap[bp3]? = some (.cells (podB r3) 35 (0,0))):=(s9 bp3 (Or.inl (Or.inl (Or.inr rfl)))).trans A8.out
  replace A12:Hid (w9.heap[bp5]? = some (.cells (podB r5) 35 (0,0))):=(s9 bp5 (Or.inl (Or.inr rfl))).trans A12.out
  replace f0:Hid (w9.cell? ⟨gf,off,none⟩ = some (.int .i64 2)):=cell_same f0.out (s9 gf (Or.inr rfl))
  replace o9:=Lib.hid o9
  have K9:Hid (Keep w w9):=C.kp o9.out
  clear cDr s9
  have x6:w9.cell? ⟨bp3,6,none⟩ = some (.int .i64 3):=by rw [← rh3.out];exact (blk9 A8.out).e6
  have y6:w9.cell? ⟨bp5,6,none⟩ = some (.int .i64 1):=by rw [← rh5.out];exact (blk9 A12.out).e6
  have q1:∀ W,(Instr.indexAt 28 (.slice (some ⟨gl,ol,none⟩) 1 lc) (.int .i64 0)).run Tryz.prog W = .ok (.pointer (some ⟨gl,ol,none⟩)) W:=fun W=>by
    have:=pods_at gl ol 1 lc 0 (by omega) W
    simpa using this
  have c10:=Lib.hid (t10.out w9 K9.out)
  go_wp2_with fail
  refine c10.out.mono ?_
  rintro e w10 ⟨rfl,k10⟩
  replace x6:=k10.cell x6
  replace y6:=k10.cell y6
  replace l6:=k10.cell l6
  replace o9:=Lib.hid (C.keep o9.out k10)
  replace f0:=Lib.hid (k10.cell f0.out)
  replace k10:=Lib.hid k10
  clear c10
  obtain ⟨b2,hb2⟩:∃ b,b = w10.heap.size:=⟨_,rfl⟩
  obtain ⟨W2,hW2⟩:∃ W,W = w10.alloc (.cells #[.int .i64 2] 2):=⟨_,rfl⟩
  have K2:Hid (Keep w10 W2):=by rw [hW2];exact Keep.one _ _
  have B2:Hid (W2.heap[b2]? = some (.cells #[.int .i64 2] 2 (0,0))):=by rw [hW2,hb2];exact heap_alloc_new _ _
  have cSm:Hid (Calls Tryz.prog 27 #[.slice (some ⟨gf,off,none⟩) 1 fc,.slice (some ⟨b2,0,none⟩) 1 1] W2 fun e w'=>e = .returned (.bool true)∧Keep W2 w'):=by
    refine (rsame_is (some ⟨gf,off,none⟩) (some ⟨b2,0,none⟩) 1 1 fc 1 (fun _=>2) (fun _=>2) W2 ⟨by omega,fun _ _=>by omega,fun _=>⟨gf,off,rfl,fun j hj=>?_⟩⟩ (rd_one (z:=2) B2.out (by omega)) true (by decide +kernel)).mono ?_
    · obtain rfl:j = 0:=by omega
      exact K2.out.cell f0.out
    · rintro e w' ⟨h2,qq,rfl⟩
      exact ⟨h2,(Gr.refl W2 |>.drewN qq).keep⟩
  have x6h:=Lib.hid x6
  have y6h:=Lib.hid y6
  have l6h:=Lib.hid l6
  go_wp2_with fail
  rw [← hW2]
  try rw [← hb2]
  replace hW2:=Lib.hid hW2
  replace hb2:=Lib.hid hb2
  refine cSm.out.mono ?_
  rintro e w11 ⟨rfl,k11⟩
  have K11:Hid (Keep w10 w11):=K2.out.trans k11
  replace k11:=Lib.hid k11
  replace o9:=Lib.hid (C.keep o9.out K11.out)
  clear x6 y6 cSm
  replace l6:=K11.out.cell l6
  have cNs:Hid (Calls Tryz.prog 17 #[.pointer (some ⟨q,0,none⟩)] w11 fun e w'=>∃ A c,e = .returned (.slice A 0 c)∧Keep w11 w'):=(C.nodes o9.out (Nat.zero_le _)).mono fun _ _ ⟨A,c,h1,_,h3⟩=>⟨A,c,h1,h3⟩
  go_wp2_with fail
  refine cNs.out.mono ?_
  rintro e w12 ⟨NA,nc,rfl,k12⟩
  replace o9:=Lib.hid (C.keep o9.out k12)
  replace k12:=Lib.hid k12
  clear cNs l6
  have cPs:Hid (Calls Tryz.prog 18 #[.pointer (some ⟨q,0,none⟩)] w12 fun e w'=>∃ A c,e = .returned (.slice A 2 c)∧Keep w12 w'):=(C.pods o9.out (by decide)).mono fun _ _ ⟨v,S,h1,h2,_,h4⟩=>by
    rw [wg4] at h2
    obtain ⟨A,c,rfl,_⟩:=h2.rd (by omega)
    exact ⟨A,c,h1,h4⟩
  go_wp2_with fail
  refine cPs.out.mono ?_
  rintro e w13 ⟨PA,pc,rfl,k13⟩
  replace o9:=Lib.hid (C.keep o9.out k13)
  replace k13:=Lib.hid k13
  clear cPs
  have cDi:Hid (Calls Tryz.prog 34 #[.pointer (some ⟨q,0,none⟩)] w13 fun e w'=>e = .returned (.int .i64 1)∧Keep w13 w'):=C.dims o9.out
  go_wp2_with fail
  refine cDi.out.mono ?_
  rintro e w14 ⟨rfl,k14⟩
  replace o9:=Lib.hid (C.keep o9.out k14)
  replace k14:=Lib.hid k14
  clear cDi
  have K14:Hid (Keep w w14):=C.kp o9.out
  go_wp2_with fail
  refine (cZ.out w14 K14.out).mono ?_
  rintro e w15 ⟨rfl,k15⟩
  have K15:Hid (Keep w w15):=K14.out.trans k15
  replace k15:=Lib.hid k15
  go_wp2_with fail
  refine (t5.out w15 K15.out).mono ?_
  rintro e w16 ⟨rfl,k16⟩
  have K16:Hid (Keep w w16):=K15.out.trans k16
  replace k16:=Lib.hid k16
  go_wp2_with fail
  refine (cP0.out w16).mono ?_
  rintro e w17 ⟨ZA,zc,rfl,k17⟩
  have K17:Hid (Keep w w17):=K16.out.trans k17
  replace k17:=Lib.hid k17
  go_wp2
  go_ret
  exact ⟨rfl,K17.out⟩
end Go.Proofs.YtnclkefddkgojaaGreatDoor.T14

