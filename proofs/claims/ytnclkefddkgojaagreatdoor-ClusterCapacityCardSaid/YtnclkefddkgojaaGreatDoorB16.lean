/-
  The reference's Drop. Conditions: at most 100 nodes and 100 pods.
-/
import Derived.Test.YtnclkefddkgojaaGreatDoorB15
namespace Go.Proofs.YtnclkefddkgojaaGreatDoor.T14
open Go.RowKit Go.Sort Go.Lib V12 T13
theorem keep_at {w w':World} (k:Keep w w') {i:Nat} (h:i < w.heap.size):w'.heap[i]? = w.heap[i]?:=Below.block (show Below w.heap.size w w' from k) i h
section
variable {w w1 w2 wr w3 w4:World} {X Z:Nat→Prop} {bx b:Nat} {y y2:RcV} {O:Option Addr} {j dO:Nat} {xs:List Value} {P P2:Nat→PodV}
theorem step_store {B B2:Option Addr} {c' m' c2 n2:Nat} {d:Int} {A:Option Addr} {n c:Nat} (K1:Keep w1 wr) (SZ:w2.heap.size≤wr.heap.size) (FB:∀ i,i < w2.heap.size→i≠bx→wr.heap[i]? = w2.heap[i]?) (BX:wr.heap[bx]? = some (.cells (⟨d,A,n,c,B,m',c'⟩:RcV).arr 30 (0,0)))
    (hX:∀ i,X i→i < w1.heap.size) (ZF:∀ i,Z i→w2.heap.size≤i∧i < wr.heap.size∧(Value.slice O j dO).ownBlock≠some i) (OWN:wr.ownsRow w2.heap.size 35 9 (.slice O j dO) j xs) (h1:w1.heap.size≤bx) (h2:bx < w2.heap.size)
    (k3:Keep wr w3) (RL3:RL w (fun i=>(X i∨Z i)∨(wr.heap.size≤i∧i < w3.heap.size)) w3 B2 c2 n2 P2) (hw:w4 = w3.setCell ⟨bx,2,none⟩ (.slice B2 n2 c2)) (kw:Keep w w1:=by assumption) :
    Keep w1 w4∧w2.heap.size≤w4.heap.size∧(∀ i,i < w2.heap.size→i≠bx→w4.heap[i]? = w2.heap[i]?)∧w4.heap[bx]? = some (.cells (⟨d,A,n,c,B2,n2,c2⟩:RcV).arr 30 (0,0))∧RL w (fun i=>X i∨(Z i∨(wr.heap.size≤i∧i < w3.heap.size))) w4 B2 c2 n2 P2 ∧
      (∀ i,(Z i∨(wr.heap.size≤i∧i < w3.heap.size))→w2.heap.size≤i∧i < w4.heap.size∧(Value.slice O j dO).ownBlock≠some i)∧w4.ownsRow w2.heap.size 35 9 (.slice O j dO) j xs:=by
  have s3:=k3.size
  have sz:w4.heap.size = w3.heap.size:=by rw [hw];simp
  have far:∀ i,i≠bx→w4.heap[i]? = w3.heap[i]?:=fun i hi=>by rw [hw];exact Below.heap_setCell _ _ _ _ hi
  have kk:Keep w1 w4:=by rw [hw];exact (K1.trans k3).set h1 _
  refine ⟨kk,by omega,fun i hi hn=>((far i hn).trans (keep_at k3 (by omega))).trans (FB i hi hn),?_,?_,fun i hi=>?_,?_⟩
  · rw [hw];exact (three_set (k3.block BX)).2.2
  · refine ((RL3.same (kw.trans kk)) fun i hi=>far i fun e=>?_).less fun i hi=>?_
    · subst e
      rcases hi with (hi | hi) | hi
      · have:=hX _ hi;omega
      · have:=(ZF _ hi).1;omega
      · omega
    · rcases hi with (hi | hi) | hi
      · exact Or.inl hi
      · exact Or.inr (Or.inl hi)
      · exact Or.inr (Or.inr hi)
  · rcases hi with hi | hi
    · have:=ZF i hi
      exact ⟨this.1,by omega,this.2.2⟩
    · refine ⟨by omega,by omega,fun e=>?_⟩
      have:=(OWN.lt i e).2
      omega
  · exact own_blocks1 (own_keep OWN k3) fun g hg=>far g fun e=>by
      have:=(OWN.lt g hg).1
      omega
theorem step_append {w6 w7:World} {B:Option Addr} {c' m':Nat} {d:Int} {A:Option Addr} {n c:Nat} {O7:Option Addr} {d7:Nat} {w5:World} (K1:Keep w1 wr) (SZ:w2.heap.size≤wr.heap.size) (FB:∀ i,i < w2.heap.size→i≠bx→wr.heap[i]? = w2.heap[i]?) (BX:wr.heap[bx]? = some (.cells (⟨d,A,n,c,B,m',c'⟩:RcV).arr 30 (0,0)))
    (RLr:RL w (fun i=>X i∨Z i) wr B c' m' P) (hX:∀ i,X i→i < w1.heap.size) (ZF:∀ i,Z i→w2.heap.size≤i∧i < wr.heap.size∧(Value.slice O j dO).ownBlock≠some i) (OWN:wr.ownsRow w2.heap.size 35 9 (.slice O j dO) j xs) (h12:w1.heap.size≤w2.heap.size) (h2:bx < w2.heap.size)
    (k6:Keep wr w6) (s6:w6.heap.size = w5.heap.size + 1) (g7:w6.grownBy w7 (Value.slice O j dO).ownBlock) (hb:∀ g,(Value.slice O7 (j + 1) d7).ownBlock = some g→(Value.slice O j dO).ownBlock = some g∨w6.heap.size≤g) (kw:Keep w w1:=by assumption) :
    Keep w1 w7∧w2.heap.size≤w7.heap.size∧(∀ i,i < w2.heap.size→i≠bx→w7.heap[i]? = w2.heap[i]?)∧w7.heap[bx]? = some (.cells (⟨d,A,n,c,B,m',c'⟩:RcV).arr 30 (0,0))∧RL w (fun i=>X i∨Z i) w7 B c' m' P ∧
      (∀ i,Z i→w2.heap.size≤i∧i < w7.heap.size∧(Value.slice O7 (j + 1) d7).ownBlock≠some i):=by
  have lo:∀ g,(Value.slice O j dO).ownBlock = some g→w2.heap.size≤g:=fun g hg=>(OWN.lt g hg).1
  have kk:Keep w1 w7:=keep_grown (K1.trans k6) g7 fun g hg=>by have:=lo g hg;omega
  have s7:=g7.size
  have sz6:=k6.size
  have fr:∀ i,i < wr.heap.size→(Value.slice O j dO).ownBlock≠some i→w7.heap[i]? = wr.heap[i]?:=fun i hi hn=>(g7.block i (by omega) fun e=>hn e.symm).trans (keep_at k6 hi)
  refine ⟨kk,by omega,fun i hi hn=>(fr i (by omega) fun e=>?_).trans (FB i hi hn),?_,RLr.same (kw.trans kk) fun i hi=>fr i ?_ ?_,fun i hi=>?_⟩
  · have:=lo i e;omega
  · rw [fr bx (by omega) fun e=>by have:=lo bx e;omega];exact BX
  · rcases hi with hi | hi
    · have:=hX i hi;omega
    · exact (ZF i hi).2.1
  · rcases hi with hi | hi
    · intro e;have:=lo i e;have:=hX i hi;omega
    · exact (ZF i hi).2.2
  · have h:=ZF i hi
    refine ⟨h.1,by omega,fun e=>?_⟩
    rcases hb i e with e2 | e2
    · exact h.2.2 e2
    · omega
end
theorem wo_succ (P:Nat→C14.NdC) (id:Int) (j:Nat):C14.woL (C14.lst P (j + 1)) id = if (P j).k = id then C14.woL (C14.lst P j) id else C14.woL (C14.lst P j) id ++ [P j]:=by
  unfold C14.woL
  rw [C14.lst_succ,List.filter_append]
  by_cases h:(P j).k = id
  · rw [if_pos h,List.filter_cons_of_neg (by simpa using h)]
    simp
  · rw [if_neg h,List.filter_cons_of_pos (by simpa using h)]
    rfl
theorem wo_nv (L:List C14.NdC) (id:Int):(C14.woL L id).map nv = drM (L.map nv) id:=by
  unfold C14.woL drM G.wo
  rw [List.filter_map]
  rfl
theorem drop_end {w w1 w2 wo wr wF:World} {X Z:Nat→Prop} {bx b:Nat} {d:Int} {A A2:Option Addr} {n c k2 d2:Nat} {B:Option Addr} {m' c':Nat} {P:Nat→PodV} {O:Option Addr} {k dO:Nat} {L1:List PodV} {M2:List C14.NdC} {Q:Nat→C14.NdC} {X0:Nat→Prop} {ids:Int}
    (kw:Keep w w1) (K1:Keep w1 wo) (KO:Keep wo wr) (BX:wo.heap[bx]? = some (.cells (⟨d,A,n,c,B,m',c'⟩:RcV).arr 30 (0,0))) (BZ:wo.heap[b]? = some (.cells zrc.arr 30 (0,0))) (RLr:RL w (fun i=>X i∨Z i) wo B c' m' P)
    (hX:∀ i,X i→i < w1.heap.size) (ZF:∀ i,Z i→w2.heap.size≤i∧i < wo.heap.size∧(Value.slice O k dO).ownBlock≠some i) (OWN:wo.ownsRow w2.heap.size 35 9 (.slice O k dO) k (L1.flatMap PodV.cells)) (LN:L1.length = k) (hk:k≤100) (LI:∀ x ∈ L1,PodIs w x)
    (h1:w1.heap.size≤bx) (hb:b = bx + 1) (h2:b < w2.heap.size) (hq:C14.RN w X0 wo A c n Q) (OW2:wr.ownsRow wo.heap.size 50 2 (.slice A2 k2 d2) k2 (M2.flatMap C14.NdC.cells)) (LT:M2 = C14.woL (C14.lst Q n) ids) (LM:M2.length = k2) (hn:n≤100)
    (hw:wF = put3 (wr.setCell ⟨bx,1,none⟩ (.slice A2 k2 d2)) b ⟨d,A2,k2,d2,B,m',c'⟩) :
    wF.heap[b]? = some (.cells (⟨d,A2,k2,d2,B,m',c'⟩:RcV).arr 30 (0,0))∧Keep w1 wF∧C14.RN w (fun i=>X i∨(w1.heap.size≤i∧i < wF.heap.size)) wF A2 d2 k2 (C14.row M2)∧RL w (fun i=>X i∨(w1.heap.size≤i∧i < wF.heap.size)) wF B c' m' P∧RdPods wF O k (row L1):=by
  have sO:=K1.size
  have sR:=KO.size
  have BX3:=KO.block BX
  have BZ3:=KO.block BZ
  have hlt:=lt_of_block BZ
  have far:∀ i,i≠bx→i≠b→wF.heap[i]? = wr.heap[i]?:=fun i hi hj=>by rw [hw,put3_block _ hj,Below.heap_setCell _ _ _ _ hi]
  have sz:wF.heap.size = wr.heap.size:=by rw [hw,put3_size];simp
  have Z4:(wr.setCell ⟨bx,1,none⟩ (.slice A2 k2 d2)).heap[b]? = some (.cells zrc.arr 30 (0,0)):=(Below.heap_setCell _ _ _ _ (by omega:b≠bx)).trans BZ3
  have kk:Keep w1 wF:=by rw [hw];exact put3_keep _ ((K1.trans KO).set h1 _) (by omega)
  have ow:wF.ownsRow wo.heap.size 50 2 (.slice A2 k2 d2) k2 (C14.rnCs (C14.row M2) k2):=by
    rw [← LM,C14.rnCs_row,LM]
    exact C14.own_blocks1 OW2 fun g hg=>by
      have:=(OW2.lt g hg).1
      exact far g (by omega) (by omega)
  have mem:∀ j,j < k2→∃ i,i < n∧C14.row M2 j = Q i:=fun j hj=>by
    have hm:C14.row M2 j ∈ M2:=by
      unfold C14.row
      rw [List.getD_eq_getElem?_getD,List.getElem?_eq_getElem (by omega)]
      exact List.getElem_mem _
    rw [LT] at hm
    obtain ⟨i,hi,e⟩:=C14.lst_mem.1 (C14.wo_mem hm)
    exact ⟨i,hi,by rw [LT];exact e.symm⟩
  have hkn:k2≤n:=by
    have:=C14.wo_len (C14.lst Q n) ids
    rw [C14.lst_len,← LT,LM] at this
    exact this
  refine ⟨by rw [hw];exact put3_heap _ zrc Z4,kk,⟨C14.rows_rd ow (by omega) fun j hj=>?_,C14.own_cap ow,?_,fun j hj=>?_⟩,?_,?_⟩
  · obtain ⟨i,hi,e⟩:=mem j hj
    rw [e];exact hq.rd.ok i hi
  · rcases ow.2 with ⟨hv,h0⟩ | ⟨g,cap,cur,hv,_⟩
    · simp only [Value.slice.injEq] at hv
      exact Or.inl hv
    · simp only [Value.slice.injEq] at hv
      obtain ⟨rfl,_,_⟩:=hv
      have:=ow.lt g rfl
      exact Or.inr ⟨g,rfl,Or.inr ⟨by omega,this.2⟩⟩
  · obtain ⟨i,hi,e⟩:=mem j hj
    rw [e];exact hq.is i hi
  · refine ((RLr.keep KO).same (kw.trans kk) fun i hi=>?_).less fun i hi=>?_
    · rcases hi with hi | hi
      · have:=hX i hi
        exact far i (by omega) (by omega)
      · have:=ZF i hi
        exact far i (by omega) (by omega)
    · rcases hi with hi | hi
      · exact Or.inl hi
      · have:=ZF i hi
        exact Or.inr ⟨by omega,by omega⟩
  · refine own_pods (own_blocks1 (own_keep OWN KO) fun g hg=>?_) LN (by omega) (kw.trans kk) LI
    have:=(OWN.lt g hg).1
    exact far g (by omega) (by omega)
theorem drop_app {w:World} {X:Nat→Prop} {wr W:World} {B:Option Addr} {c n:Nat} {P:Nat→PodV} {L:List PodV} {id ev:Int} (h:RL w X wr B c n P) (hL:(lst P n).map nm = L) (hok:LOk L) (k:Keep wr W) (hn:n≤1000) (hc:appC L id ev = 0) :
    Calls Tryz.prog 70 #[.slice B n c,.int .i64 id,.int .i64 ev,.int .i64 (-1),.int .i64 (-1)] W fun e w'=>∃ B2 c2 n2 P2,e = .returned (.tuple #[.slice B2 n2 c2,.int .i64 0])∧Keep W w'∧RL w (fun i=>X i∨(wr.heap.size≤i∧i < w'.heap.size)) w' B2 c2 n2 P2∧(lst P2 n2).map nm = appL L id ev (-1) (-1)∧(True→∃ t,t < n2∧findN P2 id n2 = (t:Int)∧nm (P2 t) = appP (getL L id) ev (-1) (-1)):=by
  refine (rl_app (h.keep k) hL hok id ev (-1) (-1) (by unfold I64;omega) (by unfold I64;omega) hn).mono ?_
  rintro e w' ⟨B',c',n',P',he,kk,rl,hl,hf⟩
  rw [hc] at he
  have:=k.size
  exact ⟨B',c',n',P',he,kk,rl.less fun i hi=>hi.imp (fun x=>x) fun hi=>⟨by omega,hi.2⟩,hl,fun _=>hf hc⟩
set_option maxRecDepth 100000 in
set_option maxHeartbeats 16000000 in
theorem rc_drop {w:World} {X:Nat→Prop} {w1:World} (d:Nat) (A:Option Addr) (n c:Nat) (B0:Option Addr) (m e:Nat) {Q:Nat→C14.NdC} {M:List NV} {P:Nat→PodV} {L:List PodV} (h:RL w X w1 B0 e m P) (hL:(lst P m).map nm = L) (hok:LOk L) (hq:C14.RN w X w1 A c n Q) (hM:(C14.lst Q n).map nv = M) (hdn:∀ j,j < n→(Q j).n = d) (id:Int) (hid:I64 id) (kw:Keep w w1) (hX:∀ i,X i→i < w1.heap.size) (hm:m≤100) (hn:n≤100) :
    Calls Tryz.prog 38 #[(⟨d,A,n,c,B0,m,e⟩:RcV).val,.int .i64 id] w1 (DrPost w w1 X d M L id):=by
  have mixed:Tryz.prog.follows .mixedOrders = true:=by kernel_rfl
  obtain ⟨W0,hW0⟩:∃ W0,W0 = w1.alloc (.cells (⟨d,A,n,c,B0,m,e⟩:RcV).arr 30):=⟨_,rfl⟩
  obtain ⟨W,hW⟩:∃ W,W = W0.alloc (.cells zrc.arr 30):=⟨_,rfl⟩
  obtain ⟨bx,hbx⟩:∃ bx,bx = w1.heap.size:=⟨_,rfl⟩
  obtain ⟨b,hb⟩:∃ b,b = w1.heap.size + 1:=⟨_,rfl⟩
  have s0:W0.heap.size = b:=by rw [hW0,World.size_alloc,hb]
  have KW:Hid (Keep w1 W):=by rw [hW,hW0];exact (Keep.one _ _:Keep w1 _).alloc _
  have BX:Hid (W.heap[bx]? = some (.cells (⟨d,A,n,c,B0,m,e⟩:RcV).arr 30 (0,0))):=by show _ = _;rw [hW,hW0,hbx];exact (Keep.one _ _).block (heap_alloc_new _ _)
  have BZ:Hid (W.heap[b]? = some (.cells zrc.arr 30 (0,0))):=by show _ = _;rw [hW,← s0];exact heap_alloc_new _ _
  have cO:=Lib.hid (ron_fn B0 m e P id W (h.rd.keep KW.out) (by omega))
  obtain ⟨c0,c1,c2,cf⟩:=rc_cells BX.out
  obtain ⟨F,hF⟩:∃ F,F = (lst P m).filter (onB id):=⟨_,rfl⟩
  rw [← hF] at cO
  have hFL:Hid (F.map nm = L.filter (onB id)):=by show _ = _;rw [hF,filter_nm,hL]
  have hFm:Hid (∀ x ∈ F,PodIs w x):=fun x hx=>by
    rw [hF,List.mem_filter] at hx
    obtain ⟨i,hi,rfl⟩:=lst_mem.1 hx.1
    exact h.is i hi
  replace hF:=Lib.hid hF
  have h':=Lib.hid h
  have hq':=Lib.hid hq
  have hL':=Lib.hid hL
  have hM':=Lib.hid hM
  have hX':=Lib.hid hX
  have hok':=Lib.hid hok
  have hdn':=Lib.hid hdn
  have hid':=Lib.hid hid
  have kw':=Lib.hid kw
  clear h hq hL hM hX hok hdn hid
  simp only [RcV.arr] at hW0
  simp only [RcV.arr,zrc] at hW
  simp only [RcV.val]
  have c2e:=c2
  rw [hW,hW0] at c2e
  go_enter Tryz.func38,Tryz.ntmps38
  go_wp2_with fail
  clear c2e
  rw [← hW0,← hW,← hb]
  try rw [← hbx]
  replace hW0:=Lib.hid hW0
  replace hW:=Lib.hid hW
  have hbx1:Hid (w1.heap.size≤bx):=by show _≤_;omega
  have hb1:Hid (b = bx + 1):=by show _ = _;omega
  replace hb:=Lib.hid hb
  replace hbx:=Lib.hid hbx
  replace s0:=Lib.hid s0
  refine cO.out.mono ?_
  rintro e' w2 ⟨Bl,kc,rfl,k2,Rl,hlm⟩
  obtain ⟨k,hk⟩:∃ k,k = F.length:=⟨_,rfl⟩
  rw [← hk] at Rl hlm
  rw [← hk]
  have KW2:Hid (Keep w1 w2):=KW.out.trans k2
  have BX2:Hid (w2.heap[bx]? = some (.cells (⟨d,A,n,c,B0,m,e⟩:RcV).arr 30 (0,0))):=k2.block BX.out
  have BZ2:Hid (w2.heap[b]? = some (.cells zrc.arr 30 (0,0))):=k2.block BZ.out
  have hbx2:Hid (bx < w2.heap.size):=lt_of_block BX2.out
  have hb2:Hid (b < w2.heap.size):=lt_of_block BZ2.out
  have hj100:Hid (k≤100):=by show _≤_;omega
  have kL:Hid ((L.filter (onB id)).length = k):=by show _ = _;rw [← hFL.out,List.length_map,hk]
  have RL0:Hid (RL w (fun i=>X i∨False) w2 B0 e m P):=(h'.out.keep KW2.out).less fun _=>Or.inl
  have HL0:Hid ((lst P m).map nm = drT L id 0):=by show _ = _;rw [drT_zero];exact hL'.out
  replace k2:=Lib.hid k2
  replace Rl:=Lib.hid Rl
  replace hk:=Lib.hid hk
  clear c0 c1 c2 cf
  go_wp2
  go_loopg [7,8] k (fun gx s7 s8 wr=>∃ (j:Nat) (O:Option Addr) (dO:Nat) (L1:List PodV) (B:Option Addr) (c' m':Nat) (P1:Nat→PodV) (Z:Nat→Prop),j≤k∧gx = k - j∧s8 = .int .i64 j∧s7 = .slice O j dO∧Hid (Keep w1 wr)∧Hid (w2.heap.size≤wr.heap.size)∧Hid (∀ i,i < w2.heap.size→i≠bx→wr.heap[i]? = w2.heap[i]?)∧Hid (wr.heap[bx]? = some (.cells (⟨d,A,n,c,B,m',c'⟩:RcV).arr 30 (0,0)))∧Hid (RL w (fun i=>X i∨Z i) wr B c' m' P1)∧Hid (∀ i,Z i→w2.heap.size≤i∧i < wr.heap.size∧(Value.slice O j dO).ownBlock≠some i)∧Hid (wr.ownsRow w2.heap.size 35 9 (.slice O j dO) j (L1.flatMap PodV.cells))∧Hid (L1.map nm = (drO L id).take j)∧Hid (∀ x ∈ L1,PodIs w x)∧Hid (L1.length = j)∧Hid ((lst P1 m').map nm = drT L id j))
  case atStart=>exact ⟨0,none,0,[],B0,e,m,P,fun _=>False,Nat.zero_le _,rfl,rfl,rfl,KW2,Nat.le_refl _,fun _ _ _=>rfl,BX2,RL0,(fun _ h=>h.elim),World.ownsRow_nil _ _ _ _,rfl,(fun _ h=>by cases h),rfl,HL0⟩
  case round =>
    obtain ⟨j,O,dO,L1,B,c',m',P1,Z,hj,rfl,rfl,rfl,K1,SZ,FB,BX,RLr,ZF,OWN,LM,LI,LN,HL⟩:=hrel
    obtain ⟨c0,c1,c2,cf⟩:=rc_cells BX.out
    by_cases hlt:j < k
    · obtain ⟨gl,offl,hA,ca⟩:=Rl.out.adr (by omega)
      subst hA
      have q1:=pods_at gl offl k kc j hlt
      have Y:=ca j hlt
      clear ca
      have hgl:Hid (gl≠bx):=not_three BX2.out Y
      have gl2:Hid (gl < w2.heap.size):=cell_lt Y.e0
      obtain ⟨y,hy⟩:∃ y,y = row F j:=⟨_,rfl⟩
      rw [← hy] at Y
      have y0w:=Y.e0
      have y0:wr.cell? ⟨gl,offl + j * 9,none⟩ = some (.int .i64 y.k):=cell_same Y.e0 (FB.out gl gl2.out hgl.out)
      have y6:wr.cell? ⟨gl,offl + j * 9 + 6,none⟩ = some (.int .i64 y.h):=cell_same Y.e6 (FB.out gl gl2.out hgl.out)
      clear Y
      have hz:Hid ((L.filter (onB id))[j]? = some (nm y)):=by
        show _ = _
        have hjF:j < F.length:=by have:=hk.out;omega
        rw [← hFL.out,List.getElem?_map,List.getElem?_eq_getElem hjF,hy]
        unfold row
        rw [List.getD_eq_getElem?_getD,List.getElem?_eq_getElem hjF]
        rfl
      obtain ⟨_,hgj,hcz,hst⟩:=drT_step hok'.out (by have:=kL.out;omega) hz.out
      have hgj:Hid (getL (drT L id j) y.k = nm y):=hgj
      have hcz:=Lib.hid hcz
      have hst:=Lib.hid hst
      have hok3:Hid (LOk (drT L id j)):=drT_ok hok'.out id j
      have hm3:Hid (m'≤1000):=by
        have h1:=congrArg List.length HL.out
        have h2:=congrArg List.length hL'.out
        rw [List.length_map,lst_len,drT_len] at h1
        rw [List.length_map,lst_len] at h2
        show _≤_
        omega
      replace hy:=Lib.hid hy
      by_cases hp:y.h = 2
      · have evy:Hid (evD (nm y) = 3):=if_pos hp
        have evy2:Hid (appL (drT L id j) y.k 3 (-1) (-1) = appL (drT L id j) (nm y).k (evD (nm y)) (-1) (-1)):=by show _ = _;rw [evy.out];rfl
        have cA:Hid (∀ W,Keep wr W→Calls Tryz.prog 70 #[.slice B m' c',.int .i64 y.k,.int .i64 3,.int .i64 (-1),.int .i64 (-1)] W fun e w'=>∃ B2 c2 n2 P2,e = .returned (.tuple #[.slice B2 n2 c2,.int .i64 0])∧Keep W w'∧RL w (fun i=>(X i∨Z i)∨(wr.heap.size≤i∧i < w'.heap.size)) w' B2 c2 n2 P2∧(lst P2 n2).map nm = appL (drT L id j) y.k 3 (-1) (-1)∧(True→∃ t,t < n2∧findN P2 y.k n2 = (t:Int)∧nm (P2 t) = appP (getL (drT L id j) y.k) 3 (-1) (-1))):=fun W KK=>drop_app RLr.out HL.out hok3.out KK hm3.out (by have:=hcz.out;rw [evy.out] at this;exact this)
        rw [hp] at y6
        replace hp:=Lib.hid hp
        go_upto_region 9 with fail
        clear y6
        have HELD:∀ Wz,Keep wr Wz→(Wz.cell? ⟨bx,2,none⟩ = some (.slice B m' c')∧Wz.cell? ⟨gl,offl + j * 9,none⟩ = some (.int .i64 y.k)):=fun Wz KK=>⟨KK.cell c2,KK.cell y0⟩
        refine OrdS.rest_start (fun w'=>w'.cell? ⟨bx,2,none⟩ = some (.slice B m' c')∧w'.cell? ⟨gl,offl + j * 9,none⟩ = some (.int .i64 y.k)) [10,11,12,13] (by kernel_rfl) ?_ (fun hHeld=>?_)
        · exact HELD _ (Keep.refl wr).drew
        obtain ⟨wt0,hwt0⟩:∃ W,W = wr.drew:=⟨_,rfl⟩
        have Kwt0:Hid (Keep wr wt0):=by rw [hwt0];exact (Keep.refl _).drew
        rw [← hwt0] at hHeld ⊢
        replace hwt0:=Lib.hid hwt0
        refine OrdS.rest_take (i:=0) (v:=.pointer (some ⟨bx,2,none⟩)) rfl (by kernel_rfl) (by kernel_rfl) (by kernel_rfl) (by kernel_rfl) (by kernel_rfl) (fun _ _ _ h=>h) (Or.inl ⟨by rfl,fun Wz hW=>by obtain ⟨s2,s3⟩:=hW;go_simp⟩) hHeld ?_
        simp only [Act.put,List.getElem_toArray,List.getElem_cons_zero,List.setIfInBounds_toArray,List.set_cons_zero,List.set_cons_succ]
        refine OrdS.rest_take (i:=1) (v:=.slice B m' c') rfl (by kernel_rfl) (by kernel_rfl) (by kernel_rfl) (by kernel_rfl) (by kernel_rfl) (fun _ _ _ h=>h) (Or.inl ⟨by rfl,fun Wz hW=>by obtain ⟨s2,s3⟩:=hW;go_simp⟩) hHeld ?_
        simp only [Act.put,List.getElem_toArray,List.getElem_cons_succ,List.getElem_cons_zero,List.setIfInBounds_toArray,List.set_cons_zero,List.set_cons_succ]
        refine OrdS.rest_take (i:=2) (v:=.slice (some ⟨gl,offl,none⟩) k kc) rfl (by kernel_rfl) (by kernel_rfl) (by kernel_rfl) (by kernel_rfl) (by kernel_rfl) (fun _ _ _ h=>h) (Or.inl ⟨by rfl,fun Wz hW=>by obtain ⟨s2,s3⟩:=hW;go_simp⟩) hHeld ?_
        simp only [Act.put,List.getElem_toArray,List.getElem_cons_succ,List.getElem_cons_zero,List.setIfInBounds_toArray,List.set_cons_zero,List.set_cons_succ]
        refine OrdS.rest_take (i:=3) (v:=.int .i64 j) rfl (by kernel_rfl) (by kernel_rfl) (by kernel_rfl) (by kernel_rfl) (by kernel_rfl) (fun _ _ _ h=>h) (Or.inl ⟨by rfl,fun Wz hW=>by obtain ⟨s2,s3⟩:=hW;go_simp⟩) hHeld ?_
        simp only [Act.put,List.getElem_toArray,List.getElem_cons_succ,List.getElem_cons_zero,List.setIfInBounds_toArray,List.set_cons_zero,List.set_cons_succ]
        refine OrdS.rest_take (i:=4) (v:=.pointer (some ⟨gl,offl + j * 9,none⟩)) rfl (by kernel_rfl) (by kernel_rfl) (by kernel_rfl) (by kernel_rfl) (by kernel_rfl) (fun _ _ _ h=>h) (Or.inl ⟨by rfl,fun Wz hW=>by obtain ⟨s2,s3⟩:=hW;go_simp⟩) hHeld ?_
        simp only [Act.put,List.getElem_toArray,List.getElem_cons_succ,List.getElem_cons_zero,List.setIfInBounds_toArray,List.set_cons_zero,List.set_cons_succ]
        refine OrdS.rest_take (i:=5) (v:=.pointer (some ⟨gl,offl + j * 9,none⟩)) rfl (by kernel_rfl) (by kernel_rfl) (by kernel_rfl) (by kernel_rfl) (by kernel_rfl) (fun _ _ _ h=>h) (Or.inl ⟨by rfl,fun Wz hW=>by obtain ⟨s2,s3⟩:=hW;go_simp⟩) hHeld ?_
        simp only [Act.put,List.getElem_toArray,List.getElem_cons_succ,List.getElem_cons_zero,List.setIfInBounds_toArray,List.set_cons_zero,List.set_cons_succ]
        refine OrdS.rest_take (i:=6) (v:=.int .i64 y.k) rfl (by kernel_rfl) (by kernel_rfl) (by kernel_rfl) (by kernel_rfl) (by kernel_rfl) (fun _ _ _ h=>h) (Or.inl ⟨by rfl,fun Wz hW=>by obtain ⟨s2,s3⟩:=hW;go_simp⟩) hHeld ?_
        simp only [Act.put,List.getElem_toArray,List.getElem_cons_succ,List.getElem_cons_zero,List.setIfInBounds_toArray,List.set_cons_zero,List.set_cons_succ]
        refine OrdS.rest_take (i:=7) (v:=.int .i64 3) rfl (by kernel_rfl) (by kernel_rfl) (by kernel_rfl) (by kernel_rfl) (by kernel_rfl) (fun _ _ _ h=>h) (Or.inl ⟨by rfl,fun Wz hW=>by obtain ⟨s2,s3⟩:=hW;go_simp⟩) hHeld ?_
        simp only [Act.put,List.getElem_toArray,List.getElem_cons_succ,List.getElem_cons_zero,List.setIfInBounds_toArray,List.set_cons_zero,List.set_cons_succ]
        refine OrdS.rest_ready (rs:=[8]) (by kernel_rfl) (by simp) ?_
        refine OrdS.Each.cons rfl (fun K hK=>?_) OrdS.Each.nil
        simp only [List.getElem_toArray,List.getElem_cons_succ,List.getElem_cons_zero]
        rw [if_pos (by rfl)]
        go_simp
        refine (cA.out _ Kwt0.out).mono ?_
        rintro e' w3 ⟨B2,c2',n2,P2,rfl,k3,RL3,HL3,FT3⟩
        have Kw3:Hid (Keep wr w3):=Kwt0.out.trans k3
        replace k3:=Lib.hid k3
        replace RL3:=Lib.hid RL3
        replace HL3:=Lib.hid HL3
        replace FT3:=Lib.hid FT3
        go_wp2_with fail
        refine hK.out _ _ (fun _=>HELD _ Kw3.out) ?_
        have hHeld:=HELD _ Kw3.out
        clear hK K
        try simp only [Act.put,List.getElem_toArray,List.getElem_cons_succ,List.getElem_cons_zero,List.setIfInBounds_toArray,List.set_cons_zero,List.set_cons_succ]
        refine OrdS.rest_take (i:=9) (v:=.tuple #[.slice B2 n2 c2',.int .i64 0]) rfl (by kernel_rfl) (by kernel_rfl) (by kernel_rfl) (by kernel_rfl) (by kernel_rfl) (fun _ _ _ h=>h) (Or.inl ⟨by rfl,fun Wz hW=>by obtain ⟨s2,s3⟩:=hW;go_simp⟩) hHeld ?_
        simp only [Act.put,List.getElem_toArray,List.getElem_cons_succ,List.getElem_cons_zero,List.setIfInBounds_toArray,List.set_cons_zero,List.set_cons_succ]
        refine OrdS.rest_takeP (i:=10) (v:=.slice B2 n2 c2') rfl (by kernel_rfl) (by kernel_rfl) (by kernel_rfl) (by kernel_rfl) (fun _ _ _ h=>h) (Or.inl ⟨by rfl,fun Wz _=>by go_simp⟩) ?_
        simp only [Act.put,List.getElem_toArray,List.getElem_cons_succ,List.getElem_cons_zero,List.setIfInBounds_toArray,List.set_cons_zero,List.set_cons_succ]
        refine OrdS.rest_takeP (i:=11) (v:=.int .i64 0) rfl (by kernel_rfl) (by kernel_rfl) (by kernel_rfl) (by kernel_rfl) (fun _ _ _ h=>h) (Or.inl ⟨by rfl,fun Wz _=>by go_simp⟩) ?_
        simp only [Act.put,List.getElem_toArray,List.getElem_cons_succ,List.getElem_cons_zero,List.setIfInBounds_toArray,List.set_cons_zero,List.set_cons_succ]
        refine OrdS.rest_takeP (i:=12) (v:=.pointer (some ⟨bx,2,none⟩)) rfl (by kernel_rfl) (by kernel_rfl) (by kernel_rfl) (by kernel_rfl) (fun _ _ _ h=>h) (Or.inl ⟨by rfl,fun Wz _=>by go_simp⟩) ?_
        simp only [Act.put,List.getElem_toArray,List.getElem_cons_succ,List.getElem_cons_zero,List.setIfInBounds_toArray,List.set_cons_zero,List.set_cons_succ]
        refine OrdS.rest_ready (rs:=[13]) (by kernel_rfl) (by simp) ?_
        refine OrdS.Each.cons rfl (fun K hK=>?_) OrdS.Each.nil
        simp only [List.getElem_toArray,List.getElem_cons_succ,List.getElem_cons_zero]
        rw [if_pos (by rfl)]
        have g2:=Kw3.out.cell c2
        have gf:=(rc_cells (Kw3.out.block BX.out)).2.2.2
        go_simp
        refine hK.out _ _ (fun e=>absurd (by simp) e) ?_
        clear hK K
        refine OrdS.rest_done (by kernel_rfl) ?_ _
        clear g2 gf HELD hHeld Kwt0 hwt0
        go_wp2_with fail
        obtain ⟨t,ht,hft,hnt⟩:=FT3.out trivial
        obtain ⟨w4,hw4⟩:∃ w4,w4 = w3.setCell ⟨bx,2,none⟩ (.slice B2 n2 c2'):=⟨_,rfl⟩
        rw [← hw4]
        have st:=step_store K1.out SZ.out FB.out BX.out hX'.out ZF.out OWN.out hbx1.out hbx2.out Kw3.out RL3.out hw4
        replace hw4:=Lib.hid hw4
        obtain ⟨K4,SZ4,FB4,BX4,RL4,ZF4,OWN4⟩:=st
        have K4:=Lib.hid K4
        have SZ4:=Lib.hid SZ4
        have FB4:=Lib.hid FB4
        have BX4:=Lib.hid BX4
        have RL4:=Lib.hid RL4
        have ZF4:=Lib.hid ZF4
        have OWN4:=Lib.hid OWN4
        obtain ⟨z0,z1,z2,zf⟩:=rc_cells BX4.out
        obtain ⟨gp,offp,hB2,cP⟩:=RL4.out.rd.adr (by omega)
        subst hB2
        have U:=cP t ht
        have ui:=RL4.out.is t ht
        clear cP
        obtain ⟨u,hu⟩:∃ u,u = P2 t:=⟨_,rfl⟩
        rw [← hu] at U ui hnt
        replace hu:=Lib.hid hu
        have hnt:=Lib.hid hnt
        have ui:=Lib.hid ui
        have u0:=U.e0;have u1:=U.e1;have u2:=U.e2;have u3:=U.e3;have u4:=U.e4;have u5:=U.e5;have u6:=U.e6;have u7:=U.e7;have u8:=U.e8
        have hgp:Hid (∀ g,(Value.slice O j dO).ownBlock = some g→gp≠g):=by
          intro g hg e
          rcases RL4.out.pl with ⟨h,_⟩ | ⟨g1,h,hg1⟩
          · cases h
          · obtain ⟨rfl,rfl⟩:gp = g1∧offp = 0:=by simpa using h
            subst e
            rcases hg1 with h1 | h1
            · have:=hX'.out _ h1
              have:=(OWN4.out.lt _ hg).1
              have:=KW2.out.size
              omega
            · exact (ZF4.out _ h1).2.2 hg
        clear U
        have yk:w4.cell? ⟨gl,offl + j * 9,none⟩ = some (.int .i64 y.k):=cell_same y0w (FB4.out gl gl2.out hgl.out)
        have cF:Hid (∀ W,Keep w4 W→Calls Tryz.prog 14 #[.slice (some ⟨gp,offp,none⟩) n2 c2',.int .i64 y.k] W fun e w'=>e = .returned (.int .i64 t)∧Keep w4 w'):=fun W KK=>(rfind_fn (some ⟨gp,offp,none⟩) n2 c2' P2 y.k W (RL4.out.rd.keep KK)).mono fun _ _ ⟨he,hw⟩=>⟨by rw [he,hft],by rw [← hw];exact KK⟩
        have q2:=pods_at gp offp n2 c2' t ht
        have hft:=Lib.hid hft
        clear c0 c1 c2 cf y0
        have HELD:∀ Wz,Keep w4 Wz→(Wz.cell? ⟨bx,2,none⟩ = some (.slice (some ⟨gp,offp,none⟩) n2 c2')∧Wz.cell? ⟨gl,offl + j * 9,none⟩ = some (.int .i64 y.k)∧Wz.cell? ⟨gp,offp + t * 9,none⟩ = some (.int .i64 u.k)∧Wz.cell? ⟨gp,offp + t * 9 + 1,none⟩ = some (.int .i64 u.p)∧Wz.cell? ⟨gp,offp + t * 9 + 2,none⟩ = some (.bool u.f)∧Wz.cell? ⟨gp,offp + t * 9 + 3,none⟩ = some (.int .i64 u.g)∧Wz.cell? ⟨gp,offp + t * 9 + 4,none⟩ = some (.slice u.A u.m u.c)∧Wz.cell? ⟨gp,offp + t * 9 + 5,none⟩ = some (.int .i64 u.a)∧Wz.cell? ⟨gp,offp + t * 9 + 6,none⟩ = some (.int .i64 u.h)∧Wz.cell? ⟨gp,offp + t * 9 + 7,none⟩ = some (.int .i64 u.d)∧Wz.cell? ⟨gp,offp + t * 9 + 8,none⟩ = some (.int .i64 u.t)):=fun Wz KK=>⟨KK.cell z2,KK.cell yk,KK.cell u0,KK.cell u1,KK.cell u2,KK.cell u3,KK.cell u4,KK.cell u5,KK.cell u6,KK.cell u7,KK.cell u8⟩
        refine wp_region_held_drew (S:=fun w'=>w'.cell? ⟨bx,2,none⟩ = some (.slice (some ⟨gp,offp,none⟩) n2 c2')∧w'.cell? ⟨gl,offl + j * 9,none⟩ = some (.int .i64 y.k)∧w'.cell? ⟨gp,offp + t * 9,none⟩ = some (.int .i64 u.k)∧w'.cell? ⟨gp,offp + t * 9 + 1,none⟩ = some (.int .i64 u.p)∧w'.cell? ⟨gp,offp + t * 9 + 2,none⟩ = some (.bool u.f)∧w'.cell? ⟨gp,offp + t * 9 + 3,none⟩ = some (.int .i64 u.g)∧w'.cell? ⟨gp,offp + t * 9 + 4,none⟩ = some (.slice u.A u.m u.c)∧w'.cell? ⟨gp,offp + t * 9 + 5,none⟩ = some (.int .i64 u.a)∧w'.cell? ⟨gp,offp + t * 9 + 6,none⟩ = some (.int .i64 u.h)∧w'.cell? ⟨gp,offp + t * 9 + 7,none⟩ = some (.int .i64 u.d)∧w'.cell? ⟨gp,offp + t * 9 + 8,none⟩ = some (.int .i64 u.t)) (by kernel_rfl) ?_ (fun hHeld=>?_)
        · exact HELD _ (by repeat (with_reducible first | exact Keep.refl w4 | apply Keep.alloc | apply Keep.drew | apply Keep.drewN))
        refine wpAnyH_take (i:=0) (v:=.slice O j dO) rfl (by kernel_rfl) (by kernel_rfl) (by kernel_rfl) (fun _ _ _ h=>h) (Or.inl ⟨by rfl,fun Wz hW=>by obtain ⟨a2,ak,b0,b1,b2,b3,b4,b5,b6,b7,b8⟩:=hW;go_simp⟩) hHeld ?_
        simp only [Act.put,List.getElem_toArray,List.getElem_cons_zero,List.setIfInBounds_toArray,List.set_cons_zero,List.set_cons_succ]
        refine wpAnyH_take (i:=1) (v:=.pointer (some ⟨bx,2,none⟩)) rfl (by kernel_rfl) (by kernel_rfl) (by kernel_rfl) (fun _ _ _ h=>h) (Or.inl ⟨by rfl,fun Wz hW=>by obtain ⟨a2,ak,b0,b1,b2,b3,b4,b5,b6,b7,b8⟩:=hW;go_simp⟩) hHeld ?_
        simp only [Act.put,List.getElem_toArray,List.getElem_cons_succ,List.getElem_cons_zero,List.setIfInBounds_toArray,List.set_cons_zero,List.set_cons_succ]
        refine wpAnyH_take (i:=2) (v:=.slice (some ⟨gp,offp,none⟩) n2 c2') rfl (by kernel_rfl) (by kernel_rfl) (by kernel_rfl) (fun _ _ _ h=>h) (Or.inl ⟨by rfl,fun Wz hW=>by obtain ⟨a2,ak,b0,b1,b2,b3,b4,b5,b6,b7,b8⟩:=hW;go_simp⟩) hHeld ?_
        simp only [Act.put,List.getElem_toArray,List.getElem_cons_succ,List.getElem_cons_zero,List.setIfInBounds_toArray,List.set_cons_zero,List.set_cons_succ]
        refine wpAnyH_take (i:=3) (v:=.pointer (some ⟨bx,2,none⟩)) rfl (by kernel_rfl) (by kernel_rfl) (by kernel_rfl) (fun _ _ _ h=>h) (Or.inl ⟨by rfl,fun Wz hW=>by obtain ⟨a2,ak,b0,b1,b2,b3,b4,b5,b6,b7,b8⟩:=hW;go_simp⟩) hHeld ?_
        simp only [Act.put,List.getElem_toArray,List.getElem_cons_succ,List.getElem_cons_zero,List.setIfInBounds_toArray,List.set_cons_zero,List.set_cons_succ]
        refine wpAnyH_take (i:=4) (v:=.slice (some ⟨gp,offp,none⟩) n2 c2') rfl (by kernel_rfl) (by kernel_rfl) (by kernel_rfl) (fun _ _ _ h=>h) (Or.inl ⟨by rfl,fun Wz hW=>by obtain ⟨a2,ak,b0,b1,b2,b3,b4,b5,b6,b7,b8⟩:=hW;go_simp⟩) hHeld ?_
        simp only [Act.put,List.getElem_toArray,List.getElem_cons_succ,List.getElem_cons_zero,List.setIfInBounds_toArray,List.set_cons_zero,List.set_cons_succ]
        refine wpAnyH_take (i:=5) (v:=.slice (some ⟨gl,offl,none⟩) k kc) rfl (by kernel_rfl) (by kernel_rfl) (by kernel_rfl) (fun _ _ _ h=>h) (Or.inl ⟨by rfl,fun Wz hW=>by obtain ⟨a2,ak,b0,b1,b2,b3,b4,b5,b6,b7,b8⟩:=hW;go_simp⟩) hHeld ?_
        simp only [Act.put,List.getElem_toArray,List.getElem_cons_succ,List.getElem_cons_zero,List.setIfInBounds_toArray,List.set_cons_zero,List.set_cons_succ]
        refine wpAnyH_take (i:=6) (v:=.int .i64 j) rfl (by kernel_rfl) (by kernel_rfl) (by kernel_rfl) (fun _ _ _ h=>h) (Or.inl ⟨by rfl,fun Wz hW=>by obtain ⟨a2,ak,b0,b1,b2,b3,b4,b5,b6,b7,b8⟩:=hW;go_simp⟩) hHeld ?_
        simp only [Act.put,List.getElem_toArray,List.getElem_cons_succ,List.getElem_cons_zero,List.setIfInBounds_toArray,List.set_cons_zero,List.set_cons_succ]
        refine wpAnyH_take (i:=7) (v:=.pointer (some ⟨gl,offl + j * 9,none⟩)) rfl (by kernel_rfl) (by kernel_rfl) (by kernel_rfl) (fun _ _ _ h=>h) (Or.inl ⟨by rfl,fun Wz hW=>by obtain ⟨a2,ak,b0,b1,b2,b3,b4,b5,b6,b7,b8⟩:=hW;go_simp⟩) hHeld ?_
        simp only [Act.put,List.getElem_toArray,List.getElem_cons_succ,List.getElem_cons_zero,List.setIfInBounds_toArray,List.set_cons_zero,List.set_cons_succ]
        refine wpAnyH_take (i:=8) (v:=.pointer (some ⟨gl,offl + j * 9,none⟩)) rfl (by kernel_rfl) (by kernel_rfl) (by kernel_rfl) (fun _ _ _ h=>h) (Or.inl ⟨by rfl,fun Wz hW=>by obtain ⟨a2,ak,b0,b1,b2,b3,b4,b5,b6,b7,b8⟩:=hW;go_simp⟩) hHeld ?_
        simp only [Act.put,List.getElem_toArray,List.getElem_cons_succ,List.getElem_cons_zero,List.setIfInBounds_toArray,List.set_cons_zero,List.set_cons_succ]
        refine wpAnyH_take (i:=9) (v:=.int .i64 y.k) rfl (by kernel_rfl) (by kernel_rfl) (by kernel_rfl) (fun _ _ _ h=>h) (Or.inl ⟨by rfl,fun Wz hW=>by obtain ⟨a2,ak,b0,b1,b2,b3,b4,b5,b6,b7,b8⟩:=hW;go_simp⟩) hHeld ?_
        simp only [Act.put,List.getElem_toArray,List.getElem_cons_succ,List.getElem_cons_zero,List.setIfInBounds_toArray,List.set_cons_zero,List.set_cons_succ]
        refine wpAnyH_ready (rs:=[10]) (by kernel_rfl) (by simp) ?_
        refine AllReadyH.cons rfl (fun K hK=>?_) AllReadyH.nil
        simp only [List.getElem_toArray,List.getElem_cons_succ,List.getElem_cons_zero]
        rw [if_pos (by rfl)]
        go_simp
        refine (cF.out _ (by repeat (with_reducible first | exact Keep.refl w4 | apply Keep.alloc | apply Keep.drew | apply Keep.drewN))).mono ?_
        rintro e' w5 ⟨rfl,K45⟩
        replace K45:=Lib.hid K45
        go_wp2_with fail
        refine hK.out _ _ ?_ (fun hHeld=>?_)
        · exact HELD _ K45.out
        clear hK K
        try simp only [Act.put,List.getElem_toArray,List.getElem_cons_succ,List.getElem_cons_zero,List.setIfInBounds_toArray,List.set_cons_zero,List.set_cons_succ]
        refine wpAnyH_take (i:=11) (v:=.pointer (some ⟨gp,offp + t * 9,none⟩)) rfl (by kernel_rfl) (by kernel_rfl) (by kernel_rfl) (fun _ _ _ h=>h) (Or.inl ⟨by rfl,fun Wz hW=>by obtain ⟨a2,ak,b0,b1,b2,b3,b4,b5,b6,b7,b8⟩:=hW;go_simp⟩) hHeld ?_
        simp only [Act.put,List.getElem_toArray,List.getElem_cons_succ,List.getElem_cons_zero,List.setIfInBounds_toArray,List.set_cons_zero,List.set_cons_succ]
        refine wpAnyH_take (i:=12) (v:=.agg #[.int .i64 u.k,.int .i64 u.p,.bool u.f,.int .i64 u.g,.slice u.A u.m u.c,.int .i64 u.a,.int .i64 u.h,.int .i64 u.d,.int .i64 u.t]) rfl (by kernel_rfl) (by kernel_rfl) (by kernel_rfl) (fun _ _ _ h=>h) (Or.inl ⟨by rfl,fun Wz hW=>by obtain ⟨a2,ak,b0,b1,b2,b3,b4,b5,b6,b7,b8⟩:=hW;go_simp⟩) hHeld ?_
        simp only [Act.put,List.getElem_toArray,List.getElem_cons_succ,List.getElem_cons_zero,List.setIfInBounds_toArray,List.set_cons_zero,List.set_cons_succ]
        refine wpAnyH_ready (rs:=[13]) (by kernel_rfl) (by simp) ?_
        refine AllReadyH.cons rfl (fun K hK=>?_) AllReadyH.nil
        simp only [List.getElem_toArray,List.getElem_cons_succ,List.getElem_cons_zero]
        rw [if_pos (by rfl)]
        go_simp
        obtain ⟨w6,hw6⟩:∃ w6,w6 = w5.alloc (.cells #[.int .i64 u.k,.int .i64 u.p,.bool u.f,.int .i64 u.g,.slice u.A u.m u.c,.int .i64 u.a,.int .i64 u.h,.int .i64 u.d,.int .i64 u.t] 35):=⟨_,rfl⟩
        rw [← hw6]
        have K46:Hid (Keep w4 w6):=by rw [hw6];exact K45.out.alloc _
        have F6:Hid (w6.heap[w5.heap.size]? = some (.cells (podB u) 35 (0,0))):=by rw [hw6];exact heap_alloc_new _ _
        have s6:Hid (w6.heap.size = w5.heap.size + 1):=by rw [hw6];exact World.size_alloc _ _
        replace hw6:=Lib.hid hw6
        refine hK.out _ _ ?_ (fun hHeld=>?_)
        · exact HELD _ K46.out
        clear hK K
        try simp only [Act.put,List.getElem_toArray,List.getElem_cons_succ,List.getElem_cons_zero,List.setIfInBounds_toArray,List.set_cons_zero,List.set_cons_succ]
        refine wpAnyH_ready (rs:=[14]) (by kernel_rfl) (by simp) ?_
        refine AllReadyH.cons rfl (fun K hK=>?_) AllReadyH.nil
        simp only [List.getElem_toArray,List.getElem_cons_succ,List.getElem_cons_zero]
        rw [if_pos (by rfl)]
        refine wp_ownB (.tmp 41) (.tmp 54) rfl w2.heap.size (.slice O j dO) j (L1.flatMap PodV.cells) (by simp [Act.eval]) (own_keep OWN4.out K46.out) w5.heap.size 1 u (by simp [Act.eval]) F6.out (by omega) (by have:=SZ4.out;have:=K46.out.size;omega) (j + 1) rfl ?_
        intro v7 w7 R7 g7 hb7
        obtain ⟨O7,d7,hv7,_⟩:=own_form R7
        subst hv7
        have R7:=Lib.hid R7
        have g7:=Lib.hid g7
        have hb7:=Lib.hid hb7
        have HF:Hid (∀ i,i < w4.heap.size→(Value.slice O j dO).ownBlock≠some i→w7.heap[i]? = w4.heap[i]?):=fun i hi hn=>(g7.out.block i (by have:=K46.out.size;omega) fun e=>hn e.symm).trans (keep_at K46.out hi)
        have own_lt:Hid (∀ g,(Value.slice O j dO).ownBlock = some g→w2.heap.size≤g):=fun g hg=>(OWN4.out.lt g hg).1
        have HB:w7.heap[bx]? = w4.heap[bx]?:=HF.out bx (lt_of_block BX4.out) (fun e=>by have:=own_lt.out bx e;have:=hbx2.out;omega)
        have HGL:w7.heap[gl]? = w4.heap[gl]?:=HF.out gl (by have:=gl2.out;have:=SZ4.out;omega) (fun e=>by have:=own_lt.out gl e;have:=gl2.out;omega)
        have HGP:w7.heap[gp]? = w4.heap[gp]?:=HF.out gp (cell_lt u0) (fun e=>hgp.out gp e rfl)
        have HB:=Lib.hid HB
        have HGL:=Lib.hid HGL
        have HGP:=Lib.hid HGP
        refine hK.out _ _ ?_ (fun hHeld=>?_)
        · exact ⟨cell_same z2 HB.out,cell_same yk HGL.out,cell_same u0 HGP.out,cell_same u1 HGP.out,cell_same u2 HGP.out,cell_same u3 HGP.out,cell_same u4 HGP.out,cell_same u5 HGP.out,cell_same u6 HGP.out,cell_same u7 HGP.out,cell_same u8 HGP.out⟩
        clear hK K
        try simp only [Act.put,List.setIfInBounds_toArray,List.set_cons_zero,List.set_cons_succ]
        refine wpAnyH_ready (rs:=[15]) (by kernel_rfl) (by simp) ?_
        refine AllReadyH.cons rfl (fun K hK=>?_) AllReadyH.nil
        simp only [List.getElem_toArray,List.getElem_cons_succ,List.getElem_cons_zero]
        rw [if_pos (by rfl)]
        go_simp
        refine hK.out _ _ hHeld (fun hHeld=>?_)
        clear hK K
        try simp only [Act.put,List.getElem_toArray,List.getElem_cons_succ,List.getElem_cons_zero,List.setIfInBounds_toArray,List.set_cons_zero,List.set_cons_succ]
        refine wpAnyH_done (by kernel_rfl) ?_ _
        have en:=step_append K4.out SZ4.out FB4.out BX4.out RL4.out hX'.out ZF4.out OWN4.out (by have:=KW2.out.size;have:=hbx1.out;omega) hbx2.out K46.out s6.out g7.out hb7.out
        replace en:=Lib.hid en
        have L2:Hid ((L1 ++ [u]).map nm = (drO L id).take (j + 1)):=by
          show _ = _
          rw [List.map_append,LM.out,drO_take hz.out,List.map_singleton,hnt.out,hgj.out,drP_ev,evy.out]
        have LI2:Hid (∀ x ∈ L1 ++ [u],PodIs w x):=fun x hx=>by
          rcases List.mem_append.1 hx with hx | hx
          · exact LI.out x hx
          · rw [List.mem_singleton.1 hx];exact ui.out
        have LN2:Hid ((L1 ++ [u]).length = j + 1):=by show _ = _;rw [List.length_append,LN.out];rfl
        have FM:Hid ((L1 ++ [u]).flatMap PodV.cells = L1.flatMap PodV.cells ++ u.cells):=by show _ = _;rw [List.flatMap_append,List.flatMap_singleton]
        have HL4:Hid ((lst P2 n2).map nm = drT L id (j + 1)):=by show _ = _;rw [HL3.out,evy2.out];exact hst.out
        clear z0 z1 z2 zf u0 u1 u2 u3 u4 u5 u6 u7 u8 yk q1 q2 HELD hHeld
        go_wp2_with fail
        go_roundg (k - (j + 1))
        case measure=>omega
        case rel =>
          obtain ⟨K7,SZ7,FB7,BX7,RL7,ZF7⟩:=en.out
          exact ⟨j + 1,O7,d7,L1 ++ [u],_,_,n2,P2,_,hlt,rfl,by go_num,rfl,K7,SZ7,FB7,BX7,RL7,ZF7,(by show World.ownsRow _ _ _ _ _ _ _;rw [FM.out];exact R7.out),L2,LI2,LN2,HL4⟩
      · have hpb:(y.h == 2) = false:=by simpa using hp
        have evy:Hid (evD (nm y) = 5):=if_neg hp
        have evy2:Hid (appL (drT L id j) y.k 5 (-1) (-1) = appL (drT L id j) (nm y).k (evD (nm y)) (-1) (-1)):=by show _ = _;rw [evy.out];rfl
        have cA:Hid (∀ W,Keep wr W→Calls Tryz.prog 70 #[.slice B m' c',.int .i64 y.k,.int .i64 5,.int .i64 (-1),.int .i64 (-1)] W fun e w'=>∃ B2 c2 n2 P2,e = .returned (.tuple #[.slice B2 n2 c2,.int .i64 0])∧Keep W w'∧RL w (fun i=>(X i∨Z i)∨(wr.heap.size≤i∧i < w'.heap.size)) w' B2 c2 n2 P2∧(lst P2 n2).map nm = appL (drT L id j) y.k 5 (-1) (-1)∧(True→∃ t,t < n2∧findN P2 y.k n2 = (t:Int)∧nm (P2 t) = appP (getL (drT L id j) y.k) 5 (-1) (-1))):=fun W KK=>drop_app RLr.out HL.out hok3.out KK hm3.out (by have:=hcz.out;rw [evy.out] at this;exact this)
        replace hp:=Lib.hid hp
        go_upto_region 9 with fail
        clear y6 hpb
        have HELD:∀ Wz,Keep wr Wz→(Wz.cell? ⟨bx,2,none⟩ = some (.slice B m' c')∧Wz.cell? ⟨gl,offl + j * 9,none⟩ = some (.int .i64 y.k)):=fun Wz KK=>⟨KK.cell c2,KK.cell y0⟩
        refine OrdS.rest_start (fun w'=>w'.cell? ⟨bx,2,none⟩ = some (.slice B m' c')∧w'.cell? ⟨gl,offl + j * 9,none⟩ = some (.int .i64 y.k)) [10,11,12,13] (by kernel_rfl) ?_ (fun hHeld=>?_)
        · exact HELD _ (Keep.refl wr).drew
        obtain ⟨wt0,hwt0⟩:∃ W,W = wr.drew:=⟨_,rfl⟩
        have Kwt0:Hid (Keep wr wt0):=by rw [hwt0];exact (Keep.refl _).drew
        rw [← hwt0] at hHeld ⊢
        replace hwt0:=Lib.hid hwt0
        refine OrdS.rest_take (i:=0) (v:=.pointer (some ⟨bx,2,none⟩)) rfl (by kernel_rfl) (by kernel_rfl) (by kernel_rfl) (by kernel_rfl) (by kernel_rfl) (fun _ _ _ h=>h) (Or.inl ⟨by rfl,fun Wz hW=>by obtain ⟨s2,s3⟩:=hW;go_simp⟩) hHeld ?_
        simp only [Act.put,List.getElem_toArray,List.getElem_cons_zero,List.setIfInBounds_toArray,List.set_cons_zero,List.set_cons_succ]
        refine OrdS.rest_take (i:=1) (v:=.slice B m' c') rfl (by kernel_rfl) (by kernel_rfl) (by kernel_rfl) (by kernel_rfl) (by kernel_rfl) (fun _ _ _ h=>h) (Or.inl ⟨by rfl,fun Wz hW=>by obtain ⟨s2,s3⟩:=hW;go_simp⟩) hHeld ?_
        simp only [Act.put,List.getElem_toArray,List.getElem_cons_succ,List.getElem_cons_zero,List.setIfInBounds_toArray,List.set_cons_zero,List.set_cons_succ]
        refine OrdS.rest_take (i:=2) (v:=.slice (some ⟨gl,offl,none⟩) k kc) rfl (by kernel_rfl) (by kernel_rfl) (by kernel_rfl) (by kernel_rfl) (by kernel_rfl) (fun _ _ _ h=>h) (Or.inl ⟨by rfl,fun Wz hW=>by obtain ⟨s2,s3⟩:=hW;go_simp⟩) hHeld ?_
        simp only [Act.put,List.getElem_toArray,List.getElem_cons_succ,List.getElem_cons_zero,List.setIfInBounds_toArray,List.set_cons_zero,List.set_cons_succ]
        refine OrdS.rest_take (i:=3) (v:=.int .i64 j) rfl (by kernel_rfl) (by kernel_rfl) (by kernel_rfl) (by kernel_rfl) (by kernel_rfl) (fun _ _ _ h=>h) (Or.inl ⟨by rfl,fun Wz hW=>by obtain ⟨s2,s3⟩:=hW;go_simp⟩) hHeld ?_
        simp only [Act.put,List.getElem_toArray,List.getElem_cons_succ,List.getElem_cons_zero,List.setIfInBounds_toArray,List.set_cons_zero,List.set_cons_succ]
        refine OrdS.rest_take (i:=4) (v:=.pointer (some ⟨gl,offl + j * 9,none⟩)) rfl (by kernel_rfl) (by kernel_rfl) (by kernel_rfl) (by kernel_rfl) (by kernel_rfl) (fun _ _ _ h=>h) (Or.inl ⟨by rfl,fun Wz hW=>by obtain ⟨s2,s3⟩:=hW;go_simp⟩) hHeld ?_
        simp only [Act.put,List.getElem_toArray,List.getElem_cons_succ,List.getElem_cons_zero,List.setIfInBounds_toArray,List.set_cons_zero,List.set_cons_succ]
        refine OrdS.rest_take (i:=5) (v:=.pointer (some ⟨gl,offl + j * 9,none⟩)) rfl (by kernel_rfl) (by kernel_rfl) (by kernel_rfl) (by kernel_rfl) (by kernel_rfl) (fun _ _ _ h=>h) (Or.inl ⟨by rfl,fun Wz hW=>by obtain ⟨s2,s3⟩:=hW;go_simp⟩) hHeld ?_
        simp only [Act.put,List.getElem_toArray,List.getElem_cons_succ,List.getElem_cons_zero,List.setIfInBounds_toArray,List.set_cons_zero,List.set_cons_succ]
        refine OrdS.rest_take (i:=6) (v:=.int .i64 y.k) rfl (by kernel_rfl) (by kernel_rfl) (by kernel_rfl) (by kernel_rfl) (by kernel_rfl) (fun _ _ _ h=>h) (Or.inl ⟨by rfl,fun Wz hW=>by obtain ⟨s2,s3⟩:=hW;go_simp⟩) hHeld ?_
        simp only [Act.put,List.getElem_toArray,List.getElem_cons_succ,List.getElem_cons_zero,List.setIfInBounds_toArray,List.set_cons_zero,List.set_cons_succ]
        refine OrdS.rest_take (i:=7) (v:=.int .i64 5) rfl (by kernel_rfl) (by kernel_rfl) (by kernel_rfl) (by kernel_rfl) (by kernel_rfl) (fun _ _ _ h=>h) (Or.inl ⟨by rfl,fun Wz hW=>by obtain ⟨s2,s3⟩:=hW;go_simp⟩) hHeld ?_
        simp only [Act.put,List.getElem_toArray,List.getElem_cons_succ,List.getElem_cons_zero,List.setIfInBounds_toArray,List.set_cons_zero,List.set_cons_succ]
        refine OrdS.rest_ready (rs:=[8]) (by kernel_rfl) (by simp) ?_
        refine OrdS.Each.cons rfl (fun K hK=>?_) OrdS.Each.nil
        simp only [List.getElem_toArray,List.getElem_cons_succ,List.getElem_cons_zero]
        rw [if_pos (by rfl)]
        go_simp
        refine (cA.out _ Kwt0.out).mono ?_
        rintro e' w3 ⟨B2,c2',n2,P2,rfl,k3,RL3,HL3,FT3⟩
        have Kw3:Hid (Keep wr w3):=Kwt0.out.trans k3
        replace k3:=Lib.hid k3
        replace RL3:=Lib.hid RL3
        replace HL3:=Lib.hid HL3
        replace FT3:=Lib.hid FT3
        go_wp2_with fail
        refine hK.out _ _ (fun _=>HELD _ Kw3.out) ?_
        have hHeld:=HELD _ Kw3.out
        clear hK K
        try simp only [Act.put,List.getElem_toArray,List.getElem_cons_succ,List.getElem_cons_zero,List.setIfInBounds_toArray,List.set_cons_zero,List.set_cons_succ]
        refine OrdS.rest_take (i:=9) (v:=.tuple #[.slice B2 n2 c2',.int .i64 0]) rfl (by kernel_rfl) (by kernel_rfl) (by kernel_rfl) (by kernel_rfl) (by kernel_rfl) (fun _ _ _ h=>h) (Or.inl ⟨by rfl,fun Wz hW=>by obtain ⟨s2,s3⟩:=hW;go_simp⟩) hHeld ?_
        simp only [Act.put,List.getElem_toArray,List.getElem_cons_succ,List.getElem_cons_zero,List.setIfInBounds_toArray,List.set_cons_zero,List.set_cons_succ]
        refine OrdS.rest_takeP (i:=10) (v:=.slice B2 n2 c2') rfl (by kernel_rfl) (by kernel_rfl) (by kernel_rfl) (by kernel_rfl) (fun _ _ _ h=>h) (Or.inl ⟨by rfl,fun Wz _=>by go_simp⟩) ?_
        simp only [Act.put,List.getElem_toArray,List.getElem_cons_succ,List.getElem_cons_zero,List.setIfInBounds_toArray,List.set_cons_zero,List.set_cons_succ]
        refine OrdS.rest_takeP (i:=11) (v:=.int .i64 0) rfl (by kernel_rfl) (by kernel_rfl) (by kernel_rfl) (by kernel_rfl) (fun _ _ _ h=>h) (Or.inl ⟨by rfl,fun Wz _=>by go_simp⟩) ?_
        simp only [Act.put,List.getElem_toArray,List.getElem_cons_succ,List.getElem_cons_zero,List.setIfInBounds_toArray,List.set_cons_zero,List.set_cons_succ]
        refine OrdS.rest_takeP (i:=12) (v:=.pointer (some ⟨bx,2,none⟩)) rfl (by kernel_rfl) (by kernel_rfl) (by kernel_rfl) (by kernel_rfl) (fun _ _ _ h=>h) (Or.inl ⟨by rfl,fun Wz _=>by go_simp⟩) ?_
        simp only [Act.put,List.getElem_toArray,List.getElem_cons_succ,List.getElem_cons_zero,List.setIfInBounds_toArray,List.set_cons_zero,List.set_cons_succ]
        refine OrdS.rest_ready (rs:=[13]) (by kernel_rfl) (by simp) ?_
        refine OrdS.Each.cons rfl (fun K hK=>?_) OrdS.Each.nil
        simp only [List.getElem_toArray,List.getElem_cons_succ,List.getElem_cons_zero]
        rw [if_pos (by rfl)]
        have g2:=Kw3.out.cell c2
        have gf:=(rc_cells (Kw3.out.block BX.out)).2.2.2
        go_simp
        refine hK.out _ _ (fun e=>absurd (by simp) e) ?_
        clear hK K
        refine OrdS.rest_done (by kernel_rfl) ?_ _
        clear g2 gf HELD hHeld Kwt0 hwt0
        go_wp2_with fail
        obtain ⟨t,ht,hft,hnt⟩:=FT3.out trivial
        obtain ⟨w4,hw4⟩:∃ w4,w4 = w3.setCell ⟨bx,2,none⟩ (.slice B2 n2 c2'):=⟨_,rfl⟩
        rw [← hw4]
        have st:=step_store K1.out SZ.out FB.out BX.out hX'.out ZF.out OWN.out hbx1.out hbx2.out Kw3.out RL3.out hw4
        replace hw4:=Lib.hid hw4
        obtain ⟨K4,SZ4,FB4,BX4,RL4,ZF4,OWN4⟩:=st
        have K4:=Lib.hid K4
        have SZ4:=Lib.hid SZ4
        have FB4:=Lib.hid FB4
        have BX4:=Lib.hid BX4
        have RL4:=Lib.hid RL4
        have ZF4:=Lib.hid ZF4
        have OWN4:=Lib.hid OWN4
        obtain ⟨z0,z1,z2,zf⟩:=rc_cells BX4.out
        obtain ⟨gp,offp,hB2,cP⟩:=RL4.out.rd.adr (by omega)
        subst hB2
        have U:=cP t ht
        have ui:=RL4.out.is t ht
        clear cP
        obtain ⟨u,hu⟩:∃ u,u = P2 t:=⟨_,rfl⟩
        rw [← hu] at U ui hnt
        replace hu:=Lib.hid hu
        have hnt:=Lib.hid hnt
        have ui:=Lib.hid ui
        have u0:=U.e0;have u1:=U.e1;have u2:=U.e2;have u3:=U.e3;have u4:=U.e4;have u5:=U.e5;have u6:=U.e6;have u7:=U.e7;have u8:=U.e8
        have hgp:Hid (∀ g,(Value.slice O j dO).ownBlock = some g→gp≠g):=by
          intro g hg e
          rcases RL4.out.pl with ⟨h,_⟩ | ⟨g1,h,hg1⟩
          · cases h
          · obtain ⟨rfl,rfl⟩:gp = g1∧offp = 0:=by simpa using h
            subst e
            rcases hg1 with h1 | h1
            · have:=hX'.out _ h1
              have:=(OWN4.out.lt _ hg).1
              have:=KW2.out.size
              omega
            · exact (ZF4.out _ h1).2.2 hg
        clear U
        have yk:w4.cell? ⟨gl,offl + j * 9,none⟩ = some (.int .i64 y.k):=cell_same y0w (FB4.out gl gl2.out hgl.out)
        have cF:Hid (∀ W,Keep w4 W→Calls Tryz.prog 14 #[.slice (some ⟨gp,offp,none⟩) n2 c2',.int .i64 y.k] W fun e w'=>e = .returned (.int .i64 t)∧Keep w4 w'):=fun W KK=>(rfind_fn (some ⟨gp,offp,none⟩) n2 c2' P2 y.k W (RL4.out.rd.keep KK)).mono fun _ _ ⟨he,hw⟩=>⟨by rw [he,hft],by rw [← hw];exact KK⟩
        have q2:=pods_at gp offp n2 c2' t ht
        have hft:=Lib.hid hft
        clear c0 c1 c2 cf y0
        have HELD:∀ Wz,Keep w4 Wz→(Wz.cell? ⟨bx,2,none⟩ = some (.slice (some ⟨gp,offp,none⟩) n2 c2')∧Wz.cell? ⟨gl,offl + j * 9,none⟩ = some (.int .i64 y.k)∧Wz.cell? ⟨gp,offp + t * 9,none⟩ = some (.int .i64 u.k)∧Wz.cell? ⟨gp,offp + t * 9 + 1,none⟩ = some (.int .i64 u.p)∧Wz.cell? ⟨gp,offp + t * 9 + 2,none⟩ = some (.bool u.f)∧Wz.cell? ⟨gp,offp + t * 9 + 3,none⟩ = some (.int .i64 u.g)∧Wz.cell? ⟨gp,offp + t * 9 + 4,none⟩ = some (.slice u.A u.m u.c)∧Wz.cell? ⟨gp,offp + t * 9 + 5,none⟩ = some (.int .i64 u.a)∧Wz.cell? ⟨gp,offp + t * 9 + 6,none⟩ = some (.int .i64 u.h)∧Wz.cell? ⟨gp,offp + t * 9 + 7,none⟩ = some (.int .i64 u.d)∧Wz.cell? ⟨gp,offp + t * 9 + 8,none⟩ = some (.int .i64 u.t)):=fun Wz KK=>⟨KK.cell z2,KK.cell yk,KK.cell u0,KK.cell u1,KK.cell u2,KK.cell u3,KK.cell u4,KK.cell u5,KK.cell u6,KK.cell u7,KK.cell u8⟩
        refine wp_region_held_drew (S:=fun w'=>w'.cell? ⟨bx,2,none⟩ = some (.slice (some ⟨gp,offp,none⟩) n2 c2')∧w'.cell? ⟨gl,offl + j * 9,none⟩ = some (.int .i64 y.k)∧w'.cell? ⟨gp,offp + t * 9,none⟩ = some (.int .i64 u.k)∧w'.cell? ⟨gp,offp + t * 9 + 1,none⟩ = some (.int .i64 u.p)∧w'.cell? ⟨gp,offp + t * 9 + 2,none⟩ = some (.bool u.f)∧w'.cell? ⟨gp,offp + t * 9 + 3,none⟩ = some (.int .i64 u.g)∧w'.cell? ⟨gp,offp + t * 9 + 4,none⟩ = some (.slice u.A u.m u.c)∧w'.cell? ⟨gp,offp + t * 9 + 5,none⟩ = some (.int .i64 u.a)∧w'.cell? ⟨gp,offp + t * 9 + 6,none⟩ = some (.int .i64 u.h)∧w'.cell? ⟨gp,offp + t * 9 + 7,none⟩ = some (.int .i64 u.d)∧w'.cell? ⟨gp,offp + t * 9 + 8,none⟩ = some (.int .i64 u.t)) (by kernel_rfl) ?_ (fun hHeld=>?_)
        · exact HELD _ (by repeat (with_reducible first | exact Keep.refl w4 | apply Keep.alloc | apply Keep.drew | apply Keep.drewN))
        refine wpAnyH_take (i:=0) (v:=.slice O j dO) rfl (by kernel_rfl) (by kernel_rfl) (by kernel_rfl) (fun _ _ _ h=>h) (Or.inl ⟨by rfl,fun Wz hW=>by obtain ⟨a2,ak,b0,b1,b2,b3,b4,b5,b6,b7,b8⟩:=hW;go_simp⟩) hHeld ?_
        simp only [Act.put,List.getElem_toArray,List.getElem_cons_zero,List.setIfInBounds_toArray,List.set_cons_zero,List.set_cons_succ]
        refine wpAnyH_take (i:=1) (v:=.pointer (some ⟨bx,2,none⟩)) rfl (by kernel_rfl) (by kernel_rfl) (by kernel_rfl) (fun _ _ _ h=>h) (Or.inl ⟨by rfl,fun Wz hW=>by obtain ⟨a2,ak,b0,b1,b2,b3,b4,b5,b6,b7,b8⟩:=hW;go_simp⟩) hHeld ?_
        simp only [Act.put,List.getElem_toArray,List.getElem_cons_succ,List.getElem_cons_zero,List.setIfInBounds_toArray,List.set_cons_zero,List.set_cons_succ]
        refine wpAnyH_take (i:=2) (v:=.slice (some ⟨gp,offp,none⟩) n2 c2') rfl (by kernel_rfl) (by kernel_rfl) (by kernel_rfl) (fun _ _ _ h=>h) (Or.inl ⟨by rfl,fun Wz hW=>by obtain ⟨a2,ak,b0,b1,b2,b3,b4,b5,b6,b7,b8⟩:=hW;go_simp⟩) hHeld ?_
        simp only [Act.put,List.getElem_toArray,List.getElem_cons_succ,List.getElem_cons_zero,List.setIfInBounds_toArray,List.set_cons_zero,List.set_cons_succ]
        refine wpAnyH_take (i:=3) (v:=.pointer (some ⟨bx,2,none⟩)) rfl (by kernel_rfl) (by kernel_rfl) (by kernel_rfl) (fun _ _ _ h=>h) (Or.inl ⟨by rfl,fun Wz hW=>by obtain ⟨a2,ak,b0,b1,b2,b3,b4,b5,b6,b7,b8⟩:=hW;go_simp⟩) hHeld ?_
        simp only [Act.put,List.getElem_toArray,List.getElem_cons_succ,List.getElem_cons_zero,List.setIfInBounds_toArray,List.set_cons_zero,List.set_cons_succ]
        refine wpAnyH_take (i:=4) (v:=.slice (some ⟨gp,offp,none⟩) n2 c2') rfl (by kernel_rfl) (by kernel_rfl) (by kernel_rfl) (fun _ _ _ h=>h) (Or.inl ⟨by rfl,fun Wz hW=>by obtain ⟨a2,ak,b0,b1,b2,b3,b4,b5,b6,b7,b8⟩:=hW;go_simp⟩) hHeld ?_
        simp only [Act.put,List.getElem_toArray,List.getElem_cons_succ,List.getElem_cons_zero,List.setIfInBounds_toArray,List.set_cons_zero,List.set_cons_succ]
        refine wpAnyH_take (i:=5) (v:=.slice (some ⟨gl,offl,none⟩) k kc) rfl (by kernel_rfl) (by kernel_rfl) (by kernel_rfl) (fun _ _ _ h=>h) (Or.inl ⟨by rfl,fun Wz hW=>by obtain ⟨a2,ak,b0,b1,b2,b3,b4,b5,b6,b7,b8⟩:=hW;go_simp⟩) hHeld ?_
        simp only [Act.put,List.getElem_toArray,List.getElem_cons_succ,List.getElem_cons_zero,List.setIfInBounds_toArray,List.set_cons_zero,List.set_cons_succ]
        refine wpAnyH_take (i:=6) (v:=.int .i64 j) rfl (by kernel_rfl) (by kernel_rfl) (by kernel_rfl) (fun _ _ _ h=>h) (Or.inl ⟨by rfl,fun Wz hW=>by obtain ⟨a2,ak,b0,b1,b2,b3,b4,b5,b6,b7,b8⟩:=hW;go_simp⟩) hHeld ?_
        simp only [Act.put,List.getElem_toArray,List.getElem_cons_succ,List.getElem_cons_zero,List.setIfInBounds_toArray,List.set_cons_zero,List.set_cons_succ]
        refine wpAnyH_take (i:=7) (v:=.pointer (some ⟨gl,offl + j * 9,none⟩)) rfl (by kernel_rfl) (by kernel_rfl) (by kernel_rfl) (fun _ _ _ h=>h) (Or.inl ⟨by rfl,fun Wz hW=>by obtain ⟨a2,ak,b0,b1,b2,b3,b4,b5,b6,b7,b8⟩:=hW;go_simp⟩) hHeld ?_
        simp only [Act.put,List.getElem_toArray,List.getElem_cons_succ,List.getElem_cons_zero,List.setIfInBounds_toArray,List.set_cons_zero,List.set_cons_succ]
        refine wpAnyH_take (i:=8) (v:=.pointer (some ⟨gl,offl + j * 9,none⟩)) rfl (by kernel_rfl) (by kernel_rfl) (by kernel_rfl) (fun _ _ _ h=>h) (Or.inl ⟨by rfl,fun Wz hW=>by obtain ⟨a2,ak,b0,b1,b2,b3,b4,b5,b6,b7,b8⟩:=hW;go_simp⟩) hHeld ?_
        simp only [Act.put,List.getElem_toArray,List.getElem_cons_succ,List.getElem_cons_zero,List.setIfInBounds_toArray,List.set_cons_zero,List.set_cons_succ]
        refine wpAnyH_take (i:=9) (v:=.int .i64 y.k) rfl (by kernel_rfl) (by kernel_rfl) (by kernel_rfl) (fun _ _ _ h=>h) (Or.inl ⟨by rfl,fun Wz hW=>by obtain ⟨a2,ak,b0,b1,b2,b3,b4,b5,b6,b7,b8⟩:=hW;go_simp⟩) hHeld ?_
        simp only [Act.put,List.getElem_toArray,List.getElem_cons_succ,List.getElem_cons_zero,List.setIfInBounds_toArray,List.set_cons_zero,List.set_cons_succ]
        refine wpAnyH_ready (rs:=[10]) (by kernel_rfl) (by simp) ?_
        refine AllReadyH.cons rfl (fun K hK=>?_) AllReadyH.nil
        simp only [List.getElem_toArray,List.getElem_cons_succ,List.getElem_cons_zero]
        rw [if_pos (by rfl)]
        go_simp
        refine (cF.out _ (by repeat (with_reducible first | exact Keep.refl w4 | apply Keep.alloc | apply Keep.drew | apply Keep.drewN))).mono ?_
        rintro e' w5 ⟨rfl,K45⟩
        replace K45:=Lib.hid K45
        go_wp2_with fail
        refine hK.out _ _ ?_ (fun hHeld=>?_)
        · exact HELD _ K45.out
        clear hK K
        try simp only [Act.put,List.getElem_toArray,List.getElem_cons_succ,List.getElem_cons_zero,List.setIfInBounds_toArray,List.set_cons_zero,List.set_cons_succ]
        refine wpAnyH_take (i:=11) (v:=.pointer (some ⟨gp,offp + t * 9,none⟩)) rfl (by kernel_rfl) (by kernel_rfl) (by kernel_rfl) (fun _ _ _ h=>h) (Or.inl ⟨by rfl,fun Wz hW=>by obtain ⟨a2,ak,b0,b1,b2,b3,b4,b5,b6,b7,b8⟩:=hW;go_simp⟩) hHeld ?_
        simp only [Act.put,List.getElem_toArray,List.getElem_cons_succ,List.getElem_cons_zero,List.setIfInBounds_toArray,List.set_cons_zero,List.set_cons_succ]
        refine wpAnyH_take (i:=12) (v:=.agg #[.int .i64 u.k,.int .i64 u.p,.bool u.f,.int .i64 u.g,.slice u.A u.m u.c,.int .i64 u.a,.int .i64 u.h,.int .i64 u.d,.int .i64 u.t]) rfl (by kernel_rfl) (by kernel_rfl) (by kernel_rfl) (fun _ _ _ h=>h) (Or.inl ⟨by rfl,fun Wz hW=>by obtain ⟨a2,ak,b0,b1,b2,b3,b4,b5,b6,b7,b8⟩:=hW;go_simp⟩) hHeld ?_
        simp only [Act.put,List.getElem_toArray,List.getElem_cons_succ,List.getElem_cons_zero,List.setIfInBounds_toArray,List.set_cons_zero,List.set_cons_succ]
        refine wpAnyH_ready (rs:=[13]) (by kernel_rfl) (by simp) ?_
        refine AllReadyH.cons rfl (fun K hK=>?_) AllReadyH.nil
        simp only [List.getElem_toArray,List.getElem_cons_succ,List.getElem_cons_zero]
        rw [if_pos (by rfl)]
        go_simp
        obtain ⟨w6,hw6⟩:∃ w6,w6 = w5.alloc (.cells #[.int .i64 u.k,.int .i64 u.p,.bool u.f,.int .i64 u.g,.slice u.A u.m u.c,.int .i64 u.a,.int .i64 u.h,.int .i64 u.d,.int .i64 u.t] 35):=⟨_,rfl⟩
        rw [← hw6]
        have K46:Hid (Keep w4 w6):=by rw [hw6];exact K45.out.alloc _
        have F6:Hid (w6.heap[w5.heap.size]? = some (.cells (podB u) 35 (0,0))):=by rw [hw6];exact heap_alloc_new _ _
        have s6:Hid (w6.heap.size = w5.heap.size + 1):=by rw [hw6];exact World.size_alloc _ _
        replace hw6:=Lib.hid hw6
        refine hK.out _ _ ?_ (fun hHeld=>?_)
        · exact HELD _ K46.out
        clear hK K
        try simp only [Act.put,List.getElem_toArray,List.getElem_cons_succ,List.getElem_cons_zero,List.setIfInBounds_toArray,List.set_cons_zero,List.set_cons_succ]
        refine wpAnyH_ready (rs:=[14]) (by kernel_rfl) (by simp) ?_
        refine AllReadyH.cons rfl (fun K hK=>?_) AllReadyH.nil
        simp only [List.getElem_toArray,List.getElem_cons_succ,List.getElem_cons_zero]
        rw [if_pos (by rfl)]
        refine wp_ownB (.tmp 41) (.tmp 54) rfl w2.heap.size (.slice O j dO) j (L1.flatMap PodV.cells) (by simp [Act.eval]) (own_keep OWN4.out K46.out) w5.heap.size 1 u (by simp [Act.eval]) F6.out (by omega) (by have:=SZ4.out;have:=K46.out.size;omega) (j + 1) rfl ?_
        intro v7 w7 R7 g7 hb7
        obtain ⟨O7,d7,hv7,_⟩:=own_form R7
        subst hv7
        have R7:=Lib.hid R7
        have g7:=Lib.hid g7
        have hb7:=Lib.hid hb7
        have HF:Hid (∀ i,i < w4.heap.size→(Value.slice O j dO).ownBlock≠some i→w7.heap[i]? = w4.heap[i]?):=fun i hi hn=>(g7.out.block i (by have:=K46.out.size;omega) fun e=>hn e.symm).trans (keep_at K46.out hi)
        have own_lt:Hid (∀ g,(Value.slice O j dO).ownBlock = some g→w2.heap.size≤g):=fun g hg=>(OWN4.out.lt g hg).1
        have HB:w7.heap[bx]? = w4.heap[bx]?:=HF.out bx (lt_of_block BX4.out) (fun e=>by have:=own_lt.out bx e;have:=hbx2.out;omega)
        have HGL:w7.heap[gl]? = w4.heap[gl]?:=HF.out gl (by have:=gl2.out;have:=SZ4.out;omega) (fun e=>by have:=own_lt.out gl e;have:=gl2.out;omega)
        have HGP:w7.heap[gp]? = w4.heap[gp]?:=HF.out gp (cell_lt u0) (fun e=>hgp.out gp e rfl)
        have HB:=Lib.hid HB
        have HGL:=Lib.hid HGL
        have HGP:=Lib.hid HGP
        refine hK.out _ _ ?_ (fun hHeld=>?_)
        · exact ⟨cell_same z2 HB.out,cell_same yk HGL.out,cell_same u0 HGP.out,cell_same u1 HGP.out,cell_same u2 HGP.out,cell_same u3 HGP.out,cell_same u4 HGP.out,cell_same u5 HGP.out,cell_same u6 HGP.out,cell_same u7 HGP.out,cell_same u8 HGP.out⟩
        clear hK K
        try simp only [Act.put,List.setIfInBounds_toArray,List.set_cons_zero,List.set_cons_succ]
        refine wpAnyH_ready (rs:=[15]) (by kernel_rfl) (by simp) ?_
        refine AllReadyH.cons rfl (fun K hK=>?_) AllReadyH.nil
        simp only [List.getElem_toArray,List.getElem_cons_succ,List.getElem_cons_zero]
        rw [if_pos (by rfl)]
        go_simp
        refine hK.out _ _ hHeld (fun hHeld=>?_)
        clear hK K
        try simp only [Act.put,List.getElem_toArray,List.getElem_cons_succ,List.getElem_cons_zero,List.setIfInBounds_toArray,List.set_cons_zero,List.set_cons_succ]
        refine wpAnyH_done (by kernel_rfl) ?_ _
        have en:=step_append K4.out SZ4.out FB4.out BX4.out RL4.out hX'.out ZF4.out OWN4.out (by have:=KW2.out.size;have:=hbx1.out;omega) hbx2.out K46.out s6.out g7.out hb7.out
        replace en:=Lib.hid en
        have L2:Hid ((L1 ++ [u]).map nm = (drO L id).take (j + 1)):=by
          show _ = _
          rw [List.map_append,LM.out,drO_take hz.out,List.map_singleton,hnt.out,hgj.out,drP_ev,evy.out]
        have LI2:Hid (∀ x ∈ L1 ++ [u],PodIs w x):=fun x hx=>by
          rcases List.mem_append.1 hx with hx | hx
          · exact LI.out x hx
          · rw [List.mem_singleton.1 hx];exact ui.out
        have LN2:Hid ((L1 ++ [u]).length = j + 1):=by show _ = _;rw [List.length_append,LN.out];rfl
        have FM:Hid ((L1 ++ [u]).flatMap PodV.cells = L1.flatMap PodV.cells ++ u.cells):=by show _ = _;rw [List.flatMap_append,List.flatMap_singleton]
        have HL4:Hid ((lst P2 n2).map nm = drT L id (j + 1)):=by show _ = _;rw [HL3.out,evy2.out];exact hst.out
        clear z0 z1 z2 zf u0 u1 u2 u3 u4 u5 u6 u7 u8 yk q1 q2 HELD hHeld
        go_wp2_with fail
        go_roundg (k - (j + 1))
        case measure=>omega
        case rel =>
          obtain ⟨K7,SZ7,FB7,BX7,RL7,ZF7⟩:=en.out
          exact ⟨j + 1,O7,d7,L1 ++ [u],_,_,n2,P2,_,hlt,rfl,by go_num,rfl,K7,SZ7,FB7,BX7,RL7,ZF7,(by show World.ownsRow _ _ _ _ _ _ _;rw [FM.out];exact R7.out),L2,LI2,LN2,HL4⟩
    · obtain rfl:j = k:=by omega
      have HLd:Hid ((lst P1 m').map nm = drL L id):=by
        show _ = _
        have:=drT_all hok'.out id
        rw [kL.out] at this
        rw [HL.out,this]
      have LMd:Hid (L1.map nm = drO L id):=by
        show _ = _
        rw [LM.out]
        exact List.take_of_length_le (by rw [drO_len,kL.out];exact Nat.le_refl _)
      have kO:Hid ((drO L id).length = j):=by show _ = _;rw [drO_len,kL.out]
      have RNo:Hid (C14.RN w X wr A c n Q):=hq'.out.same fun i hi=>keep_at K1.out (hX'.out i hi)
      have BZo:Hid (wr.heap[b]? = some (.cells zrc.arr 30 (0,0))):=(FB.out b hb2.out (by have:=hb1.out;omega)).trans BZ2.out
      generalize hwo:wr = wo at *
      clear hwo
      go_wp2
      go_loopg [10,11] n (fun gx s10 s11 wr=>∃ (j2 k2:Nat) (A2:Option Addr) (d2:Nat) (M2:List C14.NdC),j2≤n∧gx = n - j2∧s11 = .int .i64 j2∧s10 = .slice A2 k2 d2∧k2≤j2∧Hid (Keep wo wr)∧Hid (wr.ownsRow wo.heap.size 50 2 (.slice A2 k2 d2) k2 (M2.flatMap C14.NdC.cells))∧Hid (M2 = C14.woL (C14.lst Q j2) id)∧Hid (M2.length = k2))
      case atStart=>exact ⟨0,0,none,0,[],Nat.zero_le _,rfl,rfl,rfl,Nat.le_refl _,Keep.refl _,World.ownsRow_nil _ _ _ _,rfl,rfl⟩
      case round =>
        obtain ⟨j2,k2,A2,d2,M2,hj2,rfl,rfl,rfl,hkj,G,RW,LT,LN2⟩:=hrel
        have BXr:Hid (wr.heap[bx]? = some (.cells (⟨d,A,n,c,B,m',c'⟩:RcV).arr 30 (0,0))):=G.out.block BX.out
        clear c0 c1 c2 cf
        obtain ⟨c0,c1,c2,cf⟩:=rc_cells BXr.out
        simp only at c0 c1 c2
        by_cases hlt2:j2 < n
        · obtain ⟨gn,offn,hA,ca⟩:=(RNo.out.rd.keep G.out).adr (by omega)
          rw [hA] at c1
          have q1:=C14.atN gn offn n c j2 hlt2
          have V:=ca j2 hlt2
          clear ca
          have hs:=wo_succ Q id j2
          obtain ⟨x,hx⟩:∃ x,x = Q j2:=⟨_,rfl⟩
          rw [← hx] at V hs
          replace hx:=Lib.hid hx
          replace hA:=Lib.hid hA
          have x0:=V.e0
          have x1:=V.e1
          clear V
          have gsz:Hid (wo.heap.size≤wr.heap.size):=G.out.size
          by_cases hk:x.k = id
          · rw [if_pos hk] at hs
            have L2:Hid (M2 = C14.woL (C14.lst Q (j2 + 1)) id):=by show _ = _;rw [hs,LT.out]
            replace hs:=Lib.hid hs
            have hkb:(x.k != id) = false:=by simpa using hk
            replace hk:=Lib.hid hk
            clear x1 c0 c2 cf
            go_wp2
            go_roundg (n - (j2 + 1))
            case measure=>omega
            case rel=>exact ⟨j2 + 1,k2,A2,d2,M2,hlt2,rfl,by go_num,rfl,by omega,G,RW,L2,LN2⟩
          · rw [if_neg hk] at hs
            have L2:Hid (M2 ++ [x] = C14.woL (C14.lst Q (j2 + 1)) id):=by show _ = _;rw [hs,LT.out]
            have LN3:Hid ((M2 ++ [x]).length = k2 + 1):=by show _ = _;rw [List.length_append,LN2.out];rfl
            have FM:Hid ((M2 ++ [x]).flatMap C14.NdC.cells = M2.flatMap C14.NdC.cells ++ x.cells):=by show _ = _;rw [List.flatMap_append,List.flatMap_singleton]
            replace hs:=Lib.hid hs
            have hkb:(x.k != id) = true:=by simpa using hk
            replace hk:=Lib.hid hk
            clear c0 c2 cf
            go_wp2_with (at_builtin;refine C14.wpl_own C14.Tryz.tyC14 rfl _ _ rfl wo.heap.size (.slice A2 k2 d2) k2 (M2.flatMap C14.NdC.cells) (by simp [Act.eval]) (C14.own_keep RW.out (Keep.one _ _)) (.slice (some ⟨wr.heap.size,0,none⟩) 1 1) 1 x.cells (by simp [Act.eval]) (C14.src_one (heap_alloc_new _ _)) (C14.cells_one _) (by omega) (by rw [World.size_alloc];have:=gsz.out;omega) (k2 + 1) rfl ?_;intro v3 w3 hr3 hg3)
            have K3:Hid (Keep wo w3):=keep_grown (G.out.trans (Keep.one _ _)) hg3 (fun q hq=>(RW.out.lt q hq).1)
            obtain ⟨B4,d4,hB4,_⟩:=C14.own_form hr3
            subst hB4
            rw [← FM.out] at hr3
            replace hr3:=Lib.hid hr3
            replace hg3:=Lib.hid hg3
            clear x0 x1 q1 c1
            go_wp2
            go_roundg (n - (j2 + 1))
            case measure=>omega
            case rel=>exact ⟨j2 + 1,k2 + 1,B4,d4,M2 ++ [x],hlt2,rfl,by go_num,rfl,by omega,K3,hr3,L2,LN3⟩
        · obtain rfl:j2 = n:=by omega
          obtain ⟨wF,hwF⟩:∃ wF,wF = put3 (wr.setCell ⟨bx,1,none⟩ (.slice A2 k2 d2)) b ⟨d,A2,k2,d2,B,m',c'⟩:=⟨_,rfl⟩
          have en:=Lib.hid (drop_end kw'.out K1.out G.out BX.out BZo.out RLr.out hX'.out ZF.out OWN.out LN.out hj100.out LI.out hbx1.out hb1.out hb2.out RNo.out RW.out LT.out LN2.out hn hwF)
          obtain ⟨z0,z1,z2,zf⟩:=rc_cells (G.out.block BZo.out)
          unfold zrc at z0 z1 z2
          simp only at z0 z1 z2
          have hne:bx≠b:=by have:=hb1.out;omega
          have mn:Hid ((C14.lst (C14.row M2) k2).map nv = drM M id):=by
            show _ = _
            rw [← LN2.out,C14.lst_row,LT.out,wo_nv,hM'.out]
          have dn:Hid (∀ t,t < k2→(C14.row M2 t).n = d):=fun t ht=>by
            have hm:C14.row M2 t ∈ M2:=by
              unfold C14.row
              rw [List.getD_eq_getElem?_getD,List.getElem?_eq_getElem (by have:=LN2.out;omega)]
              exact List.getElem_mem _
            rw [LT.out] at hm
            obtain ⟨i,hi,e2⟩:=C14.lst_mem.1 (C14.wo_mem hm)
            rw [LT.out,← e2]
            exact hdn'.out i hi
          have ml:Hid ((lst (row L1) j).map nm = drO L id):=by show _ = _;rw [← LN.out,lst_row,LMd.out]
          replace hwF:=Lib.hid hwF
          go_wp2
          obtain ⟨F1,F2,F3,F4,F5⟩:=en.out
          obtain ⟨e0,e1,e2,_⟩:=rc_cells F1
          have hwF:=hwF.out
          simp only [put3] at hwF
          rw [hwF] at e0 e1 e2 F2 F3 F4 F5
          refine bodyPost_ret (v:=.tuple #[.agg #[.int .i64 d,.slice A2 k2 d2,.slice B m' c'],.slice O j dO]) (by simp [results,Tryz.results38,go_sem,e0,e1,e2]) rfl ?_
          exact ⟨A2,d2,k2,C14.row M2,B,c',m',P1,O,j,dO,row L1,rfl,F2,F3,mn.out,dn.out,F4,HLd.out,F5,ml.out,kO.out⟩
end Go.Proofs.YtnclkefddkgojaaGreatDoor.T14

