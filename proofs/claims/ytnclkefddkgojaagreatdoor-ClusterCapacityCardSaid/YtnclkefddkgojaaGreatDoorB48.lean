/-
  The landed cluster: DropNode. No condition.
  The landed cluster: AddNode of no cluster. No condition.
  The landed cluster is what the laws ask for. Condition: errors.errorType holds its own (where Con says so).
-/
import Derived.Test.YtnclkefddkgojaaGreatDoorB47
import Derived.Test.YtnclkefddkgojaaGreatDoorB44
import Derived.Test.YtnclkefddkgojaaGreatDoorB40
import Derived.Test.YtnclkefddkgojaaGreatDoorB41
import Derived.Test.YtnclkefddkgojaaGreatDoorB43
import Derived.Test.YtnclkefddkgojaaGreatDoorB45
import Derived.Test.YtnclkefddkgojaaGreatDoorB46
namespace Go.Proofs.YtnclkefddkgojaaGreatDoor.T14
open Go.RowKit Go.Sort Go.Lib V12 T13
theorem os_k64 {w w1:World} {s:Int} {q:Nat} {L:List PodV} {X:Nat→Prop} (o:OSd w s q L X w1):∀ y ∈ L,I64 y.k:=by
  obtain ⟨t,m,A,c,P,h,hL,_⟩:=o
  intro y hy
  rw [← hL] at hy
  obtain ⟨z,hz,rfl⟩:=List.mem_map.1 hy
  obtain ⟨j,hj,rfl⟩:=T13.lst_mem.1 hz
  exact (h.rp.ok j hj).rng.1
section
variable {w w1 w2:World} {d q:Nat} {M:List NV} {L:List PodV} {X Z:Nat→Prop} {qn qp:Nat} {N:List T12.NodeV} {Xn Xp:Nat→Prop}
set_option maxRecDepth 100000 in
set_option maxHeartbeats 4000000 in
theorem cdrop_out (h:CsAt w d q M L X w1 qn qp N Xn Xp) (id:Int) (hk:id ∉ nk M):Calls Tryz.prog 23 #[.pointer (some ⟨q,0,none⟩),.int .i64 id] w1 fun e w'=>∃ A c,e = .returned (.tuple #[.slice A 0 c,flt 5 0])∧CSd w d q M L X w'∧SameX X w1 w':=by
  have cB:Hid (Calls Tryz.prog 47 #[.pointer (some ⟨q,0,none⟩)] w1 fun e w'=>e = .returned (.agg #[.pointer (some ⟨qn,0,none⟩),.pointer (some ⟨qp,0,none⟩)])∧Keep w1 w'):=both_fn h.c2.1 h.c2.2
  have cD:Hid (∀ W',Keep w1 W'→Calls Tryz.prog 52 #[.pointer (some ⟨qn,0,none⟩),.int .i64 id] W' fun e w'=>e = .returned (.tuple #[.agg #[.int .i64 0,.slice none 0 0],.iface 145 (.agg #[.int .i64 5,.int .i64 0])])∧Keep W' w'):=fun W' k=>on_drop_out (h.keep k).on id (by rw [h.keys];exact hk)
  have FIN:Hid (∀ w',Keep w1 w'→CSd w d q M L X w'∧SameX X w1 w'):=fun w' k=>⟨h.cs.keep k,fun i hi=>Below.block k i (h.lt i hi)⟩
  have ef:flt 5 0 = .iface 145 (.agg #[.int .i64 5,.int .i64 0]):=rfl
  rw [ef]
  clear h hk ef
  go_enter Tryz.func23,Tryz.ntmps23
  go_wp2_with fail
  refine cB.out.mono ?_
  rintro e w2 ⟨rfl,k2⟩
  obtain ⟨W2,hW2⟩:∃ W2,W2 = w2.alloc (.cells #[.pointer (some ⟨qn,0,none⟩),.pointer (some ⟨qp,0,none⟩)] 77):=⟨_,rfl⟩
  obtain ⟨b6,hb6⟩:∃ b6,b6 = w2.heap.size:=⟨_,rfl⟩
  have K2:Hid (Keep w1 W2):=by rw [hW2];exact k2.alloc _
  have B6:Hid (W2.heap[b6]? = some (.cells #[.pointer (some ⟨qn,0,none⟩),.pointer (some ⟨qp,0,none⟩)] 77 (0,0))):=by show _ = _;rw [hW2,hb6];exact heap_alloc_new _ _
  have n6:Hid (newB w1 W2 b6):=⟨by have:=k2.size;omega,lt_of_block B6.out⟩
  obtain ⟨t0,t1,_⟩:=T12.cel2 B6.out
  rw [hW2,hb6] at t0 t1
  replace k2:=Lib.hid k2
  go_wp2_with fail
  rw [← hW2]
  try rw [← hb6]
  replace hW2:=Lib.hid hW2
  replace hb6:=Lib.hid hb6
  clear t0 t1
  refine (cD.out W2 K2.out).mono ?_
  rintro e w3 ⟨rfl,k3⟩
  have K3:Hid (Keep w1 w3):=K2.out.trans k3
  replace k3:=Lib.hid k3
  go_wp2
  go_ret2
  exact ⟨none,0,rfl,FIN.out _ (K3.out.alloc _)⟩
set_option maxRecDepth 100000 in
set_option maxHeartbeats 16000000 in
theorem cdrop_in (h:CsAt w d q M L X w1 qn qp N Xn Xp) (id:Int) (hk:id ∈ nk M) (hl:L.length≤100):Calls Tryz.prog 23 #[.pointer (some ⟨q,0,none⟩),.int .i64 id] w1 fun e w'=>∃ v S,e = .returned (.tuple #[v,.nilIface])∧RowP w' w1.heap.size v (drO L id).length S∧(T13.lst S (drO L id).length).map nm = drO L id∧CSd w d q (drM M id) (drL L id) X w'∧SameX X w1 w':=by
  have cB:Hid (Calls Tryz.prog 47 #[.pointer (some ⟨q,0,none⟩)] w1 fun e w'=>e = .returned (.agg #[.pointer (some ⟨qn,0,none⟩),.pointer (some ⟨qp,0,none⟩)])∧Keep w1 w'):=both_fn h.c2.1 h.c2.2
  have hX:=h.lt
  have h100:=h.m1000
  have lok:=h.ok.lok
  have ok2:=drL_ok h.ok id
  have hw0:=h.kp.size
  have hk64:∀ y ∈ L,I64 y.k:=os_k64 h.os
  have nds:(T12.dropL N id).map nvn = drM M id:=by
    unfold drM
    rw [← h.nds]
    exact G.map_wo (ka:=T12.NodeV.k) (kb:=NV.k) (f:=nvn) (fun _=>rfl) N id
  have use:∀ x ∈ T12.dropL N id,∀ j,j < d→x.U j = usedL (drL L id) x.k j:=fun x hx j hj=>by
    obtain ⟨a,b⟩:=(G.wo_mem (key:=T12.NodeV.k)).1 hx
    rw [drL_used,if_neg b,h.use x a j hj]
  obtain ⟨n,hn⟩:∃ n,n = (L.filter (onB id)).length:=⟨_,rfl⟩
  have hn100:n≤100:=by
    have:=List.length_filter_le (onB id) L
    omega
  have cD:Hid (∀ W' b6,Keep w1 W'→newB w1 W' b6→W'.heap[b6]? = some (.cells #[.pointer (some ⟨qn,0,none⟩),.pointer (some ⟨qp,0,none⟩)] 77 (0,0))→Calls Tryz.prog 52 #[.pointer (some ⟨qn,0,none⟩),.int .i64 id] W' fun e w3=>∃ A c,e = .returned (.tuple #[.agg #[.int .i64 id,.slice A d c],.nilIface])∧w3.heap[b6]? = W'.heap[b6]?∧∀ W3,Keep w3 W3→Calls Tryz.prog 53 #[.pointer (some ⟨qp,0,none⟩),.int .i64 id] W3 fun e w4=>∃ A c g S,e = .returned (.slice A n c)∧(0 < n→A = some ⟨g,0,none⟩)∧RowP w4 W3.heap.size (.slice A n c) n S∧DI w w1 d q qn qp (T12.dropL N id) L X id b6 g c W3.heap.size n 0 w4 S):=fun W' b6 k hb6 hB6=>by
    have h2:=h.keep k
    refine (on_drop_in h2.on id (by rw [h.keys];exact hk)).mono ?_
    rintro e w3 ⟨A,c,he,o,sx,hs⟩
    have q6:=sx b6 (Or.inr hb6)
    have h3:=h2.m.nodes o sx hs
    refine ⟨A,c,he,q6,fun W3 k3=>?_⟩
    have h3':=h3.keep k3
    refine (con13.on id h3'.os h100 (by omega)).mono ?_
    rintro e w4 ⟨v,S,he4,hR,hS,k4⟩
    rw [← hn] at hR hS
    have k34:=k3.trans k4
    have h4:=h3.keep k34
    have hs34:=k34.size
    have hs4:=k4.size
    have hs3:=k3.size
    have hsW:=k.size
    have l3:=h3.lt
    have hb3:b6 < w3.heap.size:=l3 b6 (Or.inr hb6)
    have B4:w4.heap[b6]? = some (.cells #[.pointer (some ⟨qn,0,none⟩),.pointer (some ⟨qp,0,none⟩)] 77 (0,0)):=(Below.block k34 b6 hb3).trans (q6.trans hB6)
    have nms:∀ t,t < n→nm (S t) = if t < 0 then drP ((L.filter (onB id)).getD t zpod) else (L.filter (onB id)).getD t zpod:=fun t ht=>by
      rw [if_neg (Nat.not_lt_zero _),← hS,List.getD_eq_getElem?_getD,List.getElem?_map,T13.lst_get ht]
      rfl
    have sx4:SameX X w1 w4:=fun i hi=>by
      have h5:=hX i hi
      rw [Below.block k34 i (l3 i (Or.inl hi)),sx i (Or.inl (h.sub i hi).1),Below.block k i h5]
    have own4:∀ t,t < n→∀ kk,(Value.slice (S t).A (S t).m (S t).c).ownBlock = some kk→newB w3 w4 kk:=fun t ht kk hkk=>by
      have:=World.ownsRow.lt (hR.own t ht) kk hkk
      exact ⟨by omega,this.2⟩
    have e0:drT L id 0 = L:=drT_zero L id
    have key:∀ g,(0 < n→newB w3 w4 g)→W3.heap.size≤g→∀ c,(0 < n→RowP w4 W3.heap.size (.slice (some ⟨g,0,none⟩) n c) n S)→DI w w1 d q qn qp (T12.dropL N id) L X id b6 g c W3.heap.size n 0 w4 S:=fun g hg1 hg2 c hg3 =>
      ⟨⟨_,_,_,by rw [e0];exact h4,fun i hi=>Or.inl (Or.inl hi),Or.inl (Or.inr hb6),fun h0=>Or.inr (hg1 h0),fun t ht kk hkk=>Or.inr (own4 t ht kk hkk)⟩,B4,sx4,hg3,nms,by omega,hX,by omega,by omega,hg2,hw0⟩
    rcases hR.row.2 with ⟨hv,hn0⟩ | ⟨g,cap,cur,hv,h5,h6,_⟩
    · have hn0':n = 0:=hn0
      refine ⟨none,0,w4.heap.size,S,?_,fun h0=>absurd h0 (by omega),?_,key _ (fun h0=>absurd h0 (by omega)) (by omega) 0 fun h0=>absurd h0 (by omega)⟩
      · rw [he4,hv,hn0']
        try rfl
      · have:=hR
        rw [hv] at this
        rw [hn0'] at this ⊢
        exact this
    · subst hv
      have hlt:=lt_of_block h6
      exact ⟨some ⟨g,0,none⟩,cap,g,S,he4,fun _=>rfl,hR,key g (fun _=>⟨by omega,hlt⟩) h5 cap fun _=>hR⟩
  have FIN:Hid (∀ b6 g c base wr S,DI w w1 d q qn qp (T12.dropL N id) L X id b6 g c base n n wr S→CSd w d q (drM M id) (drL L id) X wr∧SameX X w1 wr∧(T13.lst S (drO L id).length).map nm = drO L id∧w1.heap.size≤base):=fun b6 g c base wr S h=>by
    obtain ⟨Yn,Yp,Xr,a1,a2,_⟩:=h.m
    rw [hn,drT_all lok] at a1
    refine ⟨((a1.at nds use ok2).less a2).cs,h.sx,?_,h.sz.1⟩
    have hlen:(drO L id).length = n:=by unfold drO;rw [List.length_map,hn]
    rw [hlen]
    refine List.ext_getElem? fun t=>?_
    by_cases ht:t < n
    · rw [List.getElem?_map,T13.lst_get ht]
      unfold drO
      rw [List.getElem?_map]
      show some (nm (S t)) = _
      rw [h.nms t ht,if_pos ht,List.getD_eq_getElem?_getD,List.getElem?_eq_getElem (by omega)]
      rfl
    · rw [List.getElem?_eq_none (by rw [List.length_map,T13.lst_len];omega),List.getElem?_eq_none (by omega)]
  have hon:Hid (∀ y j,j < n→nm y = (L.filter (onB id)).getD j zpod→y.h = 2∨(y.h = 3∨y.h = 4)):=fun y j hj e=>by
    have hz:(L.filter (onB id))[j]? = some (nm y):=by
      rw [e,List.getD_eq_getElem?_getD,List.getElem?_eq_getElem (by omega)]
      rfl
    have h1:=on_h (drT_step lok (by omega) hz).1
    have h2:(nm y).h = y.h:=rfl
    omega
  have cA:Hid (∀ b6 g c base j wr S W5 ev,DI w w1 d q qn qp (T12.dropL N id) L X id b6 g c base n j wr S→j < n→Keep wr W5→wr.heap.size < W5.heap.size→ev = evD ((L.filter (onB id)).getD j zpod)→Calls Tryz.prog 55 #[.pointer (some ⟨qp,0,none⟩),.int .i64 (S j).k,.int .i64 ev,.int .i64 (-1),.int .i64 (-1)] W5 fun e w6=>∃ r6,e = .returned (.tuple #[r6.val,.nilIface])∧Cel9 w6 g (j * 9) (S j)∧(∀ i,w6.frozen? ⟨g,i,none⟩ = false)∧DI w w1 d q qn qp (T12.dropL N id) L X id b6 g c base n (j + 1) (put9o w6 g (j * 9) r6) (put S j r6)):=fun b6 g c base j wr S W5 ev hD hj k5 hs hev=>hD.apply lok hj hn k5 hs hk64 h100 hl ev hev
  have hlen:Hid ((drO L id).length = n):=by show _ = _;unfold drO;rw [List.length_map,hn]
  replace hn:=Lib.hid hn
  clear h hX h100 lok ok2 hw0 hk64 nds use hk
  go_enter Tryz.func23,Tryz.ntmps23
  go_wp2_with fail
  refine cB.out.mono ?_
  rintro e w2 ⟨rfl,k2⟩
  obtain ⟨W2,hW2⟩:∃ W2,W2 = w2.alloc (.cells #[.pointer (some ⟨qn,0,none⟩),.pointer (some ⟨qp,0,none⟩)] 77):=⟨_,rfl⟩
  obtain ⟨b6,hb6⟩:∃ b6,b6 = w2.heap.size:=⟨_,rfl⟩
  have K2:Hid (Keep w1 W2):=by rw [hW2];exact k2.alloc _
  have B6:Hid (W2.heap[b6]? = some (.cells #[.pointer (some ⟨qn,0,none⟩),.pointer (some ⟨qp,0,none⟩)] 77 (0,0))):=by show _ = _;rw [hW2,hb6];exact heap_alloc_new _ _
  have n6:Hid (newB w1 W2 b6):=⟨by have:=k2.size;omega,lt_of_block B6.out⟩
  obtain ⟨t0,t1,_⟩:=T12.cel2 B6.out
  rw [hW2,hb6] at t0 t1
  replace k2:=Lib.hid k2
  go_wp2_with fail
  rw [← hW2]
  try rw [← hb6]
  replace hW2:=Lib.hid hW2
  replace hb6:=Lib.hid hb6
  clear t0 t1
  refine (cD.out W2 b6 K2.out n6.out B6.out).mono ?_
  rintro e w3 ⟨nA,nc,rfl,q6,cOn⟩
  obtain ⟨W3,hW3⟩:∃ W3,W3 = w3.alloc (.cells #[.int .i64 id,.slice nA d nc] 50):=⟨_,rfl⟩
  have K33:Hid (Keep w3 W3):=by rw [hW3];exact Keep.one _ _
  have B63:Hid (W3.heap[b6]? = some (.cells #[.pointer (some ⟨qn,0,none⟩),.pointer (some ⟨qp,0,none⟩)] 77 (0,0))):=K33.out.block (q6.trans B6.out)
  obtain ⟨t0,t1,_⟩:=T12.cel2 B63.out
  rw [hW3] at t0 t1
  have cOn:=Lib.hid (cOn W3 K33.out)
  replace q6:=Lib.hid q6
  go_wp2_with fail
  rw [← hW3]
  refine cOn.out.mono ?_
  rintro e w4 ⟨A,c,g,S0,rfl,hA,R0,D0⟩
  replace hW3:=Lib.hid hW3
  replace hA:=Lib.hid hA
  replace R0:=Lib.hid R0
  replace D0:=Lib.hid D0
  clear t0 t1
  generalize hwo:w4 = wo at *
  clear hwo
  go_wp2
  go_loopg [33] n (fun gx s33 wr=>∃ (j:Nat) (S:Nat→PodV),j≤n∧gx = n - j∧s33 = .int .i64 j∧Hid (DI w w1 d q qn qp (T12.dropL N id) L X id b6 g c W3.heap.size n j wr S)∧Hid (j = 0→wr = wo∧S = S0))
  case atStart=>exact ⟨0,S0,Nat.zero_le _,rfl,rfl,D0,fun _=>⟨rfl,rfl⟩⟩
  case round =>
    obtain ⟨j,S,hj,rfl,rfl,D,Z0⟩:=hrel
    by_cases hlt:j < n
    · have hA':=hA.out (by omega)
      subst hA'
      have RP:=D.out.rp (by omega)
      have q1:=pods_at g 0 n c j hlt
      rw [Nat.zero_add] at q1
      have V:=row_cel RP.row hlt
      rw [Nat.zero_add] at V
      have hnm:=D.out.nms j hlt
      rw [if_neg (Nat.lt_irrefl _)] at hnm
      have ph:=hon.out (S j) j hlt hnm
      have hevD:evD ((L.filter (onB id)).getD j zpod) = if (S j).h = 2 then 3 else 5:=by
        rw [← hnm]
        rfl
      have cA1:=Lib.hid (cA.out b6 g c W3.heap.size j wr S)
      obtain ⟨y,hy⟩:∃ y,y = S j:=⟨_,rfl⟩
      rw [← hy] at V ph hevD cA1
      replace hnm:=Lib.hid hnm
      replace hy:=Lib.hid hy
      replace RP:=Lib.hid RP
      obtain ⟨W5,hW5⟩:∃ W5,W5 = wr.alloc (.cells (podB y) 35):=⟨_,rfl⟩
      have K5:Hid (Keep wr W5):=by rw [hW5];exact Keep.one _ _
      have s5:Hid (wr.heap.size < W5.heap.size):=by show _ < _;rw [hW5,World.size_alloc];exact Nat.lt_succ_self _
      have B5:Hid (W5.heap[wr.heap.size]? = some (.cells (podB y) 35 (0,0))):=by show _ = _;rw [hW5];exact heap_alloc_new _ _
      have x6:=(blk9 B5.out).e6
      have x0:=(blk9 B5.out).e0
      have t1:=(T12.cel2 (K5.out.block D.out.B)).2.1
      have cH:=Lib.hid (holdsH_fn y.h W5)
      unfold podB at hW5
      rw [hW5] at x6 x0 t1
      have v0:=V.e0;have v1:=V.e1;have v2:=V.e2;have v3:=V.e3;have v4:=V.e4;have v5:=V.e5;have v6:=V.e6;have v7:=V.e7;have v8:=V.e8
      clear V
      go_wp2_with fail
      rw [← hW5]
      refine cH.out.mono ?_
      rintro e w5 ⟨rfl,rfl⟩
      clear v0 v1 v2 v3 v4 v5 v6 v7 v8
      by_cases hh:y.h = 3∨y.h = 4
      · have hb:hdP y.h = true:=decide_eq_true hh
        rw [hb]
        rw [if_neg (by omega)] at hevD
        replace hb:=Lib.hid hb
        replace hh:=Lib.hid hh
        go_wp2_with fail
        rw [← hW5]
        refine (cA1.out W5 5 D.out hlt K5.out s5.out hevD.symm).mono ?_
        rintro e w6 ⟨r6,rfl,C9,fz,D2⟩
        have v0:=C9.e0;have v1:=C9.e1;have v2:=C9.e2;have v3:=C9.e3;have v4:=C9.e4;have v5:=C9.e5;have v6:=C9.e6;have v7:=C9.e7;have v8:=C9.e8
        clear C9 x6 x0 t1
        replace D2:=Lib.hid D2
        replace hW5:=Lib.hid hW5
        replace hevD:=Lib.hid hevD
        unfold PodV.val
        unfold put9o at D2
        go_wp2
        go_roundg (n - (j + 1))
        case measure=>omega
        case rel=>exact ⟨j + 1,put S j r6,hlt,rfl,by go_num,D2,fun h=>absurd h (by omega)⟩
      · have hb:hdP y.h = false:=decide_eq_false hh
        rw [hb]
        rw [if_pos (ph.resolve_right hh)] at hevD
        replace hb:=Lib.hid hb
        replace hh:=Lib.hid hh
        go_wp2_with fail
        rw [← hW5]
        refine (cA1.out W5 3 D.out hlt K5.out s5.out hevD.symm).mono ?_
        rintro e w6 ⟨r6,rfl,C9,fz,D2⟩
        have v0:=C9.e0;have v1:=C9.e1;have v2:=C9.e2;have v3:=C9.e3;have v4:=C9.e4;have v5:=C9.e5;have v6:=C9.e6;have v7:=C9.e7;have v8:=C9.e8
        clear C9 x6 x0 t1
        replace D2:=Lib.hid D2
        replace hW5:=Lib.hid hW5
        replace hevD:=Lib.hid hevD
        unfold PodV.val
        unfold put9o at D2
        go_wp2
        go_roundg (n - (j + 1))
        case measure=>omega
        case rel=>exact ⟨j + 1,put S j r6,hlt,rfl,by go_num,D2,fun h=>absurd h (by omega)⟩
    · obtain rfl:j = n:=by omega
      obtain ⟨f1,f2,f3,f4⟩:=FIN.out _ _ _ _ _ _ D.out
      go_wp2
      go_ret2
      refine ⟨.slice A j c,S,rfl,?_,f3,f1,f2⟩
      rw [hlen.out]
      by_cases h0:0 < j
      · rw [hA.out h0]
        exact (D.out.rp h0).base f4
      · obtain ⟨e1,e2⟩:=Z0.out (by omega)
        rw [e1,e2]
        exact R0.out.base f4
end
end Go.Proofs.YtnclkefddkgojaaGreatDoor.T14

namespace Go.Proofs.YtnclkefddkgojaaGreatDoor.T14
open Go.RowKit Go.Sort Go.Lib V12 T13
set_option maxRecDepth 100000 in
set_option maxHeartbeats 4000000 in
theorem nadd_nil (k:Int) (A:Option Addr) (n c:Nat) (w:World):Calls Tryz.prog 58 #[.pointer none,.agg #[.int .i64 k,.slice A n c]] w fun e w'=>e = .returned (.iface 145 (.agg #[.int .i64 5,.int .i64 0]))∧Keep w w':=by
  have hn:=Lib.hid (fun W=>new_fn 5 0 W)
  go_enter Tryz.func58,Tryz.ntmps58
  go_wp2_with fail
  refine (hn.out _).mono ?_
  rintro e w1 ⟨rfl,rfl⟩
  go_wp2
  go_ret
  exact ⟨rfl,Keep.one _ _⟩
set_option maxRecDepth 100000 in
set_option maxHeartbeats 4000000 in
theorem cadd_nil (k:Int) (A:Option Addr) (n c:Nat) (w1:World):Calls Tryz.prog 26 #[.pointer none,.agg #[.int .i64 k,.slice A n c]] w1 fun e w'=>e = .returned (flt 5 0)∧Keep w1 w':=by
  have mixed:Tryz.prog.follows .mixedOrders = true:=by kernel_rfl
  obtain ⟨W,hW⟩:∃ W,W = w1.alloc (.cells #[.int .i64 k,.slice A n c] 50):=⟨_,rfl⟩
  have KW:Hid (Keep w1 W):=by rw [hW];exact Keep.one _ _
  obtain ⟨b,hb⟩:∃ b,b = w1.heap.size:=⟨_,rfl⟩
  have Y0:W.heap[b]? = some (.cells #[.int .i64 k,.slice A n c] 50 (0,0)):=by rw [hW,hb];exact heap_alloc_new _ _
  obtain ⟨y0,y1,yf⟩:=T12.cel2 Y0
  have cA:=Lib.hid (fun W=>nadd_nil k A n c W)
  have cB:=Lib.hid (fun W=>both_nil W)
  have ef:flt 5 0 = .iface 145 (.agg #[.int .i64 5,.int .i64 0]):=rfl
  rw [ef]
  clear ef
  replace Y0:=Lib.hid Y0
  have fs0:∀ W,(Instr.field 77 (.agg #[.pointer none,.pointer none]) 0).run Tryz.prog W = .ok (.agg #[.pointer none]) W:=fun _=>by kernel_rfl
  have fs1:∀ W,(Instr.field 77 (.agg #[.pointer none,.pointer none]) 1).run Tryz.prog W = .ok (.agg #[.pointer none]) W:=fun _=>by kernel_rfl
  have fn0:∀ W,(Instr.field 71 (.agg #[.pointer none]) 0).run Tryz.prog W = .ok (.pointer none) W:=fun _=>by kernel_rfl
  have fp0:∀ W,(Instr.field 75 (.agg #[.pointer none]) 0).run Tryz.prog W = .ok (.pointer none) W:=fun _=>by kernel_rfl
  go_enter Tryz.func26,Tryz.ntmps26
  go_wp2_with fail
  rw [← hW,← hb]
  replace hW:=Lib.hid hW
  replace hb:=Lib.hid hb
  have HELD:∀ Wz,Keep W Wz→(Wz.cell? ⟨b,0,none⟩ = some (.int .i64 k)∧Wz.cell? ⟨b,1,none⟩ = some (.slice A n c)):=fun Wz KK=>⟨KK.cell y0,KK.cell y1⟩
  refine wp_region_held_drew (S:=fun w'=>w'.cell? ⟨b,0,none⟩ = some (.int .i64 k)∧w'.cell? ⟨b,1,none⟩ = some (.slice A n c)) (by kernel_rfl) ?_ (fun hHeld=>?_)
  · exact HELD _ (by repeat (with_reducible first | exact Keep.refl W | apply Keep.alloc | apply Keep.drew | apply Keep.drewN))
  refine wpAnyH_take (i:=0) (v:=.pointer none) rfl (by kernel_rfl) (by kernel_rfl) (by kernel_rfl) (fun _ _ _ h=>h) (Or.inl ⟨by rfl,fun Wz hW=>by obtain ⟨p0,p1⟩:=hW;go_simp⟩) hHeld ?_
  simp only [Act.put,List.getElem_toArray,List.getElem_cons_zero,List.setIfInBounds_toArray,List.set_cons_zero,List.set_cons_succ]
  refine wpAnyH_take (i:=4) (v:=.agg #[.int .i64 k,.slice A n c]) rfl (by kernel_rfl) (by kernel_rfl) (by kernel_rfl) (fun _ _ _ h=>h) (Or.inl ⟨by rfl,fun Wz hW=>by obtain ⟨p0,p1⟩:=hW;go_simp⟩) hHeld ?_
  simp only [Act.put,List.getElem_toArray,List.getElem_cons_succ,List.getElem_cons_zero,List.setIfInBounds_toArray,List.set_cons_zero,List.set_cons_succ]
  refine wpAnyH_ready (rs:=[1]) (by kernel_rfl) (by simp) ?_
  refine AllReadyH.cons rfl (fun K hK=>?_) AllReadyH.nil
  simp only [List.getElem_toArray,List.getElem_cons_succ,List.getElem_cons_zero]
  rw [if_pos (by rfl)]
  go_simp
  refine (cB.out _).mono ?_
  rintro e w2 ⟨rfl,k2⟩
  have K2:Hid (Keep W w2):=((Keep.refl _).drew:Keep W _).trans k2
  replace k2:=Lib.hid k2
  go_wp2_with fail
  refine hK.out _ _ ?_ (fun hHeld=>?_)
  · exact HELD _ K2.out
  clear hK K
  try simp only [Act.put,List.getElem_toArray,List.getElem_cons_succ,List.getElem_cons_zero,List.setIfInBounds_toArray,List.set_cons_zero,List.set_cons_succ]
  refine wpAnyH_take (i:=2) (v:=.agg #[.pointer none]) rfl (by kernel_rfl) (by kernel_rfl) (by kernel_rfl) (fun _ _ _ h=>h) (Or.inl ⟨by rfl,fun Wz hW=>by obtain ⟨p0,p1⟩:=hW;go_simp⟩) hHeld ?_
  simp only [Act.put,List.getElem_toArray,List.getElem_cons_succ,List.getElem_cons_zero,List.setIfInBounds_toArray,List.set_cons_zero,List.set_cons_succ]
  refine wpAnyH_take (i:=3) (v:=.pointer none) rfl (by kernel_rfl) (by kernel_rfl) (by kernel_rfl) (fun _ _ _ h=>h) (Or.inl ⟨by rfl,fun Wz hW=>by obtain ⟨p0,p1⟩:=hW;go_simp⟩) hHeld ?_
  simp only [Act.put,List.getElem_toArray,List.getElem_cons_succ,List.getElem_cons_zero,List.setIfInBounds_toArray,List.set_cons_zero,List.set_cons_succ]
  refine wpAnyH_ready (rs:=[5]) (by kernel_rfl) (by simp) ?_
  refine AllReadyH.cons rfl (fun K hK=>?_) AllReadyH.nil
  simp only [List.getElem_toArray,List.getElem_cons_succ,List.getElem_cons_zero]
  rw [if_pos (by rfl)]
  go_simp
  refine (cA.out w2).mono ?_
  rintro e w3 ⟨rfl,k3⟩
  have K3:Hid (Keep W w3):=K2.out.trans k3
  replace k3:=Lib.hid k3
  go_wp2_with fail
  refine hK.out _ _ ?_ (fun hHeld=>?_)
  · exact HELD _ K3.out
  clear hK K
  try simp only [Act.put,List.getElem_toArray,List.getElem_cons_succ,List.getElem_cons_zero,List.setIfInBounds_toArray,List.set_cons_zero,List.set_cons_succ]
  refine wpAnyH_take (i:=6) (v:=.iface 145 (.agg #[.int .i64 5,.int .i64 0])) rfl (by kernel_rfl) (by kernel_rfl) (by kernel_rfl) (fun _ _ _ h=>h) (Or.inl ⟨by rfl,fun Wz hW=>by obtain ⟨p0,p1⟩:=hW;go_simp⟩) hHeld ?_
  simp only [Act.put,List.getElem_toArray,List.getElem_cons_succ,List.getElem_cons_zero,List.setIfInBounds_toArray,List.set_cons_zero,List.set_cons_succ]
  refine wpAnyH_done (by kernel_rfl) ?_ _
  go_wp2
  go_ret
  exact ⟨rfl,KW.out.trans K3.out⟩
end Go.Proofs.YtnclkefddkgojaaGreatDoor.T14

namespace Go.Proofs.YtnclkefddkgojaaGreatDoor.T14
open Go.RowKit Go.Sort Go.Lib V12 T13
theorem new14:NewOk CSd:=fun d w w0 k hd=>cnew_fn d w w0 k hd
theorem con14:Con CSd where
  kp:=fun h=>h.kp
  keep:=fun h k=>h.keep k
  more:=fun h k hZ=>h.more k hZ
  less:=fun h hZ=>h.less hZ
  write:=fun h kw hs f=>h.write kw hs f
  lt:=fun h=>h.lt
  ok:=fun h=>h.ok
  addNode:=by
    rintro w d q M L X w1 k A n c Z ⟨qn,qp,N,Xn,Xp,h⟩ hg hv nilA hk _ _
    exact cadd_fn h hg k A n c Z hv nilA hk
  dropNode:=by
    rintro w d q M L X w1 id ⟨qn,qp,N,Xn,Xp,h⟩ hg hid _ hl
    by_cases hk:id ∈ nk M
    · exact (cdrop_in h id hk hl).mono fun _ _ hh=>⟨fun _=>hh,fun hn=>absurd hk hn⟩
    · exact (cdrop_out h id hk).mono fun _ _ hh=>⟨fun hn=>absurd hn hk,fun _=>hh⟩
  submit:=by
    rintro w d q M L X w1 x ⟨qn,qp,N,Xn,Xp,h⟩ hg hx hm hl
    exact csubmit_fn h hg x hx hm hl
  bind:=by
    rintro w d q M L X w1 id nd ⟨qn,qp,N,Xn,Xp,h⟩ hg hid hnd _ hl
    exact cbind_fn h id nd hid hnd hl
  claim:=by
    rintro w d q M L X w1 id nd ⟨qn,qp,N,Xn,Xp,h⟩ hg hid hnd _ hl
    exact cclaim_fn h id nd hid hnd hl
  change:=by
    rintro w d q M L X w1 id ev dl ⟨qn,qp,N,Xn,Xp,h⟩ hg hid hev hdl _ hl
    exact cchange_fn h id ev dl hid hev hdl hl
  nodes:=by
    rintro w d q M L X w1 ⟨qn,qp,N,Xn,Xp,h⟩ hl
    exact cnodes_fn h hl
  node:=by
    rintro w d q M L X w1 id ⟨qn,qp,N,Xn,Xp,h⟩ _ _
    exact (cnode_fn h id).mono fun _ _ ⟨k,A,n,c,e,a,b,kk⟩=>⟨k,A,n,c,e,fun hk=>by
      obtain ⟨a1,a2,a3,a4⟩:=a hk
      exact ⟨a1,a2,a3,a4⟩,b,kk⟩
  free:=by
    rintro w d q M L X w1 id ⟨qn,qp,N,Xn,Xp,h⟩ _ _ _
    exact cfree_fn h id
  pods:=by
    rintro w d q M L X w1 ⟨qn,qp,N,Xn,Xp,h⟩ hl
    exact cpods_fn h hl
  pod:=by
    rintro w d q M L X w1 id ⟨qn,qp,N,Xn,Xp,h⟩ hid _
    exact cpod_fn h id hid
  on:=by
    rintro w d q M L X w1 nd ⟨qn,qp,N,Xn,Xp,h⟩ _ hl
    exact con_fn h nd hl
  dims:=by
    rintro w d q M L X w1 ⟨qn,qp,N,Xn,Xp,h⟩
    exact cdims_fn h
  addNil:=fun A n c k w _=>cadd_nil k A n c w
  podsNil:=podsnil_fn
end Go.Proofs.YtnclkefddkgojaaGreatDoor.T14

