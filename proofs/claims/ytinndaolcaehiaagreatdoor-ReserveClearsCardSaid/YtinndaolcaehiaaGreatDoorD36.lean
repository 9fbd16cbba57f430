/-
  reserve.Sees, Pods, Own, All; the reference's Sees. Condition: at most 100 pods.
-/
import Derived.Test.YtinndaolcaehiaaGreatDoorD35
import Derived.Test.YtinndaolcaehiaaGreatDoorD7
import Derived.Test.YtinndaolcaehiaaGreatDoorD26
namespace Go.Proofs.YtinndaolcaehiaaGreatDoor.T15
open Go.RowKit Go.Sort Go.Lib V12 T13 T14
def seesB (p:PodV) (nd:Int) (q:PodV):Bool:=decide (q.k≠p.k∧q.h = 2∧q.d = nd∧p.p≤q.p)
def seesL (p:PodV) (nd:Int) (L:List PodV):List PodV:=L.filter (seesB p nd)
def nomB (q:PodV):Bool:=decide (q.h = 2)
structure Two (w W:World) (p q:PodV):Prop where
  k:Keep w W
  b0:W.heap[w.heap.size]? = some (.cells (podB p) 24 (0,0))
  b1:W.heap[w.heap.size + 1]? = some (.cells (podB q) 24 (0,0))
theorem two (w:World) (p q:PodV):Two w ((w.alloc (.cells (podB p) 24)).alloc (.cells (podB q) 24)) p q:=by
  have h1:=heap_alloc_new (w.alloc (.cells (podB p) 24)) (.cells (podB q) 24)
  rw [World.size_alloc] at h1
  exact ⟨(Keep.one _ _).alloc _,(Keep.one _ _).block (heap_alloc_new _ _),h1⟩
set_option maxRecDepth 100000 in
set_option maxHeartbeats 4000000 in
theorem sees_fn (p q:PodV) (nd:Int) (w:World):Calls Tryz.prog 7 #[p.val,q.val,.int .i64 nd] w fun e w'=>e = .returned (.bool (seesB p nd q))∧Keep w w':=by
  have T:=two w p q
  have KW:=Lib.hid T.k
  have P0:=blk9 T.b0
  have Q0:=blk9 T.b1
  have p0:=P0.e0;have p1:=P0.e1;have q0:=Q0.e0;have q1:=Q0.e1;have q6:=Q0.e6;have q7:=Q0.e7
  clear P0 Q0 T
  unfold podB at p0 p1 q0 q1 q6 q7
  unfold PodV.val
  by_cases h1:q.k = p.k
  · have e:seesB p nd q = false:=decide_eq_false fun h=>h.1 h1
    have b1:(q.k != p.k) = false:=by simp [h1]
    rw [e]
    replace h1:=Lib.hid h1
    go_enter Tryz.func7,Tryz.ntmps7
    go_wp2
    go_ret
    exact ⟨rfl,KW.out⟩
  · have b1:(q.k != p.k) = true:=by simp [h1]
    by_cases h2:q.h = 2
    · have b2:(q.h == 2) = true:=by simp [h2]
      by_cases h3:q.d = nd
      · have b3:(q.d == nd) = true:=by simp [h3]
        have e:seesB p nd q = decide (p.p≤q.p):=by
          unfold seesB
          rw [decide_eq_decide]
          exact ⟨fun h=>h.2.2.2,fun h=>⟨h1,h2,h3,h⟩⟩
        rw [e]
        replace h1:=Lib.hid h1
        replace h2:=Lib.hid h2
        replace h3:=Lib.hid h3
        go_enter Tryz.func7,Tryz.ntmps7
        go_wp2
        go_ret
        exact ⟨rfl,KW.out⟩
      · have b3:(q.d == nd) = false:=by simp [h3]
        have e:seesB p nd q = false:=decide_eq_false fun h=>h3 h.2.2.1
        rw [e]
        replace h1:=Lib.hid h1
        replace h2:=Lib.hid h2
        replace h3:=Lib.hid h3
        go_enter Tryz.func7,Tryz.ntmps7
        go_wp2
        go_ret
        exact ⟨rfl,KW.out⟩
    · have b2:(q.h == 2) = false:=by simp [h2]
      have e:seesB p nd q = false:=decide_eq_false fun h=>h2 h.2.1
      rw [e]
      replace h1:=Lib.hid h1
      replace h2:=Lib.hid h2
      go_enter Tryz.func7,Tryz.ntmps7
      go_wp2
      go_ret
      exact ⟨rfl,KW.out⟩
set_option maxRecDepth 100000 in
set_option maxHeartbeats 4000000 in
theorem rsees_fn (p q:PodV) (nd:Int) (w:World):Calls Tryz.prog 8 #[p.val,q.val,.int .i64 nd] w fun e w'=>e = .returned (.bool (seesB p nd q))∧Keep w w':=by
  have T:=two w p q
  have KW:=Lib.hid T.k
  have P0:=blk9 T.b0
  have Q0:=blk9 T.b1
  have p0:=P0.e0;have p1:=P0.e1;have q0:=Q0.e0;have q1:=Q0.e1;have q6:=Q0.e6;have q7:=Q0.e7
  clear P0 Q0 T
  unfold podB at p0 p1 q0 q1 q6 q7
  unfold PodV.val
  by_cases h2:q.h = 2
  · have b2:(q.h != 2) = false:=by simp [h2]
    by_cases h3:q.d = nd
    · have b3:(q.d != nd) = false:=by simp [h3]
      by_cases h1:p.k = q.k
      · have b1:(p.k != q.k) = false:=by simp [h1]
        have e:seesB p nd q = false:=decide_eq_false fun h=>h.1 h1.symm
        rw [e]
        replace h1:=Lib.hid h1
        replace h2:=Lib.hid h2
        replace h3:=Lib.hid h3
        go_enter Tryz.func8,Tryz.ntmps8
        go_wp2
        go_ret
        exact ⟨rfl,KW.out⟩
      · have b1:(p.k != q.k) = true:=by simp [h1]
        have e:seesB p nd q = decide (p.p≤q.p):=by
          unfold seesB
          rw [decide_eq_decide]
          exact ⟨fun h=>h.2.2.2,fun h=>⟨fun e=>h1 e.symm,h2,h3,h⟩⟩
        rw [e]
        replace h1:=Lib.hid h1
        replace h2:=Lib.hid h2
        replace h3:=Lib.hid h3
        go_enter Tryz.func8,Tryz.ntmps8
        go_wp2
        go_ret
        exact ⟨rfl,KW.out⟩
    · have b3:(q.d != nd) = true:=by simp [h3]
      have e:seesB p nd q = false:=decide_eq_false fun h=>h3 h.2.2.1
      rw [e]
      replace h2:=Lib.hid h2
      replace h3:=Lib.hid h3
      go_enter Tryz.func8,Tryz.ntmps8
      go_wp2
      go_ret
      exact ⟨rfl,KW.out⟩
  · have b2:(q.h != 2) = true:=by simp [h2]
    have e:seesB p nd q = false:=decide_eq_false fun h=>h2 h.2.1
    rw [e]
    replace h2:=Lib.hid h2
    go_enter Tryz.func8,Tryz.ntmps8
    go_wp2
    go_ret
    exact ⟨rfl,KW.out⟩
set_option maxHeartbeats 1000000 in
theorem pods1_fn (p x:PodV) (nd:Int) (bp bn:Nat) (W:World) (cp:W.heap[bp]? = some (.cells (podB p) 24 (0,0))) (cn:W.cell? ⟨bn,0,none⟩ = some (.int .i64 nd)) :
    Calls Tryz.prog 26 #[x.val,.pointer (some ⟨bp,0,none⟩),.pointer (some ⟨bn,0,none⟩)] W fun e w'=>e = .returned (.bool (seesB p nd x))∧Keep W w':=by
  have k1:=Keep.one W (.cells (podB x) 24)
  have C:=blk9 (Keep.block k1 cp)
  have X:=blk9 (heap_alloc_new W (.cells (podB x) 24))
  have n0:=k1.cell cn
  have cS:=Lib.hid (sees_fn p x nd (W.alloc (.cells (podB x) 24)))
  have c0:=C.e0;have c1:=C.e1;have c2:=C.e2;have c3:=C.e3;have c4:=C.e4;have c5:=C.e5;have c6:=C.e6;have c7:=C.e7;have c8:=C.e8
  have x0:=X.e0;have x1:=X.e1;have x2:=X.e2;have x3:=X.e3;have x4:=X.e4;have x5:=X.e5;have x6:=X.e6;have x7:=X.e7;have x8:=X.e8
  clear C X cp cn
  replace k1:=Lib.hid k1
  unfold podB at *
  unfold PodV.val at *
  go_enter Tryz.func26,Tryz.ntmps26
  go_wp2_with fail
  refine cS.out.mono ?_
  rintro e w2 ⟨rfl,k2⟩
  replace k2:=Lib.hid k2
  go_wp2
  go_ret
  exact ⟨rfl,k1.out.trans k2.out⟩
theorem all1r_fn (x:PodV) (W:World):Calls Tryz.prog 45 #[x.val] W fun e w'=>e = .returned (.bool (nomB x))∧Keep W w':=by
  unfold PodV.val nomB
  go_enter Tryz.func45,Tryz.ntmps45
  go_wp2
  go_ret
  exact ⟨rfl,Keep.one _ _⟩
set_option maxHeartbeats 1000000 in
theorem filter1_fn (x:PodV) (bk:Nat) {kf:Nat} {caps:Array Value} {f:PodV→Bool} (en:∀ args w,(callFunc kf args).run Tryz.prog w = .ok (.enter kf args) w) (W:World) (ck:W.cell? ⟨bk,0,none⟩ = some (.func (.func kf) #[] caps))
    (hk:∀ W',Keep W W'→Calls Tryz.prog kf (#[x.val] ++ caps) W' fun e W''=>e = .returned (.bool (f x))∧Keep W' W'') :
    Calls Tryz.prog 53 #[x.val,.pointer (some ⟨bk,0,none⟩)] W fun e w'=>e = .returned (.bool (!f x))∧Keep W w':=by
  have k1:=Keep.one W (.cells (podB x) 24)
  have X:=blk9 (heap_alloc_new W (.cells (podB x) 24))
  have n0:=k1.cell ck
  have cK:=Lib.hid (hk _ k1)
  have x0:=X.e0;have x1:=X.e1;have x2:=X.e2;have x3:=X.e3;have x4:=X.e4;have x5:=X.e5;have x6:=X.e6;have x7:=X.e7;have x8:=X.e8
  clear X ck hk
  replace k1:=Lib.hid k1
  obtain ⟨r,hr⟩:∃ r,r = f x:=⟨_,rfl⟩
  rw [← hr] at cK ⊢
  replace hr:=Lib.hid hr
  unfold podB at *
  unfold PodV.val at *
  go_enter Tryz.func53,Tryz.ntmps53
  go_wp2_with fail
  refine cK.out.mono ?_
  rintro e w2 ⟨rfl,k2⟩
  replace k2:=Lib.hid k2
  go_wp2
  go_ret
  exact ⟨rfl,k1.out.trans k2.out⟩
theorem filter_fn {w:World} {base n:Nat} {v:Value} {Q:Nat→PodV} (hR:RowP w base v n Q) (hn:n≤1048576) {kf:Nat} {caps:Array Value} {f:PodV→Bool} (K:Df w kf caps v.ownBlock n Q f) :
    Calls Tryz.prog 24 #[v,.func (.func kf) #[] caps] w fun e w'=>∃ v' S,e = .returned v'∧RowP w' base v' ((T13.lst Q n).filter f).length S∧T13.lst S ((T13.lst Q n).filter f).length = (T13.lst Q n).filter f∧Fr (fun k=>v.ownBlock = some k) w w':=by
  have bK:Boxed (w.alloc (.cells #[.func (.func kf) #[] caps] 63)) w.heap.size 63 (.func (.func kf) #[] caps):=Boxed.new _ _ _
  have k1:Hid (Keep w (w.alloc (.cells #[.func (.func kf) #[] caps] 63))):=Keep.one _ _
  have D:Df (w.alloc (.cells #[.func (.func kf) #[] caps] 63)) 53 #[.pointer (some ⟨w.heap.size,0,none⟩)] v.ownBlock n Q fun x=>!f x:=⟨enters_of Tryz.func53 (by kernel_rfl) rfl,fun W' hW x hx=>by
    refine filter1_fn x w.heap.size K.en W' ?_ fun W'' k2=>K.k W'' (fun i hi hn=>?_) x hx
    · rw [World.cell?_of_block (w:=w.alloc (.cells #[.func (.func kf) #[] caps] 63)) (hW w.heap.size (by rw [World.size_alloc];omega) fun e=>by have:=(hR.row.lt _ e).2;omega)]
      exact bK.cell
    · have h1:=hW i (by rw [World.size_alloc];omega) hn
      have h2:=Below.block k1.out i hi
      have hlt:i < W'.heap.size:=by
        have h3:i < (w.alloc (.cells #[.func (.func kf) #[] caps] 63)).heap.size:=by rw [World.size_alloc];omega
        rw [Array.getElem?_eq_getElem h3] at h1
        exact (Array.getElem?_eq_some_iff.1 h1).1
      exact (Below.block k2 i hlt).trans (h1.trans h2)⟩
  have cD:=Lib.hid (sdel_fn (hR.keep k1.out) hn D)
  have hkf:=hR
  clear D K
  have e2:((T13.lst Q n).filter fun x=>!(!f x)) = (T13.lst Q n).filter f:=List.filter_congr fun x _=>Bool.not_not _
  rw [e2] at cD
  replace hR:=Lib.hid hR
  clear hkf e2 bK
  go_enter Tryz.func24,Tryz.ntmps24
  go_wp2_with fail
  refine cD.out.mono ?_
  rintro e w2 ⟨v',S,rfl,h1,h2,h3⟩
  have fin:Hid (RowP w2 base v' ((T13.lst Q n).filter f).length S∧T13.lst S ((T13.lst Q n).filter f).length = (T13.lst Q n).filter f∧Fr (fun k=>v.ownBlock = some k) w w2):=⟨h1,h2,(Fr.of k1.out).same h3⟩
  clear h1 h2 h3
  go_wp2
  go_ret
  exact ⟨v',S,rfl,fin.out⟩
theorem filter_new {w0 w:World} {n:Nat} {v:Value} {Q:Nat→PodV} (k0:Keep w0 w) (hR:RowP w w0.heap.size v n Q) (hn:n≤1048576) {L:List PodV} (hL:(T13.lst Q n).map nm = L) {kf:Nat} {caps:Array Value} {f:PodV→Bool} (hf:∀ x,f (nm x) = f x) (K:Df w kf caps v.ownBlock n Q f) :
    Calls Tryz.prog 24 #[v,.func (.func kf) #[] caps] w fun e w'=>∃ v' S,e = .returned v'∧RowP w' w0.heap.size v' (L.filter f).length S∧(T13.lst S (L.filter f).length).map nm = L.filter f∧Keep w0 w':=by
  refine (filter_fn hR hn K).mono ?_
  rintro e w' ⟨v',S,h1,h2,h3,h4⟩
  have e1:L.filter f = ((T13.lst Q n).filter f).map nm:=by
    rw [← hL,List.filter_map]
    exact congrArg (List.map nm) (List.filter_congr fun x _=>hf x)
  have e2:(L.filter f).length = ((T13.lst Q n).filter f).length:=by rw [e1,List.length_map]
  rw [e2]
  exact ⟨v',S,h1,h2,by rw [h3];exact e1.symm,Fr.low k0 h4 fun i hi=>(hR.row.lt i hi).1⟩
theorem sees_on (p:PodV) (nd:Int) (L:List PodV):(L.filter (onB nd)).filter (seesB p nd) = seesL p nd L:=by
  unfold seesL
  rw [List.filter_filter]
  refine List.filter_congr fun x _=>?_
  cases h:seesB p nd x with
  | false=>rfl
  | true =>
    have:=of_decide_eq_true h
    exact decide_eq_true ⟨this.2.2.1,by omega,by omega⟩
section
variable {CS:PredC} {w w1:World} {d q:Nat} {M:List NV} {L:List PodV} {X:Nat→Prop}
set_option maxHeartbeats 4000000 in
theorem rpods_fn (C:Con CS) (h:CS w d q M L X w1) (p:PodV) (nd:Int) (hd:I64 nd) (hl:L.length≤100) :
    Calls Tryz.prog 11 #[.pointer (some ⟨q,0,none⟩),p.val,.int .i64 nd] w1 fun e w'=>∃ v S,e = .returned v∧RowP w' w1.heap.size v (seesL p nd L).length S∧(T13.lst S (seesL p nd L).length).map nm = seesL p nd L∧Keep w1 w':=by
  obtain ⟨W,hW⟩:∃ W,W = (w1.alloc (.cells (podB p) 24)).alloc (.cells #[.int .i64 nd] 3):=⟨_,rfl⟩
  have s0:(w1.alloc (.cells (podB p) 24)).heap.size = w1.heap.size + 1:=World.size_alloc _ _
  have kW:Hid (Keep w1 W):=by rw [hW];exact (Keep.one _ _).alloc _
  have bP:Hid (W.heap[w1.heap.size]? = some (.cells (podB p) 24 (0,0))):=by rw [hW];exact (Keep.one _ _).block (heap_alloc_new _ _)
  have bN:Hid (W.heap[w1.heap.size + 1]? = some (.cells #[.int .i64 nd] 3 (0,0))):=by rw [hW,← s0];exact heap_alloc_new _ _
  have n0:W.cell? ⟨w1.heap.size + 1,0,none⟩ = some (.int .i64 nd):=by rw [cell_of_row W _ _ _ _ _ bN.out];rfl
  have nN:=Lib.hid n0
  have cO:=Lib.hid (C.on nd (C.keep h kW.out) hd hl)
  have cF:Hid (∀ w2 v S,RowP w2 W.heap.size v (L.filter (onB nd)).length S→(T13.lst S (L.filter (onB nd)).length).map nm = L.filter (onB nd)→Keep W w2→Calls Tryz.prog 24 #[v,.func (.func 26) #[] #[.pointer (some ⟨w1.heap.size,0,none⟩),.pointer (some ⟨w1.heap.size + 1,0,none⟩)]] w2 fun e w'=>∃ v' S',e = .returned v'∧RowP w' w1.heap.size v' (seesL p nd L).length S'∧(T13.lst S' (seesL p nd L).length).map nm = seesL p nd L∧Keep w1 w'):=fun w2 v S hR hL k2=>by
    have lw:w1.heap.size + 1 < W.heap.size:=lt_of_block bN.out
    refine (filter_new k2 hR (Nat.le_trans (Nat.le_trans (List.length_filter_le _ _) hl) (by omega)) hL (f:=seesB p nd) (fun _=>rfl) ⟨enters_of Tryz.func26 (by kernel_rfl) rfl,fun W' hW' x _=>?_⟩).mono ?_
    · have off:∀ i,i < W.heap.size→W'.heap[i]? = W.heap[i]?:=fun i hi=>(hW' i (Nat.lt_of_lt_of_le hi k2.size) fun e=>by have:=(hR.row.lt i e).1;omega).trans (Below.block k2 i hi)
      exact pods1_fn p x nd _ _ W' ((off _ (by omega)).trans bP.out) ((World.cell?_of_block (w:=W) (off _ lw)).trans nN.out)
    · rintro e w' ⟨v',S',h1,h2,h3,h4⟩
      rw [sees_on] at h2 h3
      exact ⟨v',S',h1,h2.base kW.out.size,h3,kW.out.trans h4⟩
  clear bP bN nN
  replace s0:=Lib.hid s0
  replace h:=Lib.hid h
  rw [hW] at n0
  unfold podB at hW n0
  unfold PodV.val
  go_enter Tryz.func11,Tryz.ntmps11
  go_wp2_with fail
  rw [← hW]
  replace hW:=Lib.hid hW
  clear n0
  refine cO.out.mono ?_
  rintro e w2 ⟨v,S,rfl,hR,hL,k2⟩
  have cF2:=Lib.hid (cF.out w2 v S hR hL k2)
  clear cF cO hR hL
  replace k2:=Lib.hid k2
  go_wp2_with fail
  refine cF2.out.mono ?_
  rintro e w3 ⟨v',S',rfl,h1,h2,h3⟩
  replace h1:=Lib.hid h1
  replace h2:=Lib.hid h2
  replace h3:=Lib.hid h3
  go_wp2
  go_ret
  exact ⟨v',S',rfl,h1.out,h2.out,h3.out⟩
def ownN (L:List PodV) (id:Int):Int:=if (getL L id).h = 2 then (getL L id).d else 0
def ownB (L:List PodV) (id:Int):Bool:=decide ((getL L id).h = 2)
set_option maxHeartbeats 4000000 in
theorem rown_fn (C:Con CS) (h:CS w d q M L X w1) (id:Int) (hi:I64 id) (hl:L.length≤100) :
    Calls Tryz.prog 12 #[.pointer (some ⟨q,0,none⟩),.int .i64 id] w1 fun e w'=>e = .returned (.tuple #[.int .i64 (ownN L id),.bool (ownB L id)])∧Keep w1 w':=by
  have cP:=Lib.hid (C.pod id h hi hl)
  clear h
  go_enter Tryz.func12,Tryz.ntmps12
  unfold PodV.val at cP
  go_wp2_with fail
  refine cP.out.mono ?_
  rintro e w2 ⟨r,rfl,hr,_,_,k2⟩
  have eh:(getL L id).h = r.h:=by rw [← hr];rfl
  have ed:(getL L id).d = r.d:=by rw [← hr];rfl
  replace hr:=Lib.hid hr
  have k3:Hid (Keep w1 (w2.alloc (.cells (podB r) 24))):=k2.alloc _
  have X:=blk9 (heap_alloc_new w2 (.cells (podB r) 24))
  have x6:=X.e6;have x7:=X.e7
  clear X
  replace k2:=Lib.hid k2
  unfold podB at *
  by_cases h2:r.h = 2
  · have b2:(r.h != 2) = false:=by simp [h2]
    have e1:ownN L id = r.d:=by unfold ownN;rw [eh,if_pos h2,ed]
    have e2:ownB L id = true:=by unfold ownB;rw [eh];exact decide_eq_true h2
    replace h2:=Lib.hid h2
    replace e1:=Lib.hid e1
    replace e2:=Lib.hid e2
    replace eh:=Lib.hid eh
    replace ed:=Lib.hid ed
    go_wp2
    go_ret2
    exact ⟨ret2 (val_int e1.out.symm) (val_bool e2.out.symm),k3.out⟩
  · have b2:(r.h != 2) = true:=by simp [h2]
    have e1:ownN L id = 0:=by unfold ownN;rw [eh,if_neg h2]
    have e2:ownB L id = false:=by unfold ownB;rw [eh];exact decide_eq_false h2
    replace h2:=Lib.hid h2
    replace e1:=Lib.hid e1
    replace e2:=Lib.hid e2
    replace eh:=Lib.hid eh
    replace ed:=Lib.hid ed
    go_wp2
    go_ret2
    exact ⟨ret2 (val_int e1.out.symm) (val_bool e2.out.symm),k3.out⟩
set_option maxHeartbeats 4000000 in
theorem rall_fn (C:Con CS) (h:CS w d q M L X w1) (hl:L.length≤100) :
    Calls Tryz.prog 20 #[.pointer (some ⟨q,0,none⟩)] w1 fun e w'=>∃ v S,e = .returned v∧RowP w' w1.heap.size v (L.filter nomB).length S∧(T13.lst S (L.filter nomB).length).map nm = L.filter nomB∧Keep w1 w':=by
  have cP:=Lib.hid (C.pods h hl)
  have cF:Hid (∀ w2 v S,RowP w2 w1.heap.size v L.length S→(T13.lst S L.length).map nm = L→Keep w1 w2→Calls Tryz.prog 24 #[v,.func (.func 45) #[] #[]] w2 fun e w'=>∃ v' S',e = .returned v'∧RowP w' w1.heap.size v' (L.filter nomB).length S'∧(T13.lst S' (L.filter nomB).length).map nm = L.filter nomB∧Keep w1 w'):=fun w2 v S hR hL k2 =>
    filter_new k2 hR (Nat.le_trans hl (by omega)) hL (f:=nomB) (fun _=>rfl) ⟨enters_of Tryz.func45 (by kernel_rfl) rfl,fun W' _ x _=>all1r_fn x W'⟩
  clear h
  go_enter Tryz.func20,Tryz.ntmps20
  go_wp2_with fail
  refine cP.out.mono ?_
  rintro e w2 ⟨v,S,rfl,hR,hL,k2⟩
  have cF2:=Lib.hid (cF.out w2 v S hR hL k2)
  clear cF cP hR hL
  replace k2:=Lib.hid k2
  go_wp2_with fail
  refine cF2.out.mono ?_
  rintro e w3 ⟨v',S',rfl,h1,h2,h3⟩
  replace h1:=Lib.hid h1
  replace h2:=Lib.hid h2
  replace h3:=Lib.hid h3
  go_wp2
  go_ret
  exact ⟨v',S',rfl,h1.out,h2.out,h3.out⟩
end
end Go.Proofs.YtinndaolcaehiaaGreatDoor.T15

