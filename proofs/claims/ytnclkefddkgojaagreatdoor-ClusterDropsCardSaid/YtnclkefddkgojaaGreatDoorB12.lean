/-
  The order of pairs; sorted lists of them. No condition, no walk.
  The reference's Submit, Change. Conditions: at most 1000 pods.
  The reference's Change. Conditions: at most 1000 pods.
-/
import Derived.Test.YtnclkefddkgojaaGreatDoorB6
import Derived.Test.YtnclkefddkgojaaGreatDoorB8
import Derived.Test.YtnclkefddkgojaaGreatDoorB11
namespace Go.Proofs.YtnclkefddkgojaaGreatDoor.C14
open Go.RowKit Go.Lib V12
def befN (x y:NdC):Bool:=decide (x.k < y.k)
theorem bef_iff (x y:NdC):befN x y = true ↔ x.k < y.k:=by unfold befN;rw [decide_eq_true_eq]
theorem bef_no (x y:NdC):befN x y = false ↔ ¬ x.k < y.k:=by unfold befN;rw [decide_eq_false_iff_not]
theorem bef_trans {x y z:NdC} (h:befN x y = true) (k:befN y z = true):befN x z = true:=by rw [bef_iff] at *;omega
theorem bef_total {x y:NdC} (h:x.k≠y.k) (k:befN x y = false):befN y x = true:=by rw [bef_no] at k;rw [bef_iff];omega
def Srt (L:List NdC):Prop:=L.Pairwise fun x y=>befN x y = true
def insL (x:NdC):List NdC→List NdC
  | []=>[x]
  | y :: L=>if befN x y = true then x :: y :: L else y :: insL x L
def woL (L:List NdC) (id:Int):List NdC:=L.filter fun y=>decide (y.k≠id)
theorem ins_perm (x:NdC):∀ L,(insL x L).Perm (x :: L)
  | []=>List.Perm.refl _
  | y :: L=>by
    unfold insL
    split
    · exact List.Perm.refl _
    · exact ((ins_perm x L).cons y).trans (List.Perm.swap x y L)
theorem ins_mem {x y:NdC} {L:List NdC}:y ∈ insL x L ↔ y = x∨y ∈ L:=by rw [(ins_perm x L).mem_iff,List.mem_cons]
theorem ins_sorted {x:NdC}:∀ {L},Srt L→x.k ∉ keys L→Srt (insL x L)
  | [],_,_=>List.pairwise_singleton _ _
  | y :: L,h,hk=>by
    have h':=h
    unfold Srt at h'
    rw [List.pairwise_cons] at h'
    have hk2:x.k≠y.k∧x.k ∉ keys L:=by unfold keys at hk ⊢;rw [List.map_cons,List.mem_cons,not_or] at hk;exact hk
    unfold insL
    split
    · rename_i hb
      unfold Srt
      rw [List.pairwise_cons]
      refine ⟨fun z hz=>?_,h⟩
      rcases List.mem_cons.1 hz with rfl | hz
      · exact hb
      · exact bef_trans hb (h'.1 z hz)
    · rename_i hb
      unfold Srt
      rw [List.pairwise_cons]
      refine ⟨fun z hz=>?_,ins_sorted h'.2 hk2.2⟩
      rcases ins_mem.1 hz with rfl | hz
      · exact bef_total hk2.1 (by cases e:befN z y <;> simp_all)
      · exact h'.1 z hz
theorem ins_len (x:NdC) (L:List NdC):(insL x L).length = L.length + 1:=by rw [(ins_perm x L).length_eq];rfl
theorem ins_keys {x:NdC} {L:List NdC} (h:(keys L).Nodup) (hk:x.k ∉ keys L):(keys (insL x L)).Nodup:=by
  have:(keys (insL x L)).Perm (x.k :: keys L):=(ins_perm x L).map _
  rw [this.nodup_iff,List.nodup_cons]
  exact ⟨hk,h⟩
theorem ins_form {x:NdC}:∀ {L:List NdC} {i:Nat},Srt L→i≤L.length→(∀ j y,i≤j→L[j]? = some y→befN x y = true)→(∀ y,0 < i→L[i - 1]? = some y→befN x y = false)→L.take i ++ [x] ++ L.drop i = insL x L
  | [],i,_,hi,_,_=>by
    obtain rfl:i = 0:=by simpa using hi
    rfl
  | y :: L,0,_,_,h1,_=>by
    unfold insL
    rw [if_pos (h1 0 y (Nat.le_refl _) rfl)]
    rfl
  | y :: L,i + 1,hs,hi,h1,h2=>by
    have hs':=hs
    unfold Srt at hs'
    rw [List.pairwise_cons] at hs'
    have hy:befN x y = false:=by
      cases i with
      | zero=>exact h2 y (by omega) rfl
      | succ i =>
        have hl:i < L.length:=by simp at hi;omega
        have h3:=h2 L[i] (by omega) (by simp [List.getElem?_eq_getElem hl])
        cases e:befN x y with
        | false=>rfl
        | true =>
          rw [bef_trans e (hs'.1 _ (List.getElem_mem hl))] at h3
          exact absurd h3 (by decide)
    unfold insL
    rw [if_neg (by rw [hy];decide),← ins_form (i:=i) hs'.2 (by simp at hi;omega) (fun j z hj hz=>h1 (j + 1) z (by omega) (by simpa using hz)) (fun z hz e=>h2 z (by omega) (by
      obtain ⟨i',rfl⟩:∃ i',i = i' + 1:=⟨i - 1,by omega⟩
      simpa using e))]
    rfl
theorem wo_sorted {L:List NdC} {id:Int} (h:Srt L):Srt (woL L id):=h.sublist List.filter_sublist
theorem wo_keys {L:List NdC} {id:Int} (h:(keys L).Nodup):(keys (woL L id)).Nodup:=h.sublist (List.filter_sublist.map _)
theorem wo_mem {L:List NdC} {id:Int} {y:NdC} (h:y ∈ woL L id):y ∈ L:=(List.mem_filter.1 h).1
theorem get_none {L:List NdC} {id:Int} (h:id ∉ keys L):getL L id = zp:=by
  unfold getL
  rw [List.find?_eq_none.2 fun y hy=>by simpa using fun e=>h (by rw [← e];exact List.mem_map_of_mem hy)]
  rfl
theorem get_some {L:List NdC} {id:Int} (h:id ∈ keys L):getL L id ∈ L∧(getL L id).k = id:=by
  obtain ⟨y,hy,e⟩:=List.mem_map.1 h
  unfold getL
  cases hf:L.find? fun y=>decide (y.k = id) with
  | none=>exact absurd (List.find?_eq_none.1 hf y hy) (by simpa using e)
  | some z=>exact ⟨List.mem_of_find?_eq_some hf,by simpa using List.find?_some hf⟩
theorem rnCs_flat (Q:Nat→NdC):∀ n,rnCs Q n = (lst Q n).flatMap NdC.cells
  | 0=>rfl
  | n + 1=>by rw [rnCs,rnCs_flat Q n,lst_succ,List.flatMap_append,List.flatMap_singleton]
theorem lst_take (Q:Nat→NdC) {n i:Nat} (h:i≤n):(lst Q n).take i = lst Q i:=by
  refine List.ext_getElem? fun j=>?_
  rw [List.getElem?_take]
  split
  · rw [lst_get (by omega),lst_get (by assumption)]
  · rw [List.getElem?_eq_none (by rw [lst_len];omega)]
theorem lst_drop (Q:Nat→NdC) (n i:Nat):(lst Q n).drop i = lst (fun t=>Q (i + t)) (n - i):=by
  refine List.ext_getElem? fun j=>?_
  rw [List.getElem?_drop]
  by_cases h:i + j < n
  · rw [lst_get h,lst_get (by omega)]
  · rw [List.getElem?_eq_none (by rw [lst_len];omega),List.getElem?_eq_none (by rw [lst_len];omega)]
theorem rnCs_row (L:List NdC):rnCs (row L) L.length = L.flatMap NdC.cells:=by rw [rnCs_flat,lst_row]
theorem ins_row {P:Nat→NdC} {n i:Nat} {x:NdC} (hi:i≤n) (hs:Srt (lst P n)) (h1:∀ j,i≤j→j < n→befN x (P j) = true) (h2:i = 0∨befN x (P (i - 1)) = false) :
    rnCs P i ++ x.cells ++ rnCs (fun t=>P (i + t)) (n - i) = rnCs (row (insL x (lst P n))) (n + 1):=by
  have hl:(insL x (lst P n)).length = n + 1:=by rw [ins_len,lst_len]
  rw [← hl,rnCs_row,← ins_form (i:=i) hs (by rw [lst_len];exact hi) (fun j y hj e=>by
    have hj2:j < n:=by have:=(List.getElem?_eq_some_iff.1 e).1;rwa [lst_len] at this
    rw [lst_get hj2] at e
    rw [← Option.some.inj e]
    exact h1 j hj hj2) (fun y hi0 e=>by
    rw [lst_get (by omega)] at e
    rw [← Option.some.inj e]
    exact h2.resolve_left (by omega)),lst_take _ hi,lst_drop,List.flatMap_append,List.flatMap_append,rnCs_flat,rnCs_flat,List.flatMap_singleton]
def repL (L:List NdC) (x:NdC):List NdC:=L.map fun y=>if y.k = x.k then x else y
theorem rep_keys (L:List NdC) (x:NdC):keys (repL L x) = keys L:=by
  unfold keys repL
  rw [List.map_map]
  refine List.map_congr_left fun y _=>?_
  show (if y.k = x.k then x else y).k = y.k
  split
  · exact Eq.symm (by assumption)
  · rfl
theorem srt_keys {L:List NdC}:Srt L ↔ (keys L).Pairwise (· < ·):=by
  unfold Srt keys
  rw [List.pairwise_map]
  exact ⟨fun h=>h.imp fun h=>(bef_iff _ _).1 h,fun h=>h.imp fun h=>(bef_iff _ _).2 h⟩
theorem rep_sorted {L:List NdC} {x:NdC} (h:Srt L):Srt (repL L x):=by rw [srt_keys,rep_keys,← srt_keys];exact h
theorem keys_nodup {L:List NdC} (h:Srt L):(keys L).Nodup:=by
  rw [srt_keys] at h
  exact h.imp fun h=>Int.ne_of_lt h
theorem rep_mem {L:List NdC} {x y:NdC} (h:y ∈ repL L x):y ∈ L∨y = x:=by
  unfold repL at h
  obtain ⟨z,hz,rfl⟩:=List.mem_map.1 h
  split
  · exact Or.inr rfl
  · exact Or.inl hz
theorem wo_len (L:List NdC) (id:Int):(woL L id).length≤L.length:=List.length_filter_le _ _
end Go.Proofs.YtnclkefddkgojaaGreatDoor.C14

namespace Go.Proofs.YtnclkefddkgojaaGreatDoor.T14
open Go.RowKit Go.Sort Go.Lib V12 T13
set_option maxRecDepth 100000 in
set_option maxHeartbeats 8000000 in
theorem rc_submit {w:World} {X:Nat→Prop} {w1:World} (d:Nat) (A:Option Addr) (n c:Nat) (B:Option Addr) (m e:Nat) {P:Nat→PodV} {L:List PodV} (h:RL w X w1 B e m P) (hL:(lst P m).map nm = L) (y:PodV) (hy:PodIs w y) (k:Keep w w1) (hX:∀ i,X i→i < w1.heap.size) (hn:m≤1000) :
    Calls Tryz.prog 40 #[(⟨d,A,n,c,B,m,e⟩:RcV).val,y.val] w1 fun e' w'=>∃ B' c' n' P',e' = .returned (.tuple #[(⟨d,A,n,c,B',n',c'⟩:RcV).val,.int .i64 (sbC L d y),.int .i64 (wrI d y.m y.Z)])∧Keep w1 w'∧RL w (fun i=>X i∨(w1.heap.size≤i∧i < w'.heap.size)) w' B' c' n' P'∧(lst P' n').map nm = sbL L d y∧(sbC L d y = 0→∃ t,t < n'∧findN P' y.k n' = (t:Int)∧nm (P' t) = subP y L.length):=by
  obtain ⟨W0,hW0⟩:∃ W0,W0 = w1.alloc (.cells (⟨d,A,n,c,B,m,e⟩:RcV).arr 30):=⟨_,rfl⟩
  obtain ⟨W1,hW1⟩:∃ W1,W1 = W0.alloc (.cells (podB y) 35):=⟨_,rfl⟩
  obtain ⟨W,hW⟩:∃ W,W = W1.alloc (.cells zrc.arr 30):=⟨_,rfl⟩
  obtain ⟨bx,hbx⟩:∃ bx,bx = w1.heap.size:=⟨_,rfl⟩
  obtain ⟨by',hby⟩:∃ by',by' = w1.heap.size + 1:=⟨_,rfl⟩
  obtain ⟨b,hb⟩:∃ b,b = w1.heap.size + 1 + 1:=⟨_,rfl⟩
  have s0:W0.heap.size = by':=by rw [hW0,World.size_alloc,hby]
  have s1:W1.heap.size = b:=by rw [hW1,World.size_alloc,s0,hb,hby]
  have KW:Hid (Keep w1 W):=by rw [hW,hW1,hW0];exact ((Keep.one _ _).alloc _:Keep w1 _).alloc _
  have BX:Hid (W.heap[bx]? = some (.cells (⟨d,A,n,c,B,m,e⟩:RcV).arr 30 (0,0))):=by show _ = _;rw [hW,hW1,hW0,hbx];exact (Keep.one _ _).block ((Keep.one _ _).block (heap_alloc_new _ _))
  have BY:Hid (W.heap[by']? = some (.cells (podB y) 35 (0,0))):=by show _ = _;rw [hW,hW1,← s0];exact (Keep.one _ _).block (heap_alloc_new _ _)
  have BZ:Hid (W.heap[b]? = some (.cells zrc.arr 30 (0,0))):=by show _ = _;rw [hW,← s1];exact heap_alloc_new _ _
  have cW:=Lib.hid (rwrong_any y.A y.m y.c y.Z (d:Int) W (hy.rd.keep (k.trans KW.out)))
  have cS:=Lib.hid (rl_sub (h.keep KW.out) hL 65536 y hy (k.trans KW.out) hn)
  have hm:max (d:Int) 0 = d:=by omega
  have hb1:decide (0≤(d:Int)) = true:=decide_eq_true (by omega)
  have hb2:decide ((d:Int) < 0) = false:=decide_eq_false (by omega)
  obtain ⟨c0,c1,c2,cf⟩:=rc_cells BX.out
  obtain ⟨y0,y1,y2,y3,y4,y5,y6,y7,y8,yf⟩:=blk9 BY.out
  obtain ⟨z0,z1,z2,zf⟩:=rc_cells BZ.out
  obtain ⟨r,hr⟩:∃ r,r = wrongOf y.m y.Z d:=⟨_,rfl⟩
  rw [← hr] at cW
  have h':=Lib.hid h
  have hL':=Lib.hid hL
  have hX':=Lib.hid hX
  have k':=Lib.hid k
  clear h hy hL hX k
  unfold zrc at z0 z1 z2
  by_cases hw:0≤r
  · have e3:Hid (sbC L d y = 3∧wrI d y.m y.Z = r∧sbL L d y = L):=by
      unfold sbC wrI sbL
      rw [← hr,if_pos hw,if_pos hw,if_pos hw]
      exact ⟨rfl,rfl,rfl⟩
    have B5:Hid ((put3 W b ⟨d,A,n,c,B,m,e⟩).heap[b]? = some (.cells (⟨d,A,n,c,B,m,e⟩:RcV).arr 30 (0,0))):=put3_heap _ zrc BZ.out
    have K5:Hid (Keep w1 (put3 W b ⟨d,A,n,c,B,m,e⟩)):=put3_keep _ KW.out (by omega)
    simp only [RcV.arr] at hW0
    unfold podB at hW1
    simp only [RcV.arr,zrc] at hW
    simp only [RcV.val]
    unfold PodV.val
    replace hr:=Lib.hid hr
    replace BX:=Lib.hid BX.out
    clear y0 y1 y2 y3 y4 y5 y6 y7 y8 yf
    go_enter Tryz.func40,Tryz.ntmps40
    go_wp2_with fail
    rw [← hW0,← hW1,← hW,← hb]
    try rw [← hby]
    try rw [← hbx]
    replace hW0:=Lib.hid hW0
    replace hW1:=Lib.hid hW1
    replace hW:=Lib.hid hW
    replace hb:=Lib.hid hb
    replace hby:=Lib.hid hby
    replace hbx:=Lib.hid hbx
    replace s0:=Lib.hid s0
    replace s1:=Lib.hid s1
    refine cW.out.mono ?_
    rintro e' w2 ⟨rfl,rfl⟩
    go_wp2
    obtain ⟨e0,e1,e2,_⟩:=rc_cells B5.out
    simp only [put3] at *
    refine bodyPost_ret (v:=.tuple #[.agg #[.int .i64 d,.slice A n c,.slice B m e],.int .i64 3,.int .i64 r]) (by simp [results,Tryz.results40,go_sem,e0,e1,e2]) rfl ⟨B,e,m,P,?_,K5.out,(h'.out.keep K5.out).less fun _=>Or.inl,?_,fun h=>?_⟩
    · rw [e3.out.1,e3.out.2.1]
    · rw [e3.out.2.2];exact hL'.out
    · rw [e3.out.1] at h;exact absurd h (by decide)
  · have e3:Hid (sbC L d y = subC L 65536 y∧wrI d y.m y.Z = 0∧sbL L d y = subL L 65536 y):=by
      unfold sbC wrI sbL
      rw [← hr,if_neg hw,if_neg hw,if_neg hw]
      exact ⟨rfl,rfl,rfl⟩
    obtain ⟨cd,hcd⟩:∃ cd,cd = subC L 65536 y:=⟨_,rfl⟩
    rw [← hcd] at cS e3
    unfold PodV.val at cS
    simp only [RcV.arr] at hW0
    unfold podB at hW1
    simp only [RcV.arr,zrc] at hW
    simp only [RcV.val]
    unfold PodV.val
    replace hr:=Lib.hid hr
    replace hcd:=Lib.hid hcd
    have c0e:=c0
    have c1e:=c1
    have c2e:=c2
    rw [hW,hW1,hW0] at c0e c1e c2e
    go_enter Tryz.func40,Tryz.ntmps40
    go_wp2_with fail
    rw [← hW0,← hW1,← hW,← hb]
    try rw [← hby]
    try rw [← hbx]
    clear c0e c1e c2e
    replace hb:=Lib.hid hb
    replace hby:=Lib.hid hby
    replace hbx:=Lib.hid hbx
    replace s0:=Lib.hid s0
    replace s1:=Lib.hid s1
    replace hW0:=Lib.hid hW0
    replace hW1:=Lib.hid hW1
    replace hW:=Lib.hid hW
    refine cW.out.mono ?_
    rintro e' w2 ⟨rfl,rfl⟩
    go_wp2_with fail
    refine cS.out.mono ?_
    rintro e' w3 ⟨B',c',n',P',rfl,k3,rl,hl,ht⟩
    have X3:=k3.block BX.out
    have Z3:=k3.block BZ.out
    clear c0 c1 c2 cf z0 z1 z2 zf y0 y1 y2 y3 y4 y5 y6 y7 y8 yf
    obtain ⟨c0,c1,c2,cf⟩:=rc_cells X3
    obtain ⟨z0,z1,z2,zf⟩:=rc_cells Z3
    unfold zrc at z0 z1 z2
    have vb:=hb.out
    have vbx:=hbx.out
    have hbxz:bx≠b:=by omega
    have Z4:(w3.setCell ⟨bx,2,none⟩ (.slice B' n' c')).heap[b]? = some (.cells zrc.arr 30 (0,0)):=(Below.heap_setCell _ _ _ _ (fun e=>hbxz e.symm)).trans Z3
    have B5:Hid ((put3 (w3.setCell ⟨bx,2,none⟩ (.slice B' n' c')) b ⟨d,A,n,c,B',n',c'⟩).heap[b]? = some (.cells (⟨d,A,n,c,B',n',c'⟩:RcV).arr 30 (0,0))):=put3_heap _ zrc Z4
    have K5:Hid (Keep w1 (put3 (w3.setCell ⟨bx,2,none⟩ (.slice B' n' c')) b ⟨d,A,n,c,B',n',c'⟩)):=put3_keep _ ((KW.out.trans k3).set (by show w1.heap.size≤bx;omega) _) (by omega)
    have sz5:(put3 (w3.setCell ⟨bx,2,none⟩ (.slice B' n' c')) b ⟨d,A,n,c,B',n',c'⟩).heap.size = w3.heap.size:=by rw [put3_size];simp
    have sw:w1.heap.size + 3≤w2.heap.size:=by
      have:=lt_of_block BZ.out
      omega
    have R5:Hid (RL w (fun i=>X i∨(w1.heap.size≤i∧i < (put3 (w3.setCell ⟨bx,2,none⟩ (.slice B' n' c')) b ⟨d,A,n,c,B',n',c'⟩).heap.size)) (put3 (w3.setCell ⟨bx,2,none⟩ (.slice B' n' c')) b ⟨d,A,n,c,B',n',c'⟩) B' c' n' P'):=by
      refine (rl.same (k'.out.trans K5.out) fun i hi=>?_).less fun i hi=>?_
      · have hne:i≠bx∧i≠b:=by
          rcases hi with hi | hi
          · have:=hX'.out i hi
            omega
          · omega
        rw [put3_block _ hne.2,Below.heap_setCell _ _ _ _ hne.1]
      · rcases hi with hi | hi
        · exact Or.inl hi
        · exact Or.inr ⟨by omega,by rw [sz5];exact hi.2⟩
    replace vb:=Lib.hid vb
    replace vbx:=Lib.hid vbx
    replace X3:=Lib.hid X3
    replace Z3:=Lib.hid Z3
    replace Z4:=Lib.hid Z4
    replace rl:=Lib.hid rl
    replace hl:=Lib.hid hl
    replace ht:=Lib.hid ht
    replace k3:=Lib.hid k3
    replace sz5:=Lib.hid sz5
    replace sw:=Lib.hid sw
    go_wp2
    obtain ⟨e0,e1,e2,_⟩:=rc_cells B5.out
    simp only [put3] at *
    refine bodyPost_ret (v:=.tuple #[.agg #[.int .i64 d,.slice A n c,.slice B' n' c'],.int .i64 cd,.int .i64 0]) (by simp [results,Tryz.results40,go_sem,e0,e1,e2]) rfl ⟨B',c',n',P',?_,K5.out,R5.out,?_,fun h=>?_⟩
    · rw [e3.out.1,e3.out.2.1]
    · rw [e3.out.2.2];exact hl.out
    · rw [e3.out.1] at h
      exact ht.out h
end Go.Proofs.YtnclkefddkgojaaGreatDoor.T14

namespace Go.Proofs.YtnclkefddkgojaaGreatDoor.T14
open Go.RowKit Go.Sort Go.Lib V12 T13
theorem rc_fin {w w1 W w3:World} {X:Nat→Prop} {bx b:Nat} {d:Int} {A:Option Addr} {n c:Nat} {B':Option Addr} {n' c':Nat} {P':Nat→PodV} (k:Keep w w1) (KW:Keep w1 W) (h1:w1.heap.size≤bx) (h2:w1.heap.size≤b) (hne:bx≠b) (hbx:bx < W.heap.size) (hb:b < W.heap.size) (hX:∀ i,X i→i < w1.heap.size)
    (k3:Keep W w3) (BZ:w3.heap[b]? = some (.cells zrc.arr 30 (0,0))) (rl:RL w (fun i=>X i∨(W.heap.size≤i∧i < w3.heap.size)) w3 B' c' n' P') :
    (put3 (w3.setCell ⟨bx,2,none⟩ (.slice B' n' c')) b ⟨d,A,n,c,B',n',c'⟩).heap[b]? = some (.cells (⟨d,A,n,c,B',n',c'⟩:RcV).arr 30 (0,0))∧Keep w1 (put3 (w3.setCell ⟨bx,2,none⟩ (.slice B' n' c')) b ⟨d,A,n,c,B',n',c'⟩) ∧
    RL w (fun i=>X i∨(w1.heap.size≤i∧i < (put3 (w3.setCell ⟨bx,2,none⟩ (.slice B' n' c')) b ⟨d,A,n,c,B',n',c'⟩).heap.size)) (put3 (w3.setCell ⟨bx,2,none⟩ (.slice B' n' c')) b ⟨d,A,n,c,B',n',c'⟩) B' c' n' P':=by
  have Z4:(w3.setCell ⟨bx,2,none⟩ (.slice B' n' c')).heap[b]? = some (.cells zrc.arr 30 (0,0)):=(Below.heap_setCell _ _ _ _ (fun e=>hne e.symm)).trans BZ
  have K5:Keep w1 (put3 (w3.setCell ⟨bx,2,none⟩ (.slice B' n' c')) b ⟨d,A,n,c,B',n',c'⟩):=put3_keep _ ((KW.trans k3).set h1 _) h2
  have sz5:(put3 (w3.setCell ⟨bx,2,none⟩ (.slice B' n' c')) b ⟨d,A,n,c,B',n',c'⟩).heap.size = w3.heap.size:=by rw [put3_size];simp
  have s0:=KW.size
  refine ⟨put3_heap _ zrc Z4,K5,(rl.same (k.trans K5) fun i hi=>?_).less fun i hi=>?_⟩
  · have hne:i≠bx∧i≠b:=by
      rcases hi with hi | hi
      · have:=hX i hi
        omega
      · omega
    rw [put3_block _ hne.2,Below.heap_setCell _ _ _ _ hne.1]
  · rcases hi with hi | hi
    · exact Or.inl hi
    · exact Or.inr ⟨by omega,by rw [sz5];exact hi.2⟩
def RcPost (w w1:World) (X:Nat→Prop) (d:Int) (A:Option Addr) (n c:Nat) (L':List PodV) (cd ix:Int) (id:Int) (z:PodV) (e':Ending) (w':World):Prop :=
  ∃ B' c' n' P',e' = .returned (.tuple #[(⟨d,A,n,c,B',n',c'⟩:RcV).val,.int .i64 cd,.int .i64 ix])∧Keep w1 w'∧RL w (fun i=>X i∨(w1.heap.size≤i∧i < w'.heap.size)) w' B' c' n' P'∧(lst P' n').map nm = L'∧(cd = 0→∃ t,t < n'∧findN P' id n' = (t:Int)∧nm (P' t) = z)
set_option maxRecDepth 100000 in
set_option maxHeartbeats 8000000 in
theorem rc_change {w:World} {X:Nat→Prop} {w1:World} (d:Int) (A:Option Addr) (n c:Nat) (B:Option Addr) (m e:Nat) {P:Nat→PodV} {L:List PodV} (h:RL w X w1 B e m P) (hL:(lst P m).map nm = L) (hok:LOk L) (id ev dl:Int) (hdl:I64 dl) (k:Keep w w1) (hX:∀ i,X i→i < w1.heap.size) (hn:m≤1000) :
    Calls Tryz.prog 43 #[(⟨d,A,n,c,B,m,e⟩:RcV).val,.int .i64 id,.int .i64 ev,.int .i64 dl] w1 (RcPost w w1 X d A n c (cgL L id ev dl) (cgC L id ev) 0 id (appP (getL L id) ev (-1) dl)):=by
  unfold RcPost
  obtain ⟨W0,hW0⟩:∃ W0,W0 = w1.alloc (.cells (⟨d,A,n,c,B,m,e⟩:RcV).arr 30):=⟨_,rfl⟩
  obtain ⟨W,hW⟩:∃ W,W = W0.alloc (.cells zrc.arr 30):=⟨_,rfl⟩
  obtain ⟨bx,hbx⟩:∃ bx,bx = w1.heap.size:=⟨_,rfl⟩
  obtain ⟨b,hb⟩:∃ b,b = w1.heap.size + 1:=⟨_,rfl⟩
  have s0:W0.heap.size = b:=by rw [hW0,World.size_alloc,hb]
  have KW:Hid (Keep w1 W):=by rw [hW,hW0];exact (Keep.one _ _:Keep w1 _).alloc _
  have BX:Hid (W.heap[bx]? = some (.cells (⟨d,A,n,c,B,m,e⟩:RcV).arr 30 (0,0))):=by show _ = _;rw [hW,hW0,hbx];exact (Keep.one _ _).block (heap_alloc_new _ _)
  have BZ:Hid (W.heap[b]? = some (.cells zrc.arr 30 (0,0))):=by show _ = _;rw [hW,← s0];exact heap_alloc_new _ _
  have hR:=h.rd.keep KW.out
  have cF:=Lib.hid (rfind_fn B m e P id W hR)
  have cS:=Lib.hid (rl_app (h.keep KW.out) hL hok id ev (-1) dl (by unfold I64;omega) hdl hn)
  have hfi:0≤findN P id m ↔ id ∈ keys L:=by
    rw [find_iff,← hL,keys_nm]
    refine ⟨fun ⟨j,h,e⟩=>?_,fun h=>?_⟩
    · exact List.mem_map.2 ⟨P j,lst_mem.2 ⟨j,h,rfl⟩,e⟩
    · obtain ⟨p,hp,e⟩:=List.mem_map.1 h
      obtain ⟨j,hj,rfl⟩:=lst_mem.1 hp
      exact ⟨j,hj,e⟩
  obtain ⟨c0,c1,c2,cf⟩:=rc_cells BX.out
  obtain ⟨z0,z1,z2,zf⟩:=rc_cells BZ.out
  unfold zrc at z0 z1 z2
  simp only at c0 c1 c2
  have h':=Lib.hid h
  have hL':=Lib.hid hL
  have hX':=Lib.hid hX
  have k':=Lib.hid k
  obtain ⟨r,hr⟩:∃ r,r = findN P id m:=⟨_,rfl⟩
  rw [← hr] at cF hfi
  replace hr:=Lib.hid hr
  simp only [RcV.arr] at hW0
  simp only [RcV.arr,zrc] at hW
  have c2e:=c2
  rw [hW,hW0] at c2e
  simp only [RcV.val]
  have nochg:∀ cd,cgC L id ev = cd→cd≠0→Hid (∃ B' c' n' P',(B' = B∧c' = e∧n' = m)∧Keep w1 (put3 W b ⟨d,A,n,c,B,m,e⟩)∧RL w (fun i=>X i∨(w1.heap.size≤i∧i < (put3 W b ⟨d,A,n,c,B,m,e⟩).heap.size)) (put3 W b ⟨d,A,n,c,B,m,e⟩) B' c' n' P'∧(lst P' n').map nm = cgL L id ev dl∧(cgC L id ev = 0→∃ t,t < n'∧findN P' id n' = (t:Int)∧nm (P' t) = appP (getL L id) ev (-1) dl)):=fun cd hcd hne=>by
    have K5:Keep w1 (put3 W b ⟨d,A,n,c,B,m,e⟩):=put3_keep _ KW.out (by omega)
    refine ⟨B,e,m,P,⟨rfl,rfl,rfl⟩,K5,(h.keep K5).less fun _=>Or.inl,?_,fun h0=>absurd (hcd.symm.trans h0) hne⟩
    unfold cgL
    rw [if_neg (by rw [hcd];exact hne)]
    exact hL
  have B5:Hid ((put3 W b ⟨d,A,n,c,B,m,e⟩).heap[b]? = some (.cells (⟨d,A,n,c,B,m,e⟩:RcV).arr 30 (0,0))):=put3_heap _ zrc BZ.out
  clear h hL hX k hR
  by_cases hk:id ∈ keys L
  · have hr0:=hfi.2 hk
    by_cases he:ev = 1∨ev = 2
    · have hc:cgC L id ev = 8:=if_pos ⟨hk,he⟩
      have N5:=nochg 8 hc (by decide)
      rw [hc] at N5 ⊢
      have hev:decide (ev = 1) = true∨(decide (ev = 1) = false∧decide (ev = 2) = true):=by
        rcases he with rfl | rfl
        · exact Or.inl (by decide)
        · exact Or.inr ⟨by decide,by decide⟩
      clear nochg
      replace hc:=Lib.hid hc
      replace hk:=Lib.hid hk
      replace hfi:=Lib.hid hfi
      rcases he with rfl | rfl
      all_goals
        go_enter Tryz.func43,Tryz.ntmps43
        go_wp2_with fail
        clear c2e
        rw [← hW0,← hW,← hb]
        try rw [← hbx]
        replace hW0:=Lib.hid hW0
        replace hW:=Lib.hid hW
        replace hb:=Lib.hid hb
        replace hbx:=Lib.hid hbx
        replace s0:=Lib.hid s0
        refine cF.out.mono ?_
        rintro e' w2 ⟨rfl,rfl⟩
        go_wp2
        obtain ⟨e0,e1,e2,_⟩:=rc_cells B5.out
        simp only [put3] at *
        obtain ⟨B',c',n',P',⟨rfl,rfl,rfl⟩,q2,q3,q4,q5⟩:=N5.out
        refine bodyPost_ret (v:=.tuple #[.agg #[.int .i64 d,.slice A n c,.slice B' n' c'],.int .i64 8,.int .i64 0]) (by simp [results,Tryz.results43,go_sem,e0,e1,e2]) rfl ⟨B',c',n',P',rfl,q2,q3,q4,q5⟩
    · have hc:cgC L id ev = appC L id ev:=if_neg fun h=>he h.2
      have h1:¬ ev = 1:=fun h=>he (Or.inl h)
      have h2:¬ ev = 2:=fun h=>he (Or.inr h)
      have b1:(ev == 1) = false:=by simp [h1]
      have b2:(ev == 2) = false:=by simp [h2]
      have hg:Hid (cgL L id ev dl = appL L id ev (-1) dl):=by
        show _ = _
        unfold cgL appL
        rw [hc]
        by_cases h0:appC L id ev = 0
        · simp only [h0,if_true]
        · simp only [h0,if_false]
      rw [hc]
      obtain ⟨cd,hcd⟩:∃ cd,cd = appC L id ev:=⟨_,rfl⟩
      rw [← hcd] at cS ⊢
      clear nochg
      replace hcd:=Lib.hid hcd
      replace hc:=Lib.hid hc
      replace hk:=Lib.hid hk
      replace hfi:=Lib.hid hfi
      replace he:=Lib.hid he
      go_enter Tryz.func43,Tryz.ntmps43
      go_wp2_with fail
      clear c2e
      rw [← hW0,← hW,← hb]
      try rw [← hbx]
      replace hW0:=Lib.hid hW0
      replace hW:=Lib.hid hW
      replace hb:=Lib.hid hb
      replace hbx:=Lib.hid hbx
      replace s0:=Lib.hid s0
      refine cF.out.mono ?_
      rintro e' w2 ⟨rfl,rfl⟩
      go_wp2_with fail
      refine cS.out.mono ?_
      rintro e' w3 ⟨B',c',n',P',rfl,k3,rl,hl,ht⟩
      have X3:=k3.block BX.out
      have Z3:=k3.block BZ.out
      clear c0 c1 c2 cf z0 z1 z2 zf
      obtain ⟨c0,c1,c2,cf⟩:=rc_cells X3
      obtain ⟨z0,z1,z2,zf⟩:=rc_cells Z3
      unfold zrc at z0 z1 z2
      simp only at c0 c1 c2
      obtain ⟨F1,F2,F3⟩:=rc_fin (d:=d) (A:=A) (n:=n) (c:=c) (bx:=bx) (b:=b) k'.out KW.out (by have:=hbx.out;omega) (by have:=hb.out;omega) (by have:=hb.out;have:=hbx.out;omega) (lt_of_block BX.out) (lt_of_block BZ.out) hX'.out k3 Z3 rl
      have F1:=Lib.hid F1
      have F2:=Lib.hid F2
      have F3:=Lib.hid F3
      have hne:bx≠b:=by have:=hb.out;have:=hbx.out;omega
      replace X3:=Lib.hid X3
      replace Z3:=Lib.hid Z3
      replace rl:=Lib.hid rl
      replace hl:=Lib.hid hl
      replace ht:=Lib.hid ht
      replace k3:=Lib.hid k3
      go_wp2
      obtain ⟨e0,e1,e2,_⟩:=rc_cells F1.out
      simp only [put3] at *
      refine bodyPost_ret (v:=.tuple #[.agg #[.int .i64 d,.slice A n c,.slice B' n' c'],.int .i64 cd,.int .i64 0]) (by simp [results,Tryz.results43,go_sem,e0,e1,e2]) rfl ⟨B',c',n',P',rfl,F2.out,F3.out,?_,ht.out⟩
      rw [hg.out]
      exact hl.out
  · have hr0:r < 0:=by
      have:¬ 0≤r:=fun h=>hk (hfi.1 h)
      omega
    have hc:cgC L id ev = 5:=by
      unfold cgC appC
      rw [if_neg fun h=>hk h.1,if_pos hk]
    have N5:=nochg 5 hc (by decide)
    rw [hc] at N5 ⊢
    clear nochg
    replace hc:=Lib.hid hc
    replace hk:=Lib.hid hk
    replace hfi:=Lib.hid hfi
    go_enter Tryz.func43,Tryz.ntmps43
    go_wp2_with fail
    clear c2e
    rw [← hW0,← hW,← hb]
    try rw [← hbx]
    replace hW0:=Lib.hid hW0
    replace hW:=Lib.hid hW
    replace hb:=Lib.hid hb
    replace hbx:=Lib.hid hbx
    replace s0:=Lib.hid s0
    refine cF.out.mono ?_
    rintro e' w2 ⟨rfl,rfl⟩
    go_wp2
    obtain ⟨e0,e1,e2,_⟩:=rc_cells B5.out
    simp only [put3] at *
    obtain ⟨B',c',n',P',⟨rfl,rfl,rfl⟩,q2,q3,q4,q5⟩:=N5.out
    refine bodyPost_ret (v:=.tuple #[.agg #[.int .i64 d,.slice A n c,.slice B' n' c'],.int .i64 5,.int .i64 0]) (by simp [results,Tryz.results43,go_sem,e0,e1,e2]) rfl ⟨B',c',n',P',rfl,q2,q3,q4,q5⟩
end Go.Proofs.YtnclkefddkgojaaGreatDoor.T14

