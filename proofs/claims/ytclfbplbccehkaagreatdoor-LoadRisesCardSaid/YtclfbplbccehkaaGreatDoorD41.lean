/-
  A pod written into an element of a row; a row cut short; the end of a row cleared. No condition, no walk.
  slices.IndexFunc and slices.DeleteFunc over a row of pods of the call's own. Condition: at most 1048576 pods.
  reserve.Sees, Pods, Own, All; the reference's Sees. Condition: at most 100 pods.
-/
import Derived.Test.YtclfbplbccehkaaGreatDoorD30
import Derived.Lib.SliceRun
import Derived.Test.YtclfbplbccehkaaGreatDoorD7
import Derived.Test.YtclfbplbccehkaaGreatDoorD33
namespace Go.Proofs.YtclfbplbccehkaaGreatDoor.T13
open Go.RowKit Go.Sort Go.Lib V12
def put9o (w:World) (g o:Nat) (x:PodV):World:=((((((((w.setCell ⟨g,o,none⟩ (.int .i64 x.k)).setCell ⟨g,o + 1,none⟩ (.int .i64 x.p)).setCell ⟨g,o + 2,none⟩ (.bool x.f)).setCell ⟨g,o + 3,none⟩ (.int .i64 x.g)).setCell ⟨g,o + 4,none⟩ (.slice x.A x.m x.c)).setCell ⟨g,o + 5,none⟩ (.int .i64 x.a)).setCell ⟨g,o + 6,none⟩ (.int .i64 x.h)).setCell ⟨g,o + 7,none⟩ (.int .i64 x.d)).setCell ⟨g,o + 8,none⟩ (.int .i64 x.t)
theorem put9o_block {w:World} {g o k:Nat} (x:PodV) (h:k≠g):(put9o w g o x).heap[k]? = w.heap[k]?:=by
  unfold put9o
  iterate 9 rw [Below.heap_setCell _ _ _ _ (show k≠_ from h)]
theorem row_step {w:World} {b0 g c n j i:Nat} {P:Nat→PodV} {x y:PodV} {u:Value} (h:w.ownsRow b0 26 9 (.slice (some ⟨g,0,none⟩) n c) n (podCs (put P j y) n)) (hj:j < n) (hi:i < 9) (hx:x.cells = y.cells.set i u):(w.setCell ⟨g,j * 9 + i,none⟩ u).ownsRow b0 26 9 (.slice (some ⟨g,0,none⟩) n c) n (podCs (put P j x) n):=by
  have e:=podCs_set (P:=put P j y) hj hi (x:=x) (u:=u) (by rw [put_at];exact hx)
  rw [put_twice] at e
  rw [e]
  exact (h.stored (j * 9 + i) u).1
theorem put_self (P:Nat→PodV) (j:Nat):put P j (P j) = P:=by
  funext t
  by_cases e:t = j
  · rw [e,put_at]
  · rw [put_ne _ _ _ e]
theorem row_put {w:World} {b0 g c n j:Nat} {P:Nat→PodV} (h:w.ownsRow b0 26 9 (.slice (some ⟨g,0,none⟩) n c) n (podCs P n)) (hj:j < n) (x:PodV):(put9o w g (j * 9) x).ownsRow b0 26 9 (.slice (some ⟨g,0,none⟩) n c) n (podCs (put P j x) n):=by
  have h0:w.ownsRow b0 26 9 (.slice (some ⟨g,0,none⟩) n c) n (podCs (put P j (P j)) n):=by rw [put_self];exact h
  obtain ⟨y,hy⟩:∃ y,y = P j:=⟨_,rfl⟩
  rw [← hy] at h0
  have a0:=row_step (x:={ y with k:=x.k }) (u:=.int .i64 x.k) (i:=0) h0 hj (by omega) rfl
  have a1:=row_step (x:={ y with k:=x.k,p:=x.p }) (u:=.int .i64 x.p) (i:=1) a0 hj (by omega) rfl
  have a2:=row_step (x:={ y with k:=x.k,p:=x.p,f:=x.f }) (u:=.bool x.f) (i:=2) a1 hj (by omega) rfl
  have a3:=row_step (x:={ y with k:=x.k,p:=x.p,f:=x.f,g:=x.g }) (u:=.int .i64 x.g) (i:=3) a2 hj (by omega) rfl
  have a4:=row_step (x:={ y with k:=x.k,p:=x.p,f:=x.f,g:=x.g,A:=x.A,m:=x.m,c:=x.c }) (u:=.slice x.A x.m x.c) (i:=4) a3 hj (by omega) rfl
  have a5:=row_step (x:={ y with k:=x.k,p:=x.p,f:=x.f,g:=x.g,A:=x.A,m:=x.m,c:=x.c,a:=x.a }) (u:=.int .i64 x.a) (i:=5) a4 hj (by omega) rfl
  have a6:=row_step (x:={ y with k:=x.k,p:=x.p,f:=x.f,g:=x.g,A:=x.A,m:=x.m,c:=x.c,a:=x.a,h:=x.h }) (u:=.int .i64 x.h) (i:=6) a5 hj (by omega) rfl
  have a7:=row_step (x:={ y with k:=x.k,p:=x.p,f:=x.f,g:=x.g,A:=x.A,m:=x.m,c:=x.c,a:=x.a,h:=x.h,d:=x.d }) (u:=.int .i64 x.d) (i:=7) a6 hj (by omega) rfl
  exact row_step (x:=x) (u:=.int .i64 x.t) (i:=8) a7 hj (by omega) rfl
theorem row_free {w:World} {b0 g c n:Nat} {xs:List Value} (h:w.ownsRow b0 26 9 (.slice (some ⟨g,0,none⟩) n c) n xs):∀ i,w.frozen? ⟨g,i,none⟩ = false:=by
  obtain ⟨cur,hc⟩:=row_kind h rfl
  intro i
  exact frozen_of_row w g i _ _ hc
theorem req_put9 {w:World} {base b2 g o n c:Nat} {x y:PodV} {xs:List Value} (h:Req w base y) (hr:w.ownsRow b2 26 9 (.slice (some ⟨g,0,none⟩) n c) n xs):Req (put9o w g o x) base y :=
  own_blocks1 h fun k hk=>put9o_block x fun e=>by
    subst e
    rcases rows_apart h hr (by decide) with h1 | h1
    · rw [h1] at hk;cases hk
    · exact h1 (hk.trans rfl)
theorem RowP.put9 {w:World} {base g c n:Nat} {P:Nat→PodV} (h:RowP w base (.slice (some ⟨g,0,none⟩) n c) n P) {j:Nat} (hj:j < n) {x:PodV} (hx:Req w base x) (ho:PodOk x):RowP (put9o w g (j * 9) x) base (.slice (some ⟨g,0,none⟩) n c) n (put P j x) where
  row:=row_put h.row hj x
  own:=fun t ht=>by
    by_cases e:t = j
    · rw [e,put_at];exact req_put9 hx h.row
    · rw [put_ne _ _ _ e];exact req_put9 (h.own t ht) h.row
  ok:=fun t ht=>by
    by_cases e:t = j
    · rw [e,put_at];exact ho
    · rw [put_ne _ _ _ e];exact h.ok t ht
theorem podCs_take (Q:Nat→PodV) (i:Nat):∀ n,i≤n→(podCs Q n).take (i * 9) = podCs Q i
  | 0,h=>by
    obtain rfl:i = 0:=by omega
    rfl
  | n + 1,h=>by
    by_cases e:i = n + 1
    · rw [e,List.take_of_length_le (by rw [podCs_len];omega)]
    · rw [podCs,List.take_append_of_le_length (by rw [podCs_len];omega)]
      exact podCs_take Q i n (by omega)
theorem RowP.short {w:World} {base g c n i:Nat} {Q:Nat→PodV} (h:RowP w base (.slice (some ⟨g,0,none⟩) n c) n Q) (hi:i≤n):RowP w base (.slice (some ⟨g,0,none⟩) i c) i Q:=by
  refine ⟨?_,fun j hj=>h.own j (by omega),fun j hj=>h.ok j (by omega)⟩
  rcases h.row.2 with ⟨e,_⟩ | ⟨g',cap,cur,e,h1,h2,h3,h4,h5,h6⟩
  · cases e
  · cases e
    refine ⟨podCs_len _ _,.inr ⟨_,_,cur,rfl,h1,h2,by omega,h4,h5,?_⟩⟩
    rw [← podCs_take Q i n hi,← h6,List.take_take,Nat.min_eq_left (by omega)]
theorem RowP.congr {w:World} {base n:Nat} {v:Value} {P Q:Nat→PodV} (h:RowP w base v n P) (e:∀ j,j < n→P j = Q j):RowP w base v n Q :=
  ⟨by rw [← podCs_congr n e];exact h.row,fun j hj=>by rw [← e j hj];exact h.own j hj,fun j hj=>by rw [← e j hj];exact h.ok j hj⟩
def rep:Nat→List Value
  | 0=>[]
  | m + 1=>zpod.cells ++ rep m
theorem rep_zero:∀ n,(Builtin.zeroCells zpod.val.cells n).toList = rep n
  | 0=>by simp [Builtin.zeroCells,rep]
  | n + 1=>by
    have e:=rep_zero n
    unfold Builtin.zeroCells at e ⊢
    have hz:zpod.val.cells.size = 9:=rfl
    rw [hz] at e ⊢
    rw [Array.toList_map,Array.toList_range] at e ⊢
    rw [show (n + 1) * 9 = 9 + n * 9 by omega,List.range_add,List.map_append,rep]
    congr 1
    rw [← e,List.map_map]
    refine List.map_congr_left fun i _=>?_
    show zpod.val.cells[(9 + i) % 9]! = _
    rw [show (9 + i) % 9 = i % 9 by omega]
theorem put9o_fr {w:World} {g o:Nat} (x:PodV):Fr (fun k=>k = g) w (put9o w g o x):=by
  unfold put9o
  exact ((((((((((Fr.refl (fun k=>k = g) w).set (Or.inl rfl) _).set (Or.inl rfl) _).set (Or.inl rfl) _).set (Or.inl rfl) _).set (Or.inl rfl) _).set (Or.inl rfl) _).set (Or.inl rfl) _).set (Or.inl rfl) _).set (Or.inl rfl) _)
theorem set_cells9 (w:World) (g o:Nat) (x:PodV) (r:List Value):w.setCells g o (x.cells ++ r) = (put9o w g o x).setCells g (o + 9) r:=by
  simp only [PodV.cells,List.cons_append,List.nil_append,World.setCells,put9o,Nat.add_assoc,Nat.reduceAdd]
theorem clear_cells {base g c n:Nat}:∀ (m i:Nat) {w:World} {P:Nat→PodV},RowP w base (.slice (some ⟨g,0,none⟩) n c) n P→i + m≤n →
    RowP (w.setCells g (i * 9) (rep m)) base (.slice (some ⟨g,0,none⟩) n c) n (fun t=>if i≤t∧t < i + m then zpod else P t)∧(∀ k,k≠g→(w.setCells g (i * 9) (rep m)).heap[k]? = w.heap[k]?)∧Fr (fun k=>k = g) w (w.setCells g (i * 9) (rep m))
  | 0,i,w,P,h,_=>by
    have e:w.setCells g (i * 9) (rep 0) = w:=rfl
    rw [e]
    exact ⟨h.congr fun j _=>by rw [if_neg (by omega)],fun _ _=>rfl,Fr.refl _ _⟩
  | m + 1,i,w,P,h,hm=>by
    have e:w.setCells g (i * 9) (rep (m + 1)) = (put9o w g (i * 9) zpod).setCells g ((i + 1) * 9) (rep m):=by
      rw [show (i + 1) * 9 = i * 9 + 9 by omega,rep,set_cells9]
    obtain ⟨h1,h2,h3⟩:=clear_cells m (i + 1) (h.put9 (j:=i) (by omega) (zpod_req w base) zpod_ok) (by omega)
    rw [e]
    refine ⟨h1.congr fun j _=>?_,fun k hk=>(h2 k hk).trans (put9o_block _ hk),(put9o_fr zpod).same h3⟩
    by_cases e1:j = i
    · rw [e1,put_at,if_neg (by omega),if_pos (by omega)]
    · rw [put_ne _ _ _ e1]
      by_cases e2:i + 1≤j∧j < i + 1 + m
      · rw [if_pos e2,if_pos (by omega)]
      · rw [if_neg e2,if_neg (by omega)]
theorem run_clear_pods {w:World} {base g c n i:Nat} {P:Nat→PodV} (h:RowP w base (.slice (some ⟨g,0,none⟩) n c) n P) (hi:i < n) (d:Nat) (ty:TypeId) :
    (Builtin.clear_ #[29] ty #[.slice (some ⟨g,i * 9,none⟩) (n - i) d]).run Tryz.prog w = .ok (.tuple #[]) (w.setCells g (i * 9) (rep (n - i))):=by
  have hl:(rep (n - i)).length = (n - i) * 9:=by
    rw [← rep_zero]
    simp [Builtin.zeroCells,show zpod.val.cells.size = 9 from rfl]
  have hst:=run_storeCells_cells (P:=Tryz.prog) g (i * 9) (rep (n - i)) 0 w (fun j hj=>by
      rw [Nat.add_zero,h.row.cellAt _ (by rw [hl] at hj;omega),List.getElem?_eq_getElem (by rw [podCs_len];rw [hl] at hj;omega)]
      rfl) (fun j _=>h.row.frozenAt _) (fun v hv=>by
      have:∀ m,∀ v ∈ rep m,v.oneCell' = true:=fun m=>by
        induction m with
        | zero=>intro v hv;cases hv
        | succ m ih =>
          intro v hv
          rcases List.mem_append.1 hv with hv | hv
          · exact List.all_eq_true.1 (show (zpod.cells.all fun u=>u.oneCell') = true from rfl) v hv
          · exact ih v hv
      exact this _ v hv)
  rw [Nat.add_zero] at hst
  have hz:=rep_zero (n - i)
  obtain ⟨m,hm⟩:∃ m,n - i = m + 1:=⟨n - i - 1,by omega⟩
  rw [hm] at hst hz ⊢
  have hz2:(Builtin.zeroCells (Value.agg #[.int .i64 0,.int .i64 0,.bool false,.int .i64 0,.slice none 0 0,.int .i64 0,.int .i64 0,.int .i64 0,.int .i64 0]).cells (m + 1)).toList = rep (m + 1):=hz
  simp [Builtin.clear_,run_underlying Tryz.underlying29,hz2,hst]
end Go.Proofs.YtclfbplbccehkaaGreatDoor.T13

namespace Go.Proofs.YtclfbplbccehkaaGreatDoor.T15
open Go.RowKit Go.Sort Go.Lib V12 T13 T14
structure Df (w:World) (df:Nat) (caps:Array Value) (g:Option Nat) (n:Nat) (Q:Nat→PodV) (f:PodV→Bool):Prop where
  en:∀ args w,(callFunc df args).run Tryz.prog w = .ok (.enter df args) w
  k:∀ W':World,(∀ i,i < w.heap.size→g≠some i→W'.heap[i]? = w.heap[i]?)→∀ x ∈ T13.lst Q n,Calls Tryz.prog df (#[x.val] ++ caps) W' fun e W''=>e = .returned (.bool (f x))∧Keep W' W''
theorem Df.later {w w1:World} {df:Nat} {caps:Array Value} {g:Option Nat} {n:Nat} {Q:Nat→PodV} {f:PodV→Bool} (h:Df w df caps g n Q f) (k:Keep w w1):Df w1 df caps g n Q f :=
  ⟨h.en,fun W' hW x hx=>h.k W' (fun i hi hn=>(hW i (Nat.lt_of_lt_of_le hi k.size) hn).trans (Below.block k i hi)) x hx⟩
set_option maxRecDepth 100000 in
set_option maxHeartbeats 4000000 in
theorem sidx_fn {w:World} {base n:Nat} {v:Value} {Q:Nat→PodV} (hR:RowP w base v n Q) (hn:n≤1048576) {df:Nat} {caps:Array Value} {f:PodV→Bool} (K:Df w df caps v.ownBlock n Q f) :
    Calls Tryz.prog 121 #[v,.func (.func df) #[] caps] w fun e w'=>∃ r:Int,e = .returned (.int .i64 r)∧Keep w w'∧((r = -1∧∀ t,t < n→f (Q t) = false)∨∃ j,j < n∧r = (j:Int)∧f (Q j) = true∧∀ t,t < j→f (Q t) = false):=by
  obtain ⟨A,c,rfl,hP⟩:=hR.rd (by omega)
  have eg:=K.en
  replace K:=Lib.hid K
  replace hP:=Lib.hid hP
  clear hR
  go_enter Tryz.func121,Tryz.ntmps121
  go_wp2
  go_loopg [5,8] n (fun gx _ s8 wr=>∃ j:Nat,j≤n∧gx = n - j∧s8 = .int .i64 j∧Hid (Keep w wr)∧Hid (∀ t,t < j→f (Q t) = false))
  case atStart=>exact ⟨0,Nat.zero_le _,rfl,rfl,Keep.refl _,fun t h=>absurd h (Nat.not_lt_zero _)⟩
  case round =>
    obtain ⟨j,hj,rfl,rfl,K1,NO⟩:=hrel
    by_cases hlt:j < n
    · have R2:=hP.out.keep K1.out
      obtain ⟨b,off,hA,ca⟩:=R2.adr (by omega)
      subst hA
      have q1:=pods_at b off n c j hlt
      have X:=ca j hlt
      clear ca
      have hc:=Lib.hid ((K.out.later K1.out).k wr (fun _ _ _=>rfl) (Q j) (lst_mem.2 ⟨j,hlt,rfl⟩))
      obtain ⟨x,hx⟩:∃ x,x = Q j:=⟨_,rfl⟩
      rw [← hx] at X hc
      have x0:=X.e0;have x1:=X.e1;have x2:=X.e2;have x3:=X.e3;have x4:=X.e4;have x5:=X.e5;have x6:=X.e6;have x7:=X.e7;have x8:=X.e8
      clear X
      obtain ⟨r,hr⟩:∃ r,r = f x:=⟨_,rfl⟩
      rw [← hr] at hc
      rw [hx] at hr
      replace hr:=Lib.hid hr
      replace hx:=Lib.hid hx
      replace R2:=Lib.hid R2
      unfold PodV.val at hc
      go_wp2_with fail
      refine hc.out.mono ?_
      rintro e w1 ⟨rfl,k1⟩
      replace k1:=Lib.hid k1
      cases r with
      | true =>
        go_wp2
        go_ret
        exact ⟨j,rfl,K1.out.trans k1.out,Or.inr ⟨j,hlt,rfl,hr.out.symm,NO.out⟩⟩
      | false =>
        have K2:Hid (Keep w w1):=K1.out.trans k1.out
        have NO2:Hid (∀ t,t < j + 1→f (Q t) = false):=fun t ht=>by
          by_cases e:t = j
          · rw [e];exact hr.out.symm
          · exact NO.out t (by omega)
        go_wp2
        go_roundg (n - (j + 1))
        case measure=>omega
        case rel=>exact ⟨j + 1,hlt,rfl,by go_num,K2,NO2⟩
    · obtain rfl:j = n:=by omega
      go_wp2
      go_ret
      exact ⟨-1,rfl,K1.out,Or.inl ⟨rfl,NO.out⟩⟩
theorem flt_put {S Q:Nat→PodV} {f:PodV→Bool} {i j:Nat} (h:T13.lst S i = (T13.lst Q j).filter fun x=>!f x) (hf:f (Q j) = false):T13.lst (put S i (Q j)) (i + 1) = (T13.lst Q (j + 1)).filter fun x=>!f x:=by
  rw [lst_put,h,lst_succ,List.filter_append,List.filter_cons,if_pos (by rw [hf];rfl),List.filter_nil]
theorem flt_skip {Q:Nat→PodV} {f:PodV→Bool} {j:Nat} {l:List PodV} (h:l = (T13.lst Q j).filter fun x=>!f x) (hf:f (Q j) = true):l = (T13.lst Q (j + 1)).filter fun x=>!f x:=by
  rw [h,lst_succ,List.filter_append,List.filter_cons,if_neg (by rw [hf];decide),List.filter_nil,List.append_nil]
theorem flt_all {Q:Nat→PodV} {f:PodV→Bool} {j:Nat} (h:∀ t,t < j→f (Q t) = false):T13.lst Q j = (T13.lst Q j).filter fun x=>!f x:=by
  refine (List.filter_eq_self.2 fun x hx=>?_).symm
  obtain ⟨t,ht,rfl⟩:=lst_mem.1 hx
  rw [h t ht]
  rfl
set_option maxRecDepth 100000 in
set_option maxHeartbeats 8000000 in
theorem sdel_fn {w:World} {base n:Nat} {v:Value} {Q:Nat→PodV} (hR:RowP w base v n Q) (hn:n≤1048576) {df:Nat} {caps:Array Value} {f:PodV→Bool} (K:Df w df caps v.ownBlock n Q f) :
    Calls Tryz.prog 113 #[v,.func (.func df) #[] caps] w fun e w'=>∃ v' S,e = .returned v'∧RowP w' base v' ((T13.lst Q n).filter fun x=>!f x).length S∧T13.lst S ((T13.lst Q n).filter fun x=>!f x).length = (T13.lst Q n).filter (fun x=>!f x)∧Fr (fun k=>v.ownBlock = some k) w w':=by
  obtain ⟨A,c,hv,hP⟩:=hR.rd (by omega)
  subst hv
  have eg:=K.en
  have cI:=Lib.hid (sidx_fn hR hn K)
  replace K:=Lib.hid K
  replace hR:=Lib.hid hR
  replace hP:=Lib.hid hP
  go_enter Tryz.func113,Tryz.ntmps113
  go_wp2_with fail
  refine cI.out.mono ?_
  rintro e w1 ⟨r,rfl,K1,⟨rfl,NO⟩ | ⟨j0,hj0,rfl,YE,NO⟩⟩
  · have e1:=flt_all NO
    have e2:((T13.lst Q n).filter fun x=>!f x).length = n:=by rw [← e1,lst_len]
    replace e1:=Lib.hid e1
    go_wp2
    go_ret
    exact ⟨_,Q,rfl,by rw [e2];exact hR.out.keep K1,by rw [e2];exact e1.out,Fr.of K1⟩
  · obtain ⟨g,cap,ev,_⟩:=hR.out.row.form (by omega)
    simp only [Value.slice.injEq] at ev
    obtain ⟨rfl,_,rfl⟩:=ev
    have hcap:Hid ((n:Int)≤(c:Int)):=by have:=own_cap hR.out.row;show _≤_;omega
    have R1:=Lib.hid (hR.out.keep K1)
    have F1:Hid (Fr (fun k=>k = g) w w1):=Fr.of K1
    have D:Hid (Df w df caps (some g) n Q f):=K.out
    have E0:Hid (T13.lst Q j0 = (T13.lst Q (j0 + 1)).filter fun x=>!f x):=flt_skip (flt_all NO) YE
    have hne1:((j0:Int) == -1) = false:=beq_eq_false_iff_ne.2 (by omega)
    clear K hP cI
    replace YE:=Lib.hid YE
    replace NO:=Lib.hid NO
    replace K1:=Lib.hid K1
    go_wp2
    go_loopg [5,6,7] (n - (j0 + 1)) (fun gx s5 s6 _ wr=>∃ (i j:Nat) (S:Nat→PodV),i < j∧j≤n∧gx = n - j∧s5 = .int .i64 i∧s6 = .int .i64 j∧Hid (RowP wr base (.slice (some ⟨g,0,none⟩) n c) n S)∧Hid (Fr (fun k=>k = g) w wr)∧Hid (T13.lst S i = (T13.lst Q j).filter fun x=>!f x)∧Hid (∀ t,j≤t→t < n→S t = Q t))
    case atStart=>exact ⟨j0,j0 + 1,Q,Nat.lt_succ_self _,hj0,rfl,rfl,by go_num,R1.out,F1.out,E0.out,fun _ _ _=>rfl⟩
    case round =>
      clear R1 F1 E0 hne1
      obtain ⟨i,j,S,hij,hj,rfl,rfl,rfl,RS,FS,ES,TS⟩:=hrel
      by_cases hlt:j < n
      · have q1:=pods_at g 0 n c j hlt
        have q2:=pods_at g 0 n c i (by omega)
        have V:=row_cel RS.out.row hlt
        have eS:=TS.out j (Nat.le_refl _) hlt
        obtain ⟨x,hx⟩:∃ x,x = S j:=⟨_,rfl⟩
        rw [← hx] at V eS
        rw [Nat.zero_add] at q1 q2 V
        have rqx:Hid (Req wr base x):=by rw [hx];exact RS.out.own j hlt
        have okx:Hid (PodOk x):=by rw [hx];exact RS.out.ok j hlt
        obtain ⟨b,hb⟩:∃ b,b = wr.heap.size:=⟨_,rfl⟩
        obtain ⟨W1,hW1⟩:∃ W1,W1 = wr.alloc (.cells (podB x) 26):=⟨_,rfl⟩
        have k1:Hid (Keep wr W1):=by rw [hW1];exact Keep.one _ _
        have B1:Hid (W1.heap[b]? = some (.cells (podB x) 26 (0,0))):=by show _ = _;rw [hW1,hb];exact heap_alloc_new _ _
        have hc:=Lib.hid (D.out.k W1 (fun k hk hn=>(Below.block k1.out k (Nat.lt_of_lt_of_le hk FS.out.size)).trans (FS.out.block k hk fun e=>hn (by rw [e]))) x (lst_mem.2 ⟨j,hlt,eS.symm⟩))
        obtain ⟨r,hr⟩:∃ r,r = f x:=⟨_,rfl⟩
        rw [← hr] at hc
        rw [eS] at hr
        unfold PodV.val at hc
        replace hr:=Lib.hid hr
        replace hx:=Lib.hid hx
        replace eS:=Lib.hid eS
        have x0:=V.e0;have x1:=V.e1;have x2:=V.e2;have x3:=V.e3;have x4:=V.e4;have x5:=V.e5;have x6:=V.e6;have x7:=V.e7;have x8:=V.e8
        clear V
        have C1:=blk9 B1.out
        have c0:=C1.e0;have c1:=C1.e1;have c2:=C1.e2;have c3:=C1.e3;have c4:=C1.e4;have c5:=C1.e5;have c6:=C1.e6;have c7:=C1.e7;have c8:=C1.e8
        clear C1
        rw [hW1,hb] at c0 c1 c2 c3 c4 c5 c6 c7 c8
        unfold podB at hW1
        unfold podB at c0 c1 c2 c3 c4 c5 c6 c7 c8
        go_wp2_with fail
        rw [← hW1]
        try rw [← hb]
        refine hc.out.mono ?_
        rintro e w2 ⟨rfl,k2⟩
        clear x0 x1 x2 x3 x4 x5 x6 x7 x8 c0 c1 c2 c3 c4 c5 c6 c7 c8 hc
        replace hW1:=Lib.hid hW1
        replace hb:=Lib.hid hb
        have k12:Hid (Keep wr w2):=k1.out.trans k2
        have R2:=Lib.hid (RS.out.keep k12.out)
        have F2:Hid (Fr (fun k=>k = g) w w2):=FS.out.keep k12.out
        have C2:=blk9 (Keep.block k2 B1.out)
        replace k2:=Lib.hid k2
        cases r with
        | true =>
          have E2:Hid (T13.lst S i = (T13.lst Q (j + 1)).filter fun x=>!f x):=flt_skip ES.out hr.out.symm
          have T2:Hid (∀ t,j + 1≤t→t < n→S t = Q t):=fun t h1 h2=>TS.out t (by omega) h2
          clear C2
          go_wp2
          go_roundg (n - (j + 1))
          case measure=>omega
          case rel=>exact ⟨i,j + 1,S,by omega,hlt,rfl,rfl,by go_num,R2,F2,E2,T2⟩
        | false =>
          have E2:Hid (T13.lst (put S i x) (i + 1) = (T13.lst Q (j + 1)).filter fun x=>!f x):=by show _ = _;rw [eS.out];exact flt_put ES.out hr.out.symm
          have T2:Hid (∀ t,j + 1≤t→t < n→put S i x t = Q t):=fun t h1 h2=>by rw [put_ne _ _ _ (by omega)];exact TS.out t (by omega) h2
          obtain ⟨W3,hW3⟩:∃ W3,W3 = put9o w2 g (i * 9) x:=⟨_,rfl⟩
          have R3:Hid (RowP W3 base (.slice (some ⟨g,0,none⟩) n c) n (put S i x)):=by
            rw [hW3]
            exact R2.out.put9 (by omega) (own_keep rqx.out k12.out) okx.out
          have F3:Hid (Fr (fun k=>k = g) w W3):=by
            rw [hW3]
            exact F2.out.same (put9o_fr x)
          have V:=row_cel R2.out.row (show i < n by omega)
          rw [Nat.zero_add] at V
          have y0:=V.e0;have y1:=V.e1;have y2:=V.e2;have y3:=V.e3;have y4:=V.e4;have y5:=V.e5;have y6:=V.e6;have y7:=V.e7;have y8:=V.e8
          clear V
          have yf:=row_free R2.out.row
          have c0:=C2.e0;have c1:=C2.e1;have c2:=C2.e2;have c3:=C2.e3;have c4:=C2.e4;have c5:=C2.e5;have c6:=C2.e6;have c7:=C2.e7;have c8:=C2.e8
          clear C2
          unfold put9o at hW3
          go_wp2
          rw [← hW3]
          replace hW3:=Lib.hid hW3
          clear y0 y1 y2 y3 y4 y5 y6 y7 y8 yf c0 c1 c2 c3 c4 c5 c6 c7 c8
          go_roundg (n - (j + 1))
          case measure=>omega
          case rel=>exact ⟨i + 1,j + 1,put S i x,by omega,hlt,rfl,by go_num,by go_num,R3,F3,E2,T2⟩
      · obtain rfl:j = n:=by omega
        have hcl:=fun d ty=>run_clear_pods RS.out (i:=i) hij d ty
        obtain ⟨r1,r2,r3⟩:=clear_cells (j - i) i RS.out (by omega)
        have r4:=r1.short (show i≤j by omega)
        obtain ⟨W,hW⟩:∃ W,W = wr.setCells g (i * 9) (rep (j - i)):=⟨_,rfl⟩
        rw [← hW] at r3 r4 hcl
        have fin:Hid (∃ S,RowP W base (.slice (some ⟨g,0,none⟩) i c) ((T13.lst Q j).filter fun x=>!f x).length S∧T13.lst S ((T13.lst Q j).filter fun x=>!f x).length = (T13.lst Q j).filter (fun x=>!f x)∧Fr (fun k=>some g = some k) w W):=by
          have e2:((T13.lst Q j).filter fun x=>!f x).length = i:=by rw [← ES.out,lst_len]
          refine ⟨_,by rw [e2];exact r4,?_,(FS.out.same r3).less fun k hk=>by rw [hk]⟩
          rw [e2,← ES.out]
          exact lst_congr fun t ht=>if_neg (by omega)
        clear r1 r2 r3 r4
        replace hW:=Lib.hid hW
        have hc1:=hcap.out
        have hij2:(i:Int)≤(j:Int):=by omega
        go_wp2
        go_ret
        obtain ⟨S',h2,h3,h4⟩:=fin.out
        exact ⟨_,S',rfl,h2,h3,h4⟩
end Go.Proofs.YtclfbplbccehkaaGreatDoor.T15

namespace Go.Proofs.YtclfbplbccehkaaGreatDoor.T15
open Go.RowKit Go.Sort Go.Lib V12 T13 T14
set_option maxRecDepth 100000 in
set_option maxHeartbeats 4000000 in
theorem sees_fn (p q:PodV) (nd:Int) (w:World):Calls Tryz.prog 96 #[p.val,q.val,.int .i64 nd] w fun e w'=>e = .returned (.bool (seesB p nd q))∧Keep w w':=by
  have T:=two w p q
  have KW:=Lib.hid T.k
  have P0:=blk9 T.b0
  have Q0:=blk9 T.b1
  have p0:=P0.e0;have p1:=P0.e1;have q0:=Q0.e0;have q1:=Q0.e1;have q6:=Q0.e6;have q7:=Q0.e7
  clear P0 Q0 T
  unfold podB at p0 p1 q0 q1 q6 q7
  unfold PodV.val
  by_cases h1:q.k = p.k
  · have e:seesB p nd q = false:=decide_eq_false fun h=>h.1 h1
    have b1:(q.k != p.k) = false:=by simp [h1]
    rw [e]
    replace h1:=Lib.hid h1
    go_enter Tryz.func96,Tryz.ntmps96
    go_wp2
    go_ret
    exact ⟨rfl,KW.out⟩
  · have b1:(q.k != p.k) = true:=by simp [h1]
    by_cases h2:q.h = 2
    · have b2:(q.h == 2) = true:=by simp [h2]
      by_cases h3:q.d = nd
      · have b3:(q.d == nd) = true:=by simp [h3]
        have e:seesB p nd q = decide (p.p≤q.p):=by
          unfold seesB
          rw [decide_eq_decide]
          exact ⟨fun h=>h.2.2.2,fun h=>⟨h1,h2,h3,h⟩⟩
        rw [e]
        replace h1:=Lib.hid h1
        replace h2:=Lib.hid h2
        replace h3:=Lib.hid h3
        go_enter Tryz.func96,Tryz.ntmps96
        go_wp2
        go_ret
        exact ⟨rfl,KW.out⟩
      · have b3:(q.d == nd) = false:=by simp [h3]
        have e:seesB p nd q = false:=decide_eq_false fun h=>h3 h.2.2.1
        rw [e]
        replace h1:=Lib.hid h1
        replace h2:=Lib.hid h2
        replace h3:=Lib.hid h3
        go_enter Tryz.func96,Tryz.ntmps96
        go_wp2
        go_ret
        exact ⟨rfl,KW.out⟩
    · have b2:(q.h == 2) = false:=by simp [h2]
      have e:seesB p nd q = false:=decide_eq_false fun h=>h2 h.2.1
      rw [e]
      replace h1:=Lib.hid h1
      replace h2:=Lib.hid h2
      go_enter Tryz.func96,Tryz.ntmps96
      go_wp2
      go_ret
      exact ⟨rfl,KW.out⟩
set_option maxHeartbeats 1000000 in
theorem pods1_fn (p x:PodV) (nd:Int) (bp bn:Nat) (W:World) (cp:W.heap[bp]? = some (.cells (podB p) 26 (0,0))) (cn:W.cell? ⟨bn,0,none⟩ = some (.int .i64 nd)) :
    Calls Tryz.prog 95 #[x.val,.pointer (some ⟨bp,0,none⟩),.pointer (some ⟨bn,0,none⟩)] W fun e w'=>e = .returned (.bool (seesB p nd x))∧Keep W w':=by
  have k1:=Keep.one W (.cells (podB x) 26)
  have C:=blk9 (Keep.block k1 cp)
  have X:=blk9 (heap_alloc_new W (.cells (podB x) 26))
  have n0:=k1.cell cn
  have cS:=Lib.hid (sees_fn p x nd (W.alloc (.cells (podB x) 26)))
  have c0:=C.e0;have c1:=C.e1;have c2:=C.e2;have c3:=C.e3;have c4:=C.e4;have c5:=C.e5;have c6:=C.e6;have c7:=C.e7;have c8:=C.e8
  have x0:=X.e0;have x1:=X.e1;have x2:=X.e2;have x3:=X.e3;have x4:=X.e4;have x5:=X.e5;have x6:=X.e6;have x7:=X.e7;have x8:=X.e8
  clear C X cp cn
  replace k1:=Lib.hid k1
  unfold podB at *
  unfold PodV.val at *
  go_enter Tryz.func95,Tryz.ntmps95
  go_wp2_with fail
  refine cS.out.mono ?_
  rintro e w2 ⟨rfl,k2⟩
  replace k2:=Lib.hid k2
  go_wp2
  go_ret
  exact ⟨rfl,k1.out.trans k2.out⟩
set_option maxHeartbeats 1000000 in
theorem filter1_fn (x:PodV) (bk:Nat) {kf:Nat} {caps:Array Value} {f:PodV→Bool} (en:∀ args w,(callFunc kf args).run Tryz.prog w = .ok (.enter kf args) w) (W:World) (ck:W.cell? ⟨bk,0,none⟩ = some (.func (.func kf) #[] caps))
    (hk:∀ W',Keep W W'→Calls Tryz.prog kf (#[x.val] ++ caps) W' fun e W''=>e = .returned (.bool (f x))∧Keep W' W'') :
    Calls Tryz.prog 114 #[x.val,.pointer (some ⟨bk,0,none⟩)] W fun e w'=>e = .returned (.bool (!f x))∧Keep W w':=by
  have k1:=Keep.one W (.cells (podB x) 26)
  have X:=blk9 (heap_alloc_new W (.cells (podB x) 26))
  have n0:=k1.cell ck
  have cK:=Lib.hid (hk _ k1)
  have x0:=X.e0;have x1:=X.e1;have x2:=X.e2;have x3:=X.e3;have x4:=X.e4;have x5:=X.e5;have x6:=X.e6;have x7:=X.e7;have x8:=X.e8
  clear X ck hk
  replace k1:=Lib.hid k1
  obtain ⟨r,hr⟩:∃ r,r = f x:=⟨_,rfl⟩
  rw [← hr] at cK ⊢
  replace hr:=Lib.hid hr
  unfold podB at *
  unfold PodV.val at *
  go_enter Tryz.func114,Tryz.ntmps114
  go_wp2_with fail
  refine cK.out.mono ?_
  rintro e w2 ⟨rfl,k2⟩
  replace k2:=Lib.hid k2
  go_wp2
  go_ret
  exact ⟨rfl,k1.out.trans k2.out⟩
theorem filter_fn {w:World} {base n:Nat} {v:Value} {Q:Nat→PodV} (hR:RowP w base v n Q) (hn:n≤1048576) {kf:Nat} {caps:Array Value} {f:PodV→Bool} (K:Df w kf caps v.ownBlock n Q f) :
    Calls Tryz.prog 94 #[v,.func (.func kf) #[] caps] w fun e w'=>∃ v' S,e = .returned v'∧RowP w' base v' ((T13.lst Q n).filter f).length S∧T13.lst S ((T13.lst Q n).filter f).length = (T13.lst Q n).filter f∧Fr (fun k=>v.ownBlock = some k) w w':=by
  have bK:Boxed (w.alloc (.cells #[.func (.func kf) #[] caps] 154)) w.heap.size 154 (.func (.func kf) #[] caps):=Boxed.new _ _ _
  have k1:Hid (Keep w (w.alloc (.cells #[.func (.func kf) #[] caps] 154))):=Keep.one _ _
  have D:Df (w.alloc (.cells #[.func (.func kf) #[] caps] 154)) 114 #[.pointer (some ⟨w.heap.size,0,none⟩)] v.ownBlock n Q fun x=>!f x:=⟨enters_of Tryz.func114 (by kernel_rfl) rfl,fun W' hW x hx=>by
    refine filter1_fn x w.heap.size K.en W' ?_ fun W'' k2=>K.k W'' (fun i hi hn=>?_) x hx
    · rw [World.cell?_of_block (w:=w.alloc (.cells #[.func (.func kf) #[] caps] 154)) (hW w.heap.size (by rw [World.size_alloc];omega) fun e=>by have:=(hR.row.lt _ e).2;omega)]
      exact bK.cell
    · have h1:=hW i (by rw [World.size_alloc];omega) hn
      have h2:=Below.block k1.out i hi
      have hlt:i < W'.heap.size:=by
        have h3:i < (w.alloc (.cells #[.func (.func kf) #[] caps] 154)).heap.size:=by rw [World.size_alloc];omega
        rw [Array.getElem?_eq_getElem h3] at h1
        exact (Array.getElem?_eq_some_iff.1 h1).1
      exact (Below.block k2 i hlt).trans (h1.trans h2)⟩
  have cD:=Lib.hid (sdel_fn (hR.keep k1.out) hn D)
  have hkf:=hR
  clear D K
  have e2:((T13.lst Q n).filter fun x=>!(!f x)) = (T13.lst Q n).filter f:=List.filter_congr fun x _=>Bool.not_not _
  rw [e2] at cD
  replace hR:=Lib.hid hR
  clear hkf e2 bK
  go_enter Tryz.func94,Tryz.ntmps94
  go_wp2_with fail
  refine cD.out.mono ?_
  rintro e w2 ⟨v',S,rfl,h1,h2,h3⟩
  have fin:Hid (RowP w2 base v' ((T13.lst Q n).filter f).length S∧T13.lst S ((T13.lst Q n).filter f).length = (T13.lst Q n).filter f∧Fr (fun k=>v.ownBlock = some k) w w2):=⟨h1,h2,(Fr.of k1.out).same h3⟩
  clear h1 h2 h3
  go_wp2
  go_ret
  exact ⟨v',S,rfl,fin.out⟩
theorem filter_new {w0 w:World} {n:Nat} {v:Value} {Q:Nat→PodV} (k0:Keep w0 w) (hR:RowP w w0.heap.size v n Q) (hn:n≤1048576) {L:List PodV} (hL:(T13.lst Q n).map nm = L) {kf:Nat} {caps:Array Value} {f:PodV→Bool} (hf:∀ x,f (nm x) = f x) (K:Df w kf caps v.ownBlock n Q f) :
    Calls Tryz.prog 94 #[v,.func (.func kf) #[] caps] w fun e w'=>∃ v' S,e = .returned v'∧RowP w' w0.heap.size v' (L.filter f).length S∧(T13.lst S (L.filter f).length).map nm = L.filter f∧Keep w0 w':=by
  refine (filter_fn hR hn K).mono ?_
  rintro e w' ⟨v',S,h1,h2,h3,h4⟩
  have e1:L.filter f = ((T13.lst Q n).filter f).map nm:=by
    rw [← hL,List.filter_map]
    exact congrArg (List.map nm) (List.filter_congr fun x _=>hf x)
  have e2:(L.filter f).length = ((T13.lst Q n).filter f).length:=by rw [e1,List.length_map]
  rw [e2]
  exact ⟨v',S,h1,h2,by rw [h3];exact e1.symm,Fr.low k0 h4 fun i hi=>(hR.row.lt i hi).1⟩
theorem sees_on (p:PodV) (nd:Int) (L:List PodV):(L.filter (onB nd)).filter (seesB p nd) = seesL p nd L:=by
  unfold seesL
  rw [List.filter_filter]
  refine List.filter_congr fun x _=>?_
  cases h:seesB p nd x with
  | false=>rfl
  | true =>
    have:=of_decide_eq_true h
    exact decide_eq_true ⟨this.2.2.1,by omega,by omega⟩
section
variable {CS:PredC} {w w1:World} {d q:Nat} {M:List NV} {L:List PodV} {X:Nat→Prop}
set_option maxHeartbeats 4000000 in
theorem rpods_fn (C:Con CS) (h:CS w d q M L X w1) (p:PodV) (nd:Int) (hd:I64 nd) (hl:L.length≤100) :
    Calls Tryz.prog 66 #[.pointer (some ⟨q,0,none⟩),p.val,.int .i64 nd] w1 fun e w'=>∃ v S,e = .returned v∧RowP w' w1.heap.size v (seesL p nd L).length S∧(T13.lst S (seesL p nd L).length).map nm = seesL p nd L∧Keep w1 w':=by
  obtain ⟨W,hW⟩:∃ W,W = (w1.alloc (.cells (podB p) 26)).alloc (.cells #[.int .i64 nd] 3):=⟨_,rfl⟩
  have s0:(w1.alloc (.cells (podB p) 26)).heap.size = w1.heap.size + 1:=World.size_alloc _ _
  have kW:Hid (Keep w1 W):=by rw [hW];exact (Keep.one _ _).alloc _
  have bP:Hid (W.heap[w1.heap.size]? = some (.cells (podB p) 26 (0,0))):=by rw [hW];exact (Keep.one _ _).block (heap_alloc_new _ _)
  have bN:Hid (W.heap[w1.heap.size + 1]? = some (.cells #[.int .i64 nd] 3 (0,0))):=by rw [hW,← s0];exact heap_alloc_new _ _
  have n0:W.cell? ⟨w1.heap.size + 1,0,none⟩ = some (.int .i64 nd):=by rw [cell_of_row W _ _ _ _ _ bN.out];rfl
  have nN:=Lib.hid n0
  have cO:=Lib.hid (C.on nd (C.keep h kW.out) hd hl)
  have cF:Hid (∀ w2 v S,RowP w2 W.heap.size v (L.filter (onB nd)).length S→(T13.lst S (L.filter (onB nd)).length).map nm = L.filter (onB nd)→Keep W w2→Calls Tryz.prog 94 #[v,.func (.func 95) #[] #[.pointer (some ⟨w1.heap.size,0,none⟩),.pointer (some ⟨w1.heap.size + 1,0,none⟩)]] w2 fun e w'=>∃ v' S',e = .returned v'∧RowP w' w1.heap.size v' (seesL p nd L).length S'∧(T13.lst S' (seesL p nd L).length).map nm = seesL p nd L∧Keep w1 w'):=fun w2 v S hR hL k2=>by
    have lw:w1.heap.size + 1 < W.heap.size:=lt_of_block bN.out
    refine (filter_new k2 hR (Nat.le_trans (Nat.le_trans (List.length_filter_le _ _) hl) (by omega)) hL (f:=seesB p nd) (fun _=>rfl) ⟨enters_of Tryz.func95 (by kernel_rfl) rfl,fun W' hW' x _=>?_⟩).mono ?_
    · have off:∀ i,i < W.heap.size→W'.heap[i]? = W.heap[i]?:=fun i hi=>(hW' i (Nat.lt_of_lt_of_le hi k2.size) fun e=>by have:=(hR.row.lt i e).1;omega).trans (Below.block k2 i hi)
      exact pods1_fn p x nd _ _ W' ((off _ (by omega)).trans bP.out) ((World.cell?_of_block (w:=W) (off _ lw)).trans nN.out)
    · rintro e w' ⟨v',S',h1,h2,h3,h4⟩
      rw [sees_on] at h2 h3
      exact ⟨v',S',h1,h2.base kW.out.size,h3,kW.out.trans h4⟩
  clear bP bN nN
  replace s0:=Lib.hid s0
  replace h:=Lib.hid h
  rw [hW] at n0
  unfold podB at hW n0
  unfold PodV.val
  go_enter Tryz.func66,Tryz.ntmps66
  go_wp2_with fail
  rw [← hW]
  replace hW:=Lib.hid hW
  clear n0
  refine cO.out.mono ?_
  rintro e w2 ⟨v,S,rfl,hR,hL,k2⟩
  have cF2:=Lib.hid (cF.out w2 v S hR hL k2)
  clear cF cO hR hL
  replace k2:=Lib.hid k2
  go_wp2_with fail
  refine cF2.out.mono ?_
  rintro e w3 ⟨v',S',rfl,h1,h2,h3⟩
  replace h1:=Lib.hid h1
  replace h2:=Lib.hid h2
  replace h3:=Lib.hid h3
  go_wp2
  go_ret
  exact ⟨v',S',rfl,h1.out,h2.out,h3.out⟩
def ownB (L:List PodV) (id:Int):Bool:=decide ((getL L id).h = 2)
end
end Go.Proofs.YtclfbplbccehkaaGreatDoor.T15

