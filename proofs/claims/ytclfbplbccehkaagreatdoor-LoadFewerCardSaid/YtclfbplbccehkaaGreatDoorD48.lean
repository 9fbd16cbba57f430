/-
  Appends of numbers that can be read to an own row of numbers. No condition, no walk.
  What the law LoadFewer wants of appended rows. No condition, no walk.
  The law of P16.4: a pod that fits without some pods fits without more, and with a smaller request. Condition: errors.errorType holds its own.
-/
import Derived.Test.YtclfbplbccehkaaGreatDoorD22
import Derived.Test.YtclfbplbccehkaaGreatDoorD42
namespace Go.Proofs.YtclfbplbccehkaaGreatDoor.T16
open Go.RowKit Go.Sort Go.Lib V12 T13 T14 T15
theorem Tryz.infoI16:(Tryz.prog.info? 3).map (fun i=>(i.zero,i.size,i.bytes)) = some (some (.int .i64 0),1,8):=by kernel_rfl
theorem rowL_cells (m:Nat) (Z:Nat→Int):∀ u ∈ rowL m Z,u.oneCell' = true:=by
  intro u hu
  unfold rowL at hu
  obtain ⟨j,_,rfl⟩:=List.mem_map.1 hu
  rfl
theorem rowL_get {m:Nat} {Z:Nat→Int} {j:Nat} {u:Value} (h:(rowL m Z)[j]? = some u):j < m∧u = .int .i64 (Z j):=by
  unfold rowL at h
  rw [List.getElem?_map] at h
  by_cases hj:j < m
  · rw [List.getElem?_range hj] at h
    exact ⟨hj,(Option.some.inj h).symm⟩
  · rw [List.getElem?_eq_none (by rw [List.length_range];omega)] at h
    cases h
theorem rowL_len (m:Nat) (Z:Nat→Int):(rowL m Z).length = m:=by unfold rowL;rw [List.length_map,List.length_range]
theorem own_none16 {W:World} {base k:Nat} {e:TypeId} (hb:base≤k) (h:W.heap[k]? = some (.cells #[] e (0,0))):W.ownsRow base e 1 (.slice (some ⟨k,0,none⟩) 0 0) 0 [] :=
  ⟨rfl,.inr ⟨k,0,#[],rfl,hb,h,Nat.le_refl _,Nat.zero_le _,rfl,rfl⟩⟩
section
variable {ops:Array Oper} {rest:List Oper} {o:Oper} {a:Act} {w:World} {Q:Exit→Act→World→Prop} {es e:TypeId}
theorem wpl_rd (hu:Tryz.prog.underlying es = some (.slice e)) (hinfo:(Tryz.prog.info? e).map (fun i=>(i.zero,i.size,i.bytes)) = some (some (.int .i64 0),1,8)) (hgd:o.guard = none) (s x:Operand) (ho:o.op = .call { callee:=.builtin .append,args:=#[s,x],argTypes:=#[es,es] })
    (base:Nat) (v:Value) (n:Nat) (xs:List Value) (hs:a.eval s = v) (hown:w.ownsRow base e 1 v n xs) (B:Option Addr) (m c:Nat) (Z:Nat→Int) (hx:a.eval x = .slice B m c) (hB:Rd w B m Z) (nilB:B = none→m = 0∧c = 0)
    (hlim:n + m≤1048577) (hbase:base≤w.heap.size) (N:Nat) (hN:n + m = N)
    (h:∀ v' w',w'.ownsRow base e 1 v' N (xs ++ rowL m Z)→w.grownBy w' v.ownBlock→wpList Tryz.prog ops Q rest (a.put o.dst v') w'):wpList Tryz.prog ops Q (o :: rest) a w:=by
  subst hN
  obtain ⟨i0,hi0,hz0,hz1,hz2⟩:=info_parts hinfo
  cases B with
  | none =>
    obtain ⟨rfl,rfl⟩:=nilB rfl
    exact wpList_append_own_none hgd s x es ho base e i0 1 hu hi0 v n xs hs hown hx (h v w (by rw [show rowL 0 Z = [] from rfl,List.append_nil];exact hown) ⟨rfl,rfl,rfl,Nat.le_refl _,fun _ _ _=>rfl⟩)
  | some ad =>
    exact wpList_append_own (P:=Tryz.prog) w hgd s x es ho base e i0 _ 1 8 hu hi0 hz0 hz1 hz2 rfl (by decide) v n xs hs hown ad m c (rowL m Z) hx (by rw [Nat.mul_one];exact rowL_len m Z) (fun j u hu=>by
      obtain ⟨hj,rfl⟩:=rowL_get hu
      obtain ⟨b,off,e2,hc⟩:=hB.adr (by omega)
      obtain rfl:=Option.some.inj e2
      rw [WideShapes.add_plain]
      exact hc j hj) (rowL_cells m Z) (by unfold maxLen;omega) (by omega) hbase fun v' w' h2 h3 _=>h v' w' h2 h3
end
theorem own_row {w:World} {base n:Nat} {e:TypeId} {v:Value} {Z:Nat→Int} (h:w.ownsRow base e 1 v n (rowL n Z)) (hn:n≤9223372036854775807) (hz:∀ j,j < n→-9223372036854775808≤Z j∧Z j≤9223372036854775807):∃ A c,v = .slice A n c∧Rd w A n Z∧∀ g o,A = some ⟨g,o,none⟩→base≤g∧o = 0:=by
  obtain ⟨A,c,rfl,h0⟩:=own_form h
  refine ⟨A,c,rfl,⟨hn,hz,fun hp=>?_⟩,fun g o e2=>?_⟩
  · obtain ⟨g,cap,e2,_,_⟩:=h.form hp
    simp only [Value.slice.injEq] at e2
    obtain ⟨rfl,_,rfl⟩:=e2
    refine ⟨g,0,rfl,fun j hj=>?_⟩
    rw [Nat.zero_add]
    have h2:=h.cellAt j (by rw [Nat.mul_one];exact hj)
    rw [h2]
    unfold rowL
    rw [List.getElem?_map,List.getElem?_range hj]
    rfl
  · subst e2
    rcases h.2 with ⟨e3,_⟩ | ⟨g2,cap,cur,e3,hb,_⟩
    · cases e3
    · cases e3
      exact ⟨hb,rfl⟩
theorem rowL_app (n:Nat) (Z:Nat→Int) (z:Int):rowL n Z ++ rowL 1 (fun _=>z) = rowL (n + 1) (fun j=>if j < n then Z j else z):=by
  rw [← rowL_succ n (fun j=>if j < n then Z j else z),if_neg (Nat.lt_irrefl n)]
  congr 1
  unfold rowL
  refine List.map_congr_left fun j hj=>?_
  show Value.int .i64 (Z j) = .int .i64 (if j < n then Z j else z)
  rw [if_pos (List.mem_range.1 hj)]
def IntG (w:World) (g n:Nat) (Z:Nat→Int):Prop:=∃ cur:Array Value,w.heap[g]? = some (.cells cur 2 (0,0))∧∀ j,j < n→cur[j]? = some (.int .i64 (Z j))
section
variable {w:World} {g n:Nat} {Z:Nat→Int}
theorem IntG.cell (h:IntG w g n Z) {j:Nat} (hj:j < n):w.cell? ⟨g,j,none⟩ = some (.int .i64 (Z j)):=by
  obtain ⟨cur,h1,h2⟩:=h
  rw [cell_of_row w g j _ _ _ h1]
  exact h2 j hj
theorem IntG.frozen (h:IntG w g n Z) (j:Nat):w.frozen? ⟨g,j,none⟩ = false:=by
  obtain ⟨cur,h1,_⟩:=h
  simp [World.frozen?,h1]
theorem IntG.same {w':World} (h:IntG w g n Z) (e:w'.heap[g]? = w.heap[g]?):IntG w' g n Z:=by
  obtain ⟨cur,h1,h2⟩:=h
  exact ⟨cur,e.trans h1,h2⟩
theorem IntG.set (h:IntG w g n Z) {i:Nat} (u:Int):IntG (w.setCell ⟨g,i,none⟩ (.int .i64 u)) g n (fun j=>if j = i then u else Z j):=by
  obtain ⟨cur,h1,h2⟩:=h
  refine ⟨_,heap_setCell_same w g i _ _ _ h1,fun j hj=>?_⟩
  have h3:=h2 j hj
  show _ = some (Value.int .i64 (if j = i then u else Z j))
  by_cases e:j = i
  · subst e
    rw [if_pos rfl]
    have:=(Array.getElem?_eq_some_iff.1 h3).1
    simp [this]
  · rw [if_neg e,← h3]
    simp [Ne.symm e]
theorem IntG.rd (h:IntG w g n Z) (hn:n≤9223372036854775807) (hz:∀ j,j < n→-9223372036854775808≤Z j∧Z j≤9223372036854775807):Rd w (some ⟨g,0,none⟩) n Z :=
  ⟨hn,hz,fun _=>⟨g,0,rfl,fun j hj=>by rw [Nat.zero_add];exact h.cell hj⟩⟩
end
theorem own_intg {w:World} {base n:Nat} {A:Option Addr} {c:Nat} {Z:Nat→Int} (h:w.ownsRow base 2 1 (.slice A n c) n (rowL n Z)) (hp:0 < n):∃ g,A = some ⟨g,0,none⟩∧base≤g∧IntG w g n Z:=by
  rcases h.2 with ⟨_,e0⟩ | ⟨g,cap,cur,e2,hb,hh,_,_,_,ht⟩
  · omega
  · cases e2
    refine ⟨g,rfl,hb,cur,hh,fun j hj=>?_⟩
    have h2:(rowL n Z)[j]? = some (.int .i64 (Z j)):=by
      unfold rowL
      rw [List.getElem?_map,List.getElem?_range hj]
      rfl
    rw [← ht,Nat.mul_one,List.getElem?_take_of_lt hj] at h2
    rw [← Array.getElem?_toList]
    exact h2
end Go.Proofs.YtclfbplbccehkaaGreatDoor.T16

namespace Go.Proofs.YtclfbplbccehkaaGreatDoor.T16
open Go.RowKit Go.Sort Go.Lib V12 T13 T14 T15
theorem IntG.lt {w:World} {g n:Nat} {Z:Nat→Int} (h:IntG w g n Z):g < w.heap.size:=by
  obtain ⟨cur,h1,_⟩:=h
  exact lt_of_block h1
theorem IntG.keep {w w':World} {g n:Nat} {Z:Nat→Int} (h:IntG w g n Z) (k:Keep w w'):IntG w' g n Z:=h.same (Below.block k _ h.lt)
theorem IntG.congr {w:World} {g n:Nat} {Z Y:Nat→Int} (h:IntG w g n Z) (e:∀ j,j < n→Z j = Y j):IntG w g n Y:=by
  obtain ⟨cur,h1,h2⟩:=h
  exact ⟨cur,h1,fun j hj=>by rw [← e j hj];exact h2 j hj⟩
theorem app_row {w:World} {base m:Nat} {v:Value} {Z:Nat→Int} (h:w.ownsRow base 2 1 v 2 ([] ++ rowL m Z)) (hm:m = 2):∃ g c,v = .slice (some ⟨g,0,none⟩) 2 c∧IntG w g 2 Z∧base≤g:=by
  subst hm
  rw [List.nil_append] at h
  obtain ⟨A,c,rfl,_⟩:=own_form h
  obtain ⟨g,rfl,h1,h2⟩:=own_intg h (by omega)
  exact ⟨g,c,rfl,h2,h1⟩
theorem few_blk {w7 w8:World} {bq s:Nat} {o:Obj} (h:w7.heap[bq]? = some o) (hb:bq = s) (hg:w7.grownBy w8 (Value.slice (some ⟨s + 1,0,none⟩) 0 0).ownBlock):w8.heap[s]? = some o:=by
  subst hb
  exact (hg.block bq (Array.getElem?_eq_some_iff.1 h).1 (by show some bq≠some (bq + 1);intro e;cases e)).trans h
theorem few_two {wr W10 w11:World} {v:Value} {n:Nat} {Z:Nat→Int} {mo:Int} (k:Keep wr W10) (hb:W10.heap[wr.heap.size]? = some (.cells #[] 3 (0,0))) (hr:w11.ownsRow wr.heap.size 3 1 v n (rowL n Z)) (hg:W10.grownBy w11 (Value.slice (some ⟨wr.heap.size,0,none⟩) 0 0).ownBlock) (hmo:I64 mo) :
    ∃ W12,W12 = w11.alloc (.cells #[.int .i64 mo] 3)∧Hid (Keep wr W12)∧Hid (W12.ownsRow wr.heap.size 3 1 v n (rowL n Z))∧Hid (Rd W12 (some ⟨w11.heap.size,0,none⟩) 1 fun _=>mo)∧Hid (wr.heap.size≤W12.heap.size):=by
  have k11:Keep wr w11:=keep_own k (own_none16 (e:=3) (Nat.le_refl _) hb) (Nat.le_refl _) hg
  have k12:=Keep.one w11 (.cells #[.int .i64 mo] 3)
  refine ⟨_,rfl,k11.trans k12,own_keep hr k12,⟨by omega,fun _ _=>hmo,fun _=>⟨_,0,rfl,fun j hj=>?_⟩⟩,(k11.trans k12).size⟩
  obtain rfl:j = 0:=by omega
  rw [cell_of_row _ _ _ _ _ _ (heap_alloc_new _ _)]
  rfl
theorem few_all {w0 w:World} {base n:Nat} {A:Option Addr} {v:Value} {Z:Nat→Int} {O:Int→Bool} {mo:Int} (hZ:Rd w0 A n Z) (hO:∀ k,O k = true ↔ ∃ j,j < n∧Z j = k) (hn:n≤100) (hmo:I64 mo) (hr:w.ownsRow base 3 1 v (n + 1) (rowL n Z ++ rowL 1 fun _=>mo)):∃ A5 c5,v = .slice A5 (n + 1) c5∧Hid (SetOf w A5 (n + 1) (fun k=>O k || decide (k = mo))):=by
  rw [rowL_app] at hr
  obtain ⟨A5,c5,e,R,_⟩:=own_row hr (by omega) fun j hj=>by
    by_cases h:j < n
    · rw [if_pos h];exact hZ.range j h
    · rw [if_neg h];exact hmo
  refine ⟨A5,c5,e,_,R,fun k=>?_⟩
  rw [Bool.or_eq_true,hO,decide_eq_true_iff]
  constructor
  · rintro (⟨j,hj,e⟩ | e)
    · exact ⟨j,by omega,by rw [if_pos hj];exact e⟩
    · exact ⟨n,by omega,by rw [if_neg (Nat.lt_irrefl n)];exact e.symm⟩
  · rintro ⟨j,hj,e⟩
    by_cases h:j < n
    · rw [if_pos h] at e;exact Or.inl ⟨j,h,e⟩
    · rw [if_neg h] at e;exact Or.inr e.symm
end Go.Proofs.YtclfbplbccehkaaGreatDoor.T16

namespace Go.Proofs.YtclfbplbccehkaaGreatDoor.T16
open Go.RowKit Go.Sort Go.Lib V12 T13 T14 T15
set_option maxRecDepth 100000 in
set_option maxHeartbeats 16000000 in
theorem few_walk {CS:PredC} (C:Con CS) (N:NewXOk CS) (F:ConL CS) (HA:AwOk) (A:Option Addr) (n c:Nat) (Pn:Nat→C14.NdC) (B:Option Addr) (m e:Nat) (Pp:Nat→PlV) (p:PodV) (nd mo:Int) (WA:Option Addr) (wn wc:Nat) (O:Int→Bool) (w:World) (hN:C14.RdC w A n Pn) (hP:RdPl w B m Pp) (hpx:PodIs w p) (hg:ErrT w) (hnd:I64 nd) (hmo:I64 mo) (hS:SetOf w WA wn O) (hwn:wn≤9223372036854775807) (nilW:WA = none→wn = 0∧wc = 0):Calls Tryz.prog 5 #[.slice A n c,.slice B m e,p.val,.int .i64 nd,.slice WA wn wc,.int .i64 mo] w fun e w'=>e = .returned (.bool true)∧Keep w w':=by
  have mixed:Tryz.prog.follows .mixedOrders = true:=by kernel_rfl
  obtain ⟨W0,hW0⟩:∃ W0,W0 = w.alloc (.cells (podB p) 26):=⟨_,rfl⟩
  have K0:Hid (Keep w W0):=by rw [hW0];exact Keep.one _ _
  have BP:Hid (W0.heap[w.heap.size]? = some (.cells (podB p) 26 (0,0))):=by rw [hW0];exact heap_alloc_new _ _
  obtain ⟨bp,hbp⟩:∃ b,b = w.heap.size:=⟨_,rfl⟩
  rw [← hbp] at BP
  have hg0:Hid (ErrT W0):=hg.keep K0.out
  have cB:=Lib.hid (build_fn C N A n c Pn B m e Pp W0 (hN.keep K0.out) (hP.keep K0.out) hg0.out)
  have aw:Hid (∀ W2,Keep W0 W2→Calls Tryz.prog 9 #[] W2 fun e w'=>e = .returned (.bool true)∧Keep W2 w'):=fun W2 k=>HA W2 (hg0.out.keep k)
  have px0:=hpx.keep K0.out
  replace hN:=Lib.hid hN
  replace hP:=Lib.hid hP
  replace hg:=Lib.hid hg
  replace hpx:=Lib.hid hpx
  replace px0:=Lib.hid px0
  unfold podB at hW0
  unfold PodV.val
  go_enter Tryz.func5,Tryz.ntmps5
  go_wp2_with fail
  rw [← hW0,← hbp]
  replace hW0:=Lib.hid hW0
  replace hbp:=Lib.hid hbp
  refine cB.out.mono ?_
  rintro e' w1 ⟨k1,⟨x,rfl⟩ | ⟨q,M,L,X,x,Q,P,rfl,ST,hM,hL⟩⟩
  · obtain ⟨W1,hW1⟩:∃ W1,W1 = w1.alloc (.cells x.arr 31):=⟨_,rfl⟩
    have K1:Hid (Keep W0 W1):=by rw [hW1];exact k1.alloc _
    replace k1:=Lib.hid k1
    have a1:=Lib.hid (aw.out W1 K1.out)
    unfold RcV.arr at hW1
    unfold RcV.val
    go_wp2_with fail
    rw [← hW1]
    replace hW1:=Lib.hid hW1
    refine a1.out.mono ?_
    rintro e' w2 ⟨rfl,k2⟩
    have K2:Hid (Keep W0 w2):=K1.out.trans k2
    replace k2:=Lib.hid k2
    clear a1
    have a2:=Lib.hid (aw.out w2 K2.out)
    go_wp2_with fail
    refine a2.out.mono ?_
    rintro e' w3 ⟨rfl,k3⟩
    replace k3:=Lib.hid k3
    go_wp2
    go_ret
    exact ⟨rfl,K0.out.trans (K2.out.trans k3.out)⟩
  · obtain ⟨W1,hW1⟩:∃ W1,W1 = w1.alloc (.cells x.arr 31):=⟨_,rfl⟩
    have K1:Hid (Keep W0 W1):=by rw [hW1];exact k1.alloc _
    replace k1:=Lib.hid k1
    replace ST:=Lib.hid (ST.keep C (show Keep w1 W1 by rw [hW1];exact Keep.one _ _))
    replace hM:=Lib.hid hM
    replace hL:=Lib.hid hL
    have BX:Hid (W1.heap[w1.heap.size]? = some (.cells x.arr 31 (0,0))):=by rw [hW1];exact heap_alloc_new _ _
    have a1:=Lib.hid (aw.out W1 K1.out)
    unfold RcV.arr at hW1
    unfold RcV.val
    go_wp2_with fail
    rw [← hW1]
    try replace hW1:=Lib.hid hW1
    refine a1.out.mono ?_
    rintro e' w2 ⟨rfl,k2⟩
    have K2:Hid (Keep W0 w2):=K1.out.trans k2
    replace ST:=Lib.hid (ST.out.keep C k2)
    replace BX:Hid (w2.heap[w1.heap.size]? = some (.cells x.arr 31 (0,0))):=Keep.block k2 BX.out
    replace k2:=Lib.hid k2
    obtain ⟨bx,hbx⟩:∃ b,b = w1.heap.size:=⟨_,rfl⟩
    rw [← hbx] at BX ⊢
    replace hbx:=Lib.hid hbx
    clear a1
    have X0:=blk9 (Keep.block K2.out BP.out)
    have x0:=X0.e0;have x1:=X0.e1;have x2:=X0.e2;have x3:=X0.e3;have x4:=X0.e4;have x5:=X0.e5;have x6:=X0.e6;have x7:=X0.e7;have x8:=X0.e8
    clear X0
    obtain ⟨W3,hW3⟩:∃ W3,W3 = w2.alloc (.cells (podB p) 26):=⟨_,rfl⟩
    have B3:Hid (W3.heap[w2.heap.size]? = some (.cells (podB p) 26 (0,0))):=by rw [hW3];exact heap_alloc_new _ _
    have k23:Hid (Keep w2 W3):=by rw [hW3];exact Keep.one _ _
    have K3:Hid (Keep W0 W3):=K2.out.trans k23.out
    replace ST:=Lib.hid (ST.out.keep C k23.out)
    replace BX:Hid (W3.heap[bx]? = some (.cells x.arr 31 (0,0))):=Keep.block k23.out BX.out
    obtain ⟨fb,hfb⟩:=fewx_or p
    have cF:=Lib.hid (rfew_fn (some ⟨w2.heap.size,0,none⟩) 1 1 (fun _=>p) W3 (rd_single B3.out (px0.out.keep K3.out)) fb hfb)
    unfold podB at hW3
    replace hfb:=Lib.hid hfb
    go_wp2_with fail
    rw [← hW3]
    replace hW3:=Lib.hid hW3
    refine cF.out.mono ?_
    rintro e' w4 ⟨rfl,rfl⟩
    clear x0 x1 x2 x3 x4 x5 x6 x7 x8 cF
    cases fb with
    | false =>
      have a2:=Lib.hid (aw.out W3 K3.out)
      go_wp2_with fail
      refine a2.out.mono ?_
      rintro e' w5 ⟨rfl,k5⟩
      replace k5:=Lib.hid k5
      go_wp2
      go_ret
      exact ⟨rfl,K0.out.trans (K3.out.trans k5.out)⟩
    | true =>
      have fx:=Lib.hid (hfb.out.1 rfl)
      have hb:-1073741824≤p.p∧p.p≤1073741824∧p.m≤20:=fx.out.2 0 (by omega)
      have l100:Hid (L.length≤100):=Nat.le_trans hL.out (by omega)
      have m100:Hid (M.length≤100):=Nat.le_trans hM.out (by omega)
      have pm:Hid (p.m≤1000):=Nat.le_trans hb.2.2 (by omega)
      replace hb:=Lib.hid hb
      replace hnd:=Lib.hid hnd
      replace hmo:=Lib.hid hmo
      replace hS:=Lib.hid hS
      replace nilW:=Lib.hid nilW
      by_cases hlen:(100:Int) < (wn:Int)
      · have hlb:decide ((100:Int) < (wn:Int)) = true:=decide_eq_true hlen
        replace hlen:=Lib.hid hlen
        have a2:=Lib.hid (aw.out W3 K3.out)
        go_wp2_with fail
        refine a2.out.mono ?_
        rintro e' w5 ⟨rfl,k5⟩
        replace k5:=Lib.hid k5
        go_wp2
        go_ret
        exact ⟨rfl,K0.out.trans (K3.out.trans k5.out)⟩
      · have hlb:decide ((100:Int) < (wn:Int)) = false:=decide_eq_false hlen
        have hwl:wn≤100:=by omega
        have S3:Hid (∀ Wz,Keep W3 Wz→SetOf Wz WA wn O):=fun Wz kk=>hS.out.keep (K0.out.trans (K3.out.trans kk))
        have c1:=Lib.hid (F.fits p nd WA wn wc O ST.out.o (hg0.out.keep K3.out) (px0.out.keep K3.out) hnd.out (S3.out W3 (Keep.refl _)) (by omega) (by omega) pm.out m100.out l100.out)
        obtain ⟨fb,hfb2⟩:∃ fb,fb = fitsM O p nd M L 2:=⟨_,rfl⟩
        rw [← hfb2] at c1
        replace hlen:=Lib.hid hlen
        replace hfb2:=Lib.hid hfb2
        have X0:=blk9 (Keep.block K3.out BP.out)
        have p0:=X0.e0;have p1:=X0.e1;have p2:=X0.e2;have p3:=X0.e3;have p4:=X0.e4;have p5:=X0.e5;have p6:=X0.e6;have p7:=X0.e7;have p8:=X0.e8
        clear X0
        unfold PodV.val at c1
        go_wp2_with fail
        clear p0 p1 p2 p3 p4 p5 p6 p7 p8
        refine c1.out.mono ?_
        rintro e' w5 ⟨rfl,k5⟩
        have K5:Hid (Keep W3 w5):=k5
        replace k5:=Lib.hid k5
        clear c1
        cases fb with
        | false =>
          have a2:=Lib.hid (aw.out w5 (K3.out.trans K5.out))
          go_wp2_with fail
          refine a2.out.mono ?_
          rintro e' w6 ⟨rfl,k6⟩
          replace k6:=Lib.hid k6
          go_wp2
          go_ret
          exact ⟨rfl,K0.out.trans (K3.out.trans (K5.out.trans k6.out))⟩
        | true =>
          obtain ⟨hnk,hnw,hft⟩:=of_decide_eq_true hfb2.out.symm
          obtain ⟨hpm,hpz0⟩:=wrong_no hnw
          have hpz:Hid (∀ j,j < 2→Amt (p.Z j)):=fun j hj=>hpz0 j (by omega)
          have px5:=Lib.hid (px0.out.keep (K3.out.trans K5.out))
          obtain ⟨bq,hbq⟩:∃ b,b = w5.heap.size:=⟨_,rfl⟩
          obtain ⟨W6,hW6⟩:∃ W,W = w5.alloc (.cells (podB p) 26):=⟨_,rfl⟩
          have s6:W6.heap.size = w5.heap.size + 1:=by rw [hW6,World.size_alloc]
          obtain ⟨W7,hW7⟩:∃ W,W = W6.alloc (.cells #[] 2):=⟨_,rfl⟩
          have s7:W7.heap.size = w5.heap.size + 1 + 1:=by rw [hW7,World.size_alloc,s6]
          have k57:Hid (Keep w5 W7):=by rw [hW7,hW6];exact (Keep.one _ _).alloc _
          have Bq7:Hid (W7.heap[bq]? = some (.cells (podB p) 26 (0,0))):=by show _ = _;rw [hW7,hW6,hbq];exact (Keep.one _ _).block (heap_alloc_new _ _)
          have Be7:Hid (W7.heap[w5.heap.size + 1]? = some (.cells #[] 2 (0,0))):=by show _ = _;rw [hW7,← s6];exact heap_alloc_new _ _
          have Rp7:=Lib.hid ((px5.out.keep k57.out).rd)
          have nilp:=Lib.hid px5.out.nil
          have X0:=blk9 (Keep.block (K3.out.trans K5.out) BP.out)
          have p0:=X0.e0;have p1:=X0.e1;have p2:=X0.e2;have p3:=X0.e3;have p4:=X0.e4;have p5:=X0.e5;have p6:=X0.e6;have p7:=X0.e7;have p8:=X0.e8
          clear X0
          have Y0:=blk9 (Keep.block (K3.out.trans (K5.out.trans (show Keep w5 W6 by rw [hW6];exact Keep.one _ _))) BP.out)
          have y4:=Y0.e4
          clear Y0
          have Z0:=blk9 (Keep.block (K3.out.trans (K5.out.trans k57.out)) BP.out)
          have z4:=Z0.e4
          clear Z0
          rw [hW6] at y4
          rw [hW7,hW6] at z4
          have E7:Hid (W7 = (w5.alloc (.cells (podB p) 26)).alloc (.cells #[] 2)):=by show _ = _;rw [hW7,hW6]
          unfold podB at y4 z4 E7
          replace hW6:=Lib.hid hW6
          replace hW7:=Lib.hid hW7
          replace s6:=Lib.hid s6
          replace s7:=Lib.hid s7
          replace hnw:=Lib.hid hnw
          replace hnk:=Lib.hid hnk
          replace hft:=Lib.hid hft
          replace hpz0:=Lib.hid hpz0
          replace hpm:=Lib.hid hpm
          go_wp2_with (at_builtin;rw [← E7.out];refine wpl_rd Tryz.underlying24 Tryz.infoU14 rfl _ _ rfl (w5.heap.size + 1) (.slice (some ⟨w5.heap.size + 1,0,none⟩) 0 0) 0 [] (by simp [Act.eval]) (own_none16 (Nat.le_refl _) Be7.out) p.A p.m p.c p.Z (by simp [Act.eval]) Rp7.out nilp.out (by have:=hpm.out;omega) (by have:=s7.out;omega) 2 (by have:=hpm.out;omega) ?_;intro v3 w8 hr3 hg3;obtain ⟨gq,c3,rfl,IG8,lgq⟩:=app_row hr3 hpm.out;have Bq8:Hid (w8.heap[w5.heap.size]? = some (.cells (podB p) 26 (0,0))):=few_blk Bq7.out hbq hg3;have K8:Hid (Keep w5 w8):=keep_own k57.out (own_none16 (e:=2) (Nat.le_refl _) Be7.out) (Nat.le_succ _) hg3;have x4:=(blk9 Bq8.out).e4;have xf:=(blk9 Bq8.out).f 4;replace IG8:=Lib.hid IG8;replace hr3:=Lib.hid hr3;replace hg3:=Lib.hid hg3;replace lgq:=Lib.hid lgq)
          clear y4 z4 x4 xf p0 p1 p2 p3 p4 p5 p6 p7 p8
          obtain ⟨W9,hW9⟩:∃ W,W = w8.setCell ⟨w5.heap.size,4,none⟩ (.slice (some ⟨gq,0,none⟩) 2 c3):=⟨_,rfl⟩
          rw [← hW9]
          have K9:Hid (Keep w5 W9):=by rw [hW9];exact K8.out.set (Nat.le_refl _) _
          obtain ⟨z,hz⟩:∃ z:PodV,z = { p with A:=some ⟨gq,0,none⟩,m:=2,c:=c3,Z:=fun j=>p.Z j / 2 }:=⟨_,rfl⟩
          have B9:Hid (W9.heap[w5.heap.size]? = some (.cells (podB z) 26 (0,0))):=by
            show _ = _
            rw [hW9,hz,heap_setCell_same w8 _ 4 _ _ _ Bq8.out]
            rfl
          have IG9:Hid (IntG W9 gq 2 (fun i=>if i < 0 then p.Z i / 2 else p.Z i)):=(IG8.out.same (by
            rw [hW9]
            exact Below.heap_setCell _ _ _ _ (by have:=lgq.out;show gq≠w5.heap.size;omega))).congr fun i _=>by rw [if_neg (Nat.not_lt_zero i)]
          have zA:Hid (z.A = some ⟨gq,0,none⟩∧z.m = 2∧z.c = c3):=by rw [hz];exact ⟨rfl,rfl,rfl⟩
          obtain ⟨bz,hbz⟩:∃ b,b = w5.heap.size:=⟨_,rfl⟩
          rw [← hbz] at B9 lgq ⊢
          replace hbz:=Lib.hid hbz
          replace hW9:=Lib.hid hW9
          replace hz:=Lib.hid hz
          clear Bq8 IG8 hr3 hg3 Bq7 Be7 Rp7 hW6 hW7 E7 s6 s7 k57 K8
          have g9:Hid (w5.heap.size≤bz):=Nat.le_of_eq hbz.out.symm
          generalize hwo:W9 = wo at *
          clear hwo
          go_wp2
          go_loopg [16] 2 (fun gx s16 wr=>∃ j:Nat,j≤2∧gx = 2 - j∧s16 = .int .i64 j∧Hid (Keep w5 wr)∧Hid (wr.heap[bz]? = some (.cells (podB z) 26 (0,0)))∧Hid (IntG wr gq 2 (fun i=>if i < j then p.Z i / 2 else p.Z i)))
          case atStart=>exact ⟨0,Nat.zero_le _,rfl,rfl,K9.out,B9.out,IG9.out⟩
          case round =>
            clear K9 B9 IG9
            obtain ⟨j,hj,rfl,rfl,KR,BR,IR⟩:=hrel
            have x4:=(blk9 BR.out).e4
            rw [zA.out.1,zA.out.2.1,zA.out.2.2] at x4
            by_cases hlt:j < 2
            · have cj:=IR.out.cell hlt
              rw [if_neg (Nat.lt_irrefl j)] at cj
              obtain ⟨u,hu⟩:∃ u,u = p.Z j:=⟨_,rfl⟩
              rw [← hu] at cj
              have ub:0≤u∧u≤1099511627776:=by rw [hu];exact hpz.out j hlt
              replace hu:=Lib.hid hu
              clear cj
              have IR2:Hid (∀ Wz,Keep wr Wz→IntG Wz gq 2 (fun i=>if i < j then p.Z i / 2 else p.Z i)):=fun Wz kk=>IR.out.keep kk
              have CJ:Hid (∀ Wz,Keep wr Wz→Wz.cell? ⟨gq,j,none⟩ = some (.int .i64 u)):=fun Wz kk=>by
                rw [(IR2.out Wz kk).cell hlt,if_neg (Nat.lt_irrefl j),hu.out]
              have CZ:Hid (∀ Wz,Keep wr Wz→Wz.cell? ⟨bz,4,none⟩ = some (.slice (some ⟨gq,0,none⟩) 2 c3)):=fun Wz kk=>by
                have y:=(blk9 (Keep.block kk BR.out)).e4
                rw [zA.out.1,zA.out.2.1,zA.out.2.2] at y
                exact y
              go_upto_region 9 with fail
              clear x4
              have HELD:∀ Wz,Keep wr Wz→(Wz.cell? ⟨bz,4,none⟩ = some (.slice (some ⟨gq,0,none⟩) 2 c3)∧Wz.cell? ⟨gq,j,none⟩ = some (.int .i64 u)):=fun Wz KK=>⟨CZ.out Wz KK,CJ.out Wz KK⟩
              refine OrdS.rest_start (fun w'=>w'.cell? ⟨bz,4,none⟩ = some (.slice (some ⟨gq,0,none⟩) 2 c3)∧w'.cell? ⟨gq,j,none⟩ = some (.int .i64 u)) [10] (by kernel_rfl) ?_ (fun hHeld=>?_)
              · exact HELD _ (Keep.refl wr).drew
              obtain ⟨wt0,hwt0⟩:∃ W,W = wr.drew:=⟨_,rfl⟩
              have Kwt0:Hid (Keep wr wt0):=by rw [hwt0];exact (Keep.refl _).drew
              rw [← hwt0] at hHeld ⊢
              replace hwt0:=Lib.hid hwt0
              refine OrdS.tk (i:=0) (v:=.pointer (some ⟨bz,4,none⟩)) rfl (by kernel_rfl) (fun _ _ _ h=>h) (by rfl) (fun Wz hW=>by obtain ⟨a0,a1⟩:=hW;go_simp) hHeld ?_
              simp only [Act.put,List.getElem_toArray,List.getElem_cons_zero,List.setIfInBounds_toArray,List.set_cons_zero,List.set_cons_succ]
              refine OrdS.tk (i:=1) (v:=.slice (some ⟨gq,0,none⟩) 2 c3) rfl (by kernel_rfl) (fun _ _ _ h=>h) (by rfl) (fun Wz hW=>by obtain ⟨a0,a1⟩:=hW;go_simp) hHeld ?_
              simp only [Act.put,List.getElem_toArray,List.getElem_cons_succ,List.getElem_cons_zero,List.setIfInBounds_toArray,List.set_cons_zero,List.set_cons_succ]
              refine OrdS.tk (i:=2) (v:=.int .i64 j) rfl (by kernel_rfl) (fun _ _ _ h=>h) (by rfl) (fun Wz hW=>by obtain ⟨a0,a1⟩:=hW;go_simp) hHeld ?_
              simp only [Act.put,List.getElem_toArray,List.getElem_cons_succ,List.getElem_cons_zero,List.setIfInBounds_toArray,List.set_cons_zero,List.set_cons_succ]
              refine OrdS.tk (i:=3) (v:=.pointer (some ⟨bz,4,none⟩)) rfl (by kernel_rfl) (fun _ _ _ h=>h) (by rfl) (fun Wz hW=>by obtain ⟨a0,a1⟩:=hW;go_simp) hHeld ?_
              simp only [Act.put,List.getElem_toArray,List.getElem_cons_succ,List.getElem_cons_zero,List.setIfInBounds_toArray,List.set_cons_zero,List.set_cons_succ]
              refine OrdS.tk (i:=4) (v:=.slice (some ⟨gq,0,none⟩) 2 c3) rfl (by kernel_rfl) (fun _ _ _ h=>h) (by rfl) (fun Wz hW=>by obtain ⟨a0,a1⟩:=hW;go_simp) hHeld ?_
              simp only [Act.put,List.getElem_toArray,List.getElem_cons_succ,List.getElem_cons_zero,List.setIfInBounds_toArray,List.set_cons_zero,List.set_cons_succ]
              refine OrdS.tk (i:=5) (v:=.int .i64 j) rfl (by kernel_rfl) (fun _ _ _ h=>h) (by rfl) (fun Wz hW=>by obtain ⟨a0,a1⟩:=hW;go_simp) hHeld ?_
              simp only [Act.put,List.getElem_toArray,List.getElem_cons_succ,List.getElem_cons_zero,List.setIfInBounds_toArray,List.set_cons_zero,List.set_cons_succ]
              refine OrdS.tk (i:=6) (v:=.pointer (some ⟨gq,j,none⟩)) rfl (by kernel_rfl) (fun _ _ _ h=>h) (by rfl) (fun Wz hW=>by obtain ⟨a0,a1⟩:=hW;go_simp) hHeld ?_
              simp only [Act.put,List.getElem_toArray,List.getElem_cons_succ,List.getElem_cons_zero,List.setIfInBounds_toArray,List.set_cons_zero,List.set_cons_succ]
              refine OrdS.tk (i:=7) (v:=.int .i64 u) rfl (by kernel_rfl) (fun _ _ _ h=>h) (by rfl) (fun Wz hW=>by obtain ⟨a0,a1⟩:=hW;go_simp) hHeld ?_
              simp only [Act.put,List.getElem_toArray,List.getElem_cons_succ,List.getElem_cons_zero,List.setIfInBounds_toArray,List.set_cons_zero,List.set_cons_succ]
              refine OrdS.tk (i:=8) (v:=.int .i64 (u / 2)) rfl (by kernel_rfl) (fun _ _ _ h=>h) (by rfl) (fun Wz hW=>by obtain ⟨a0,a1⟩:=hW;go_simp;exact IntWalk.i64_quo u 2 ⟨by omega,by omega,by omega⟩) hHeld ?_
              simp only [Act.put,List.getElem_toArray,List.getElem_cons_succ,List.getElem_cons_zero,List.setIfInBounds_toArray,List.set_cons_zero,List.set_cons_succ]
              refine OrdS.tk (i:=9) (v:=.pointer (some ⟨gq,j,none⟩)) rfl (by kernel_rfl) (fun _ _ _ h=>h) (by rfl) (fun Wz hW=>by obtain ⟨a0,a1⟩:=hW;go_simp) hHeld ?_
              simp only [Act.put,List.getElem_toArray,List.getElem_cons_succ,List.getElem_cons_zero,List.setIfInBounds_toArray,List.set_cons_zero,List.set_cons_succ]
              refine OrdS.rest_ready (rs:=[10]) (by kernel_rfl) (by simp) ?_
              refine OrdS.Each.cons rfl (fun K hK=>?_) OrdS.Each.nil
              simp only [List.getElem_toArray,List.getElem_cons_succ,List.getElem_cons_zero]
              rw [if_pos (by rfl)]
              have g2:=CJ.out _ Kwt0.out
              have gf:=(IR2.out _ Kwt0.out).frozen j
              go_simp
              refine hK.out _ _ (fun e=>absurd (by simp) e) ?_
              clear hK K
              refine OrdS.rest_done (by kernel_rfl) ?_ _
              have IN:Hid (IntG (wt0.setCell ⟨gq,j,none⟩ (.int .i64 (u / 2))) gq 2 (fun i=>if i < j + 1 then p.Z i / 2 else p.Z i)):=((IR2.out _ Kwt0.out).set (u / 2)).congr fun i hi=>by
                by_cases e:i = j
                · rw [if_pos e,if_pos (by omega),e,hu.out]
                · rw [if_neg e]
                  by_cases e2:i < j
                  · rw [if_pos e2,if_pos (by omega)]
                  · rw [if_neg e2,if_neg (by omega)]
              have KN:Hid (Keep w5 (wt0.setCell ⟨gq,j,none⟩ (.int .i64 (u / 2)))):=(KR.out.trans Kwt0.out).set (by have:=lgq.out;have:=g9.out;show _≤gq;omega) _
              have BN:Hid ((wt0.setCell ⟨gq,j,none⟩ (.int .i64 (u / 2))).heap[bz]? = some (.cells (podB z) 26 (0,0))):=(Below.heap_setCell _ _ _ _ (by have:=lgq.out;show bz≠gq;omega)).trans (Keep.block Kwt0.out BR.out)
              clear IR2 CJ CZ hHeld HELD
              go_wp2
              go_roundg (2 - (j + 1))
              case measure=>omega
              case rel=>exact ⟨j + 1,hlt,rfl,by go_num,KN.out,BN.out,IN.out⟩
            · obtain rfl:j = 2:=by omega
              have hj:Hid (2≤2):=Nat.le_refl _
              obtain ⟨OZ,hOZ,hOk⟩:=S3.out wr (K5.out.trans KR.out)
              obtain ⟨W10,hW10⟩:∃ W,W = wr.alloc (.cells #[] 3):=⟨_,rfl⟩
              have k10:Hid (Keep wr W10):=by rw [hW10];exact Keep.one _ _
              have Be10:Hid (W10.heap[wr.heap.size]? = some (.cells #[] 3 (0,0))):=by show _ = _;rw [hW10];exact heap_alloc_new _ _
              have s10:Hid (wr.heap.size≤W10.heap.size):=k10.out.size
              have hO10:=Lib.hid (hOZ.keep k10.out)
              have R1:Hid (∀ (w11:World) (v:Value),w11.ownsRow wr.heap.size 3 1 v wn (rowL wn OZ)→W10.grownBy w11 (Value.slice (some ⟨wr.heap.size,0,none⟩) 0 0).ownBlock→∃ W12,W12 = w11.alloc (.cells #[.int .i64 mo] 3)∧Hid (Keep wr W12)∧Hid (W12.ownsRow wr.heap.size 3 1 v wn (rowL wn OZ))∧Hid (Rd W12 (some ⟨w11.heap.size,0,none⟩) 1 fun _=>mo)∧Hid (wr.heap.size≤W12.heap.size)):=fun w11 v hr hg=>few_two k10.out Be10.out hr hg hmo.out
              have AL:Hid (∀ (w13:World) (v:Value),w13.ownsRow wr.heap.size 3 1 v (wn + 1) (rowL wn OZ ++ rowL 1 fun _=>mo)→∃ A5 c5,v = .slice A5 (wn + 1) c5∧Hid (SetOf w13 A5 (wn + 1) (fun k=>O k || decide (k = mo)))):=fun w13 v hr=>few_all hOZ hOk hwl hmo.out hr
              replace hOZ:=Lib.hid hOZ
              replace hOk:=Lib.hid hOk
              have eqT:Hid (fitsM (fun k=>O k || decide (k = mo)) p nd M L 2 = true):=fits_le (fun k hk=>load_le (fun k h=>by show (O k || _) = true;rw [h];rfl) (fun y h=>h) ((C.ok ST.out.o).amtL hk)) (fun _=>⟨(by have:=hnw.out;omega),fun _ _=>Int.le_refl _⟩) hfb2.out.symm
              have eqU:Hid (fitsM O z nd M L 2 = true):=fits_le (fun k hk=>load_le (fun k h=>h) (fun y h=>sees_hi (q:=z) (p:=p) (by rw [hz.out]) (by rw [hz.out];exact Int.le_refl _) h) ((C.ok ST.out.o).amtL hk)) (fun _=>by
                rw [hz.out]
                refine ⟨?_,fun k hk=>?_⟩
                · show ¬ 0≤wrongOf 2 (fun j=>p.Z j / 2) 2
                  rw [wrongOf_ok fun j hj=>?_,if_pos (by rfl)]
                  · omega
                  · have:=hpz.out j hj
                    unfold Amt at this
                    unfold badAmt
                    exact decide_eq_false (by show ¬ (p.Z j / 2 < 0∨_ < p.Z j / 2);omega)
                · have:=hpz.out k hk
                  unfold Amt at this
                  show p.Z k / 2≤p.Z k
                  omega) hfb2.out.symm
              have ZI:Hid (∀ Wz,Keep wr Wz→PodIs Wz z):=fun Wz kk=>by
                have h:=(IR.out.keep kk).rd (by omega) fun i hi=>by
                  have:=hpz.out i hi
                  unfold Amt at this
                  rw [if_pos hi]
                  omega
                refine ⟨?_,fun e=>?_,?_⟩
                · rw [hz.out]
                  exact ⟨h.small,fun i hi=>by
                    have:=h.range i hi
                    rw [if_pos hi] at this
                    exact this,fun hp=>by
                    obtain ⟨b,o,e,hc⟩:=h.adr hp
                    exact ⟨b,o,e,fun i hi=>by
                      have:=hc i hi
                      rw [if_pos hi] at this
                      exact this⟩⟩
                · rw [zA.out.1] at e;cases e
                · rw [hz.out];exact px0.out.rng
              have KW:Hid (∀ Wz,Keep wr Wz→Keep W0 Wz):=fun Wz kk=>K3.out.trans (K5.out.trans (KR.out.trans kk))
              have cP:Hid (∀ Wz A5 c5,Keep wr Wz→SetOf Wz A5 (wn + 1) (fun k=>O k || decide (k = mo))→Calls Tryz.prog 14 #[.pointer (some ⟨q,0,none⟩),p.val,.int .i64 nd,.slice A5 (wn + 1) c5] Wz fun e w'=>e = .returned (.bool true)∧Keep Wz w'):=fun Wz A5 c5 kk hs=>by
                rw [← eqT.out]
                exact F.fits p nd A5 (wn + 1) c5 _ (C.keep ST.out.o (K5.out.trans (KR.out.trans kk))) (hg0.out.keep (KW.out Wz kk)) (px0.out.keep (KW.out Wz kk)) hnd.out hs (by omega) (by omega) pm.out m100.out l100.out
              have cZ:Hid (∀ Wz,Keep wr Wz→Calls Tryz.prog 14 #[.pointer (some ⟨q,0,none⟩),z.val,.int .i64 nd,.slice WA wn wc] Wz fun e w'=>e = .returned (.bool true)∧Keep Wz w'):=fun Wz kk=>by
                rw [← eqU.out]
                exact F.fits z nd WA wn wc O (C.keep ST.out.o (K5.out.trans (KR.out.trans kk))) (hg0.out.keep (KW.out Wz kk)) (ZI.out Wz kk) hnd.out (S3.out Wz (K5.out.trans (KR.out.trans kk))) (by omega) (by omega) (by rw [zA.out.2.1];omega) m100.out l100.out
              unfold PodV.val at cP cZ
              go_wp2_with (first | (at_builtin;rw [← hW10];refine wpl_rd Tryz.underlying27 Tryz.infoI16 rfl _ _ rfl wr.heap.size (.slice (some ⟨wr.heap.size,0,none⟩) 0 0) 0 [] (by simp [Act.eval]) (own_none16 (Nat.le_refl _) Be10.out) WA wn wc OZ (by simp [Act.eval]) hO10.out nilW.out (by omega) s10.out wn (by omega) ?_;intro v4 w11 hr4 hg4;rw [List.nil_append] at hr4;obtain ⟨A4,c4,rfl,_⟩:=own_form hr4;obtain ⟨W12,hW12,K12,O12,M12,s12⟩:=R1.out w11 _ hr4 hg4;replace hr4:=Lib.hid hr4;replace hg4:=Lib.hid hg4) | (at_builtin;rw [← hW12];refine wpl_rd Tryz.underlying27 Tryz.infoI16 rfl _ _ rfl wr.heap.size (.slice A4 wn c4) wn (rowL wn OZ) (by simp [Act.eval]) O12.out (some ⟨w11.heap.size,0,none⟩) 1 1 (fun _=>mo) (by simp [Act.eval]) M12.out (fun e=>by cases e) (by omega) s12.out (wn + 1) rfl ?_;intro v5 w13 hr5 hg5;obtain ⟨A5,c5,rfl,SA⟩:=AL.out w13 _ hr5;have K13:Hid (Keep wr w13):=keep_own K12.out O12.out (Nat.le_refl _) hg5;replace hr5:=Lib.hid hr5;replace hg5:=Lib.hid hg5;have X0:=blk9 (Keep.block (K3.out.trans (K5.out.trans (KR.out.trans K13.out))) BP.out);have p0:=X0.e0;have p1:=X0.e1;have p2:=X0.e2;have p3:=X0.e3;have p4:=X0.e4;have p5:=X0.e5;have p6:=X0.e6;have p7:=X0.e7;have p8:=X0.e8;clear X0))
              replace hW10:=Lib.hid hW10
              replace hW12:=Lib.hid hW12
              clear p0 p1 p2 p3 p4 p5 p6 p7 p8 x4
              have c6:=Lib.hid (cP.out w13 A5 c5 K13.out SA.out)
              refine c6.out.mono ?_
              rintro e' w14 ⟨rfl,k14⟩
              have K14:Hid (Keep wr w14):=K13.out.trans k14
              replace k14:=Lib.hid k14
              clear c6
              have X0:=blk9 (Keep.block K14.out BR.out)
              have z0:=X0.e0;have z1:=X0.e1;have z2:=X0.e2;have z3:=X0.e3;have z4:=X0.e4;have z5:=X0.e5;have z6:=X0.e6;have z7:=X0.e7;have z8:=X0.e8
              clear X0
              have c7:=Lib.hid (cZ.out w14 K14.out)
              go_wp2_with fail
              clear z0 z1 z2 z3 z4 z5 z6 z7 z8
              refine c7.out.mono ?_
              rintro e' w15 ⟨rfl,k15⟩
              replace k15:=Lib.hid k15
              go_wp2
              go_ret
              exact ⟨rfl,K0.out.trans (K3.out.trans (K5.out.trans (KR.out.trans (K14.out.trans k15.out))))⟩
end Go.Proofs.YtclfbplbccehkaaGreatDoor.T16

