/-
  A copy of a pod. Condition: at most 1048576 amounts.
  The store: New, index, Get, Len. Conditions: at most 1000 pods, each with at most 1000 amounts.
  The store's iterator: it yields the pods that a function keeps, in their order. No condition.
  The store's filters and what its lists begin with. No condition.
-/
import Derived.Test.YtnclkefddkgojaaGreatDoorB4
import Derived.Test.YtnclkefddkgojaaGreatDoorB34
import Derived.RangeFuncNested
import Derived.RangeFuncBound
import Derived.RangeFuncCalls
import Derived.RangeFuncLeaves
import Derived.RangeFuncBox
import Derived.RangeFuncFrom
import Derived.Shelf.Abstract
import Derived.Shelf.AbstractIn
import Derived.Shelf.RegionOpen
import Derived.WalkKit
import Derived.OwnWalkIn
import Derived.TacticsInMore
import Derived.LoopNIn
import Derived.LoopIn
import Derived.RegionIn
namespace Go.Proofs.YtnclkefddkgojaaGreatDoor.T13
open Go.RowKit Go.Sort Go.Lib V12
theorem Tryz.infoC13:(Tryz.prog.info? 2).map (fun i=>(i.zero,i.size,i.bytes)) = some (some (.int .i64 0),1,8):=by kernel_rfl
theorem Tryz.eqNilC (w:World):(binOp .eql 33 (.slice none 0 0) (.slice none 0 0)).run Tryz.prog w = .ok (.bool true) w:=by kernel_rfl
theorem Tryz.eqSomeC (a:Addr) (n c:Nat) (w:World):(binOp .eql 33 (.slice (some a) n c) (.slice none 0 0)).run Tryz.prog w = .ok (.bool false) w:=by kernel_rfl
set_option maxHeartbeats 1000000 in
theorem sclone_own (A:Option Addr) (n c:Nat) (Z:Nat→Int) (w:World) (hA:Rd w A n Z) (h0:A = none→n = 0∧c = 0) (hn:n≤1048576) :
    Calls Tryz.prog 101 #[.slice A n c] w fun e w'=>∃ A' cap,e = .returned (.slice A' n cap)∧Keep w w'∧w'.ownsRow w.heap.size 2 1 (.slice A' n cap) n (rowL n Z):=by
  cases A with
  | none =>
    obtain ⟨rfl,rfl⟩:=h0 rfl
    clear h0 hA
    have q1:=Tryz.eqNilC
    go_enter Tryz.func101,Tryz.ntmps101
    go_wp2
    go_ret
    exact ⟨none,0,rfl,Keep.refl _,World.ownsRow_nil _ _ _ _⟩
  | some a =>
    clear h0
    obtain ⟨i0,hi0,hz0,hz1,hz2⟩:=info_parts Tryz.infoC13
    have hnew:=news_of (hA.keep (Keep.one w (.cells #[] 2)))
    replace hnew:=Lib.hid hnew
    have hown:=World.ownsRow_made (base:=w.heap.size) (e:=2) (size:=1) w #[] 0 (Nat.le_refl _) (Nat.zero_le _) rfl
    clear hA
    have q1:=Tryz.eqSomeC
    go_enter Tryz.func101,Tryz.ntmps101
    go_wp2_with (at_builtin;refine wpList_append_own _ rfl _ _ 33 rfl w.heap.size 2 i0 (.int .i64 0) 1 8 Tryz.underlying33 hi0 hz0 hz1 hz2 rfl (by decide) _ _ _ rfl hown a n c (rowL n Z) rfl (by simp [rowL]) hnew.out (rowL_one n Z) (by unfold maxLen;omega) (by omega) (by simp) ?_;intro v' w2 hown2 hgrow hnil)
    go_ret
    obtain ⟨A',cap,rfl,_⟩:=own_form hown2
    simp only [Nat.zero_add,List.nil_append] at hown2
    exact ⟨A',cap,by simp,keep_grown (Keep.one w _) hgrow (fun q hq=>(hown.lt q hq).1),hown2⟩
set_option maxRecDepth 100000 in
set_option maxHeartbeats 4000000 in
theorem pclone0 (x:PodV) (w:World) (hx:PodIs w x) (hm:x.m≤1048576) :
    Calls Tryz.prog 77 #[x.val] w fun e w'=>∃ A c,e = .returned (x.at A c).val∧Keep w w'∧PodIs w' (x.at A c)∧w'.ownsRow w.heap.size 2 1 (.slice A x.m c) x.m (rowL x.m x.Z):=by
  have hx:=Lib.hid hx
  have hm:=Lib.hid hm
  unfold PodV.val PodV.at
  go_enter Tryz.func77,Tryz.ntmps77
  go_wp2_with fail
  refine (sclone_own x.A x.m x.c x.Z _ (hx.out.rd.keep ?_) hx.out.nil hm.out).mono ?_
  · repeat (first | exact Keep.refl _ | apply Keep.alloc)
  rintro e w1 ⟨A',cap,rfl,k1,hown⟩
  obtain ⟨W,hW⟩:∃ W,W = (w.alloc (.cells #[.int .i64 x.k,.int .i64 x.p,.bool x.f,.int .i64 x.g,.slice x.A x.m x.c,.int .i64 x.a,.int .i64 x.h,.int .i64 x.d,.int .i64 x.t] 35)).alloc (.cells #[.int .i64 0,.int .i64 0,.bool false,.int .i64 0,.slice none 0 0,.int .i64 0,.int .i64 0,.int .i64 0,.int .i64 0] 35):=⟨_,rfl⟩
  rw [← hW] at k1 hown
  have hsz:W.heap.size = w.heap.size + 1 + 1:=by rw [hW,World.size_alloc,World.size_alloc]
  have hb1:W.heap[w.heap.size]? = some (.cells #[.int .i64 x.k,.int .i64 x.p,.bool x.f,.int .i64 x.g,.slice x.A x.m x.c,.int .i64 x.a,.int .i64 x.h,.int .i64 x.d,.int .i64 x.t] 35 (0,0)):=by
    rw [hW];exact (Keep.one _ _).block (heap_alloc_new w _)
  have hb2:W.heap[w.heap.size + 1]? = some (.cells #[.int .i64 0,.int .i64 0,.bool false,.int .i64 0,.slice none 0 0,.int .i64 0,.int .i64 0,.int .i64 0,.int .i64 0] 35 (0,0)):=by
    rw [hW,← World.size_alloc w (.cells #[.int .i64 x.k,.int .i64 x.p,.bool x.f,.int .i64 x.g,.slice x.A x.m x.c,.int .i64 x.a,.int .i64 x.h,.int .i64 x.d,.int .i64 x.t] 35)];exact heap_alloc_new _ _
  have K1:Hid (Keep w w1):=by
    refine Keep.trans ?_ k1
    rw [hW]
    exact ((Keep.refl w).alloc _).alloc _
  replace hb1:=k1.block hb1
  replace hb2:=k1.block hb2
  have lt1:w.heap.size + 1 + 1≤w1.heap.size:=by rw [← hsz];exact k1.size
  rw [hsz] at hown
  replace hown:=Lib.hid hown
  clear k1 hW hsz
  have p0:w1.cell? ⟨w.heap.size,0,none⟩ = some (.int .i64 x.k):=by rw [cell_of_row w1 _ _ _ _ _ hb1];rfl
  have p1:w1.cell? ⟨w.heap.size,1,none⟩ = some (.int .i64 x.p):=by rw [cell_of_row w1 _ _ _ _ _ hb1];rfl
  have p2:w1.cell? ⟨w.heap.size,2,none⟩ = some (.bool x.f):=by rw [cell_of_row w1 _ _ _ _ _ hb1];rfl
  have p3:w1.cell? ⟨w.heap.size,3,none⟩ = some (.int .i64 x.g):=by rw [cell_of_row w1 _ _ _ _ _ hb1];rfl
  have p4:w1.cell? ⟨w.heap.size,4,none⟩ = some (.slice x.A x.m x.c):=by rw [cell_of_row w1 _ _ _ _ _ hb1];rfl
  have p5:w1.cell? ⟨w.heap.size,5,none⟩ = some (.int .i64 x.a):=by rw [cell_of_row w1 _ _ _ _ _ hb1];rfl
  have p6:w1.cell? ⟨w.heap.size,6,none⟩ = some (.int .i64 x.h):=by rw [cell_of_row w1 _ _ _ _ _ hb1];rfl
  have p7:w1.cell? ⟨w.heap.size,7,none⟩ = some (.int .i64 x.d):=by rw [cell_of_row w1 _ _ _ _ _ hb1];rfl
  have p8:w1.cell? ⟨w.heap.size,8,none⟩ = some (.int .i64 x.t):=by rw [cell_of_row w1 _ _ _ _ _ hb1];rfl
  have f4:w1.frozen? ⟨w.heap.size,4,none⟩ = false:=frozen_of_row w1 _ _ _ _ hb1
  have r0:w1.cell? ⟨w.heap.size + 1,0,none⟩ = some (.int .i64 0):=by rw [cell_of_row w1 _ _ _ _ _ hb2];rfl
  have r1:w1.cell? ⟨w.heap.size + 1,1,none⟩ = some (.int .i64 0):=by rw [cell_of_row w1 _ _ _ _ _ hb2];rfl
  have r2:w1.cell? ⟨w.heap.size + 1,2,none⟩ = some (.bool false):=by rw [cell_of_row w1 _ _ _ _ _ hb2];rfl
  have r3:w1.cell? ⟨w.heap.size + 1,3,none⟩ = some (.int .i64 0):=by rw [cell_of_row w1 _ _ _ _ _ hb2];rfl
  have r4:w1.cell? ⟨w.heap.size + 1,4,none⟩ = some (.slice none 0 0):=by rw [cell_of_row w1 _ _ _ _ _ hb2];rfl
  have r5:w1.cell? ⟨w.heap.size + 1,5,none⟩ = some (.int .i64 0):=by rw [cell_of_row w1 _ _ _ _ _ hb2];rfl
  have r6:w1.cell? ⟨w.heap.size + 1,6,none⟩ = some (.int .i64 0):=by rw [cell_of_row w1 _ _ _ _ _ hb2];rfl
  have r7:w1.cell? ⟨w.heap.size + 1,7,none⟩ = some (.int .i64 0):=by rw [cell_of_row w1 _ _ _ _ _ hb2];rfl
  have r8:w1.cell? ⟨w.heap.size + 1,8,none⟩ = some (.int .i64 0):=by rw [cell_of_row w1 _ _ _ _ _ hb2];rfl
  have g0:w1.frozen? ⟨w.heap.size + 1,0,none⟩ = false:=frozen_of_row w1 _ _ _ _ hb2
  have g1:w1.frozen? ⟨w.heap.size + 1,1,none⟩ = false:=frozen_of_row w1 _ _ _ _ hb2
  have g2:w1.frozen? ⟨w.heap.size + 1,2,none⟩ = false:=frozen_of_row w1 _ _ _ _ hb2
  have g3:w1.frozen? ⟨w.heap.size + 1,3,none⟩ = false:=frozen_of_row w1 _ _ _ _ hb2
  have g4:w1.frozen? ⟨w.heap.size + 1,4,none⟩ = false:=frozen_of_row w1 _ _ _ _ hb2
  have g5:w1.frozen? ⟨w.heap.size + 1,5,none⟩ = false:=frozen_of_row w1 _ _ _ _ hb2
  have g6:w1.frozen? ⟨w.heap.size + 1,6,none⟩ = false:=frozen_of_row w1 _ _ _ _ hb2
  have g7:w1.frozen? ⟨w.heap.size + 1,7,none⟩ = false:=frozen_of_row w1 _ _ _ _ hb2
  have g8:w1.frozen? ⟨w.heap.size + 1,8,none⟩ = false:=frozen_of_row w1 _ _ _ _ hb2
  clear hb1 hb2
  replace lt1:=Lib.hid lt1
  go_wp2
  refine bodyPost_ret (v:=.agg #[.int .i64 x.k,.int .i64 x.p,.bool x.f,.int .i64 x.g,.slice A' x.m cap,.int .i64 x.a,.int .i64 x.h,.int .i64 x.d,.int .i64 x.t]) (by simp [results,Tryz.results77,go_sem, *]) rfl ⟨A',cap,rfl,?_,?_⟩
  · have K1:=K1.out
    repeat (refine Keep.set ?_ (by simp) _)
    exact K1
  · have kk:Hid (w.heap.size + 1 + 1≤w1.heap.size):=lt1
    have own2:=hown.out
    have nil2:A' = none→x.m = 0∧cap = 0:=fun h=>by
      obtain ⟨B,c2,e,h0⟩:=own_form own2
      simp only [Value.slice.injEq] at e
      obtain ⟨rfl,_,rfl⟩:=e
      exact h0 h
    refine (fun own3=>⟨⟨rd_own (cap:=cap) own3 hx.out.rd.small hx.out.rd.range,nil2,hx.out.rng⟩,own_base own3 (by omega)⟩) (?_:World.ownsRow _ (w.heap.size + 1 + 1) 2 1 (.slice A' x.m cap) x.m (rowL x.m x.Z))
    repeat (refine ownsRow_setCell_below ?_ (by first | omega | (simp;omega) | simp) _)
    exact own2
theorem pclone_fn (x:PodV) (w:World) (hx:PodIs w x) (hm:x.m≤1000) :
    Calls Tryz.prog 77 #[x.val] w fun e w'=>∃ A c,e = .returned (x.at A c).val∧Req w' w.heap.size (x.at A c)∧PodOk (x.at A c)∧PodIs w' (x.at A c)∧Keep w w' :=
  (pclone0 x w hx (by omega)).mono fun _ _ ⟨A,c,he,k,i,o⟩=>⟨A,c,he,o,i.ok,i,k⟩
end Go.Proofs.YtnclkefddkgojaaGreatDoor.T13

namespace Go.Proofs.YtnclkefddkgojaaGreatDoor.T13
open Go.RowKit Go.Sort Go.Lib V12
theorem own_base' {w:World} {b b':Nat} {x:PodV} (h:Req w b x) (hb:b'≤b):Req w b' x:=own_base h hb
set_option maxRecDepth 100000 in
set_option maxHeartbeats 1000000 in
theorem pdnew0 (s:Int) (w:World) (hs:I64 s):Calls Tryz.prog 32 #[.int .i64 s] w fun e w'=>∃ q t m,e = .returned (.pointer (some ⟨q,0,none⟩))∧ST w' w.heap.size s q t m none 0 0 (fun _=>zpod)∧Keep w w':=by
  have hN:=Lib.hid (tbnew_fn s hs w)
  go_enter Tryz.func32,Tryz.ntmps32
  go_wp2_with fail
  refine hN.out.mono ?_
  rintro e w1 ⟨t,rfl,m,T,k,h1,h2⟩
  replace T:=Lib.hid T
  replace k:=Lib.hid k
  have h1:=Lib.hid h1
  have h2:=Lib.hid h2
  go_wp2
  go_ret
  have k2:=Keep.one w1 (.cells #[.slice none 0 0,.pointer (some ⟨t,0,none⟩)] 118)
  exact ⟨_,t,m,rfl,⟨heap_alloc_new _ _,T.out.keep k2,RowP.nil _ _ _,k.out.size,h1.out,h2.out,LOk.nil⟩,k.out.trans k2⟩
section
variable {w w':World} {b0:Nat} {s:Int} {q t m:Nat} {A:Option Addr} {c n:Nat} {P:Nat→PodV}
set_option maxHeartbeats 1000000 in
theorem pdindex_in (h:ST w b0 s q t m A c n P) {j:Nat} (hj:j < n):Calls Tryz.prog 76 #[.pointer (some ⟨q,0,none⟩),.int .i64 (P j).k] w fun e w'=>e = .returned (.tuple #[.int .i64 j,.bool true])∧w = w':=by
  have hG:=Lib.hid (tbget_some h.tb (P j).k j (h.look_in hj))
  have c1:=h.c1
  clear h
  generalize (P j).k = id at *
  go_enter Tryz.func76,Tryz.ntmps76
  go_wp2_with (go_at_call 100;refine hG.out.mono ?_;rintro e w' ⟨rfl,rfl⟩)
  go_ret2
  exact ⟨rfl,rfl⟩
set_option maxHeartbeats 1000000 in
theorem pdindex_out (h:ST w b0 s q t m A c n P) {id:Int} (hk:id ∉ keys (lst P n)):Calls Tryz.prog 76 #[.pointer (some ⟨q,0,none⟩),.int .i64 id] w fun e w'=>e = .returned (.tuple #[.int .i64 0,.bool false])∧w = w':=by
  have hG:=Lib.hid (tbget_none h.tb id (look_out hk))
  have c1:=h.c1
  clear h hk
  go_enter Tryz.func76,Tryz.ntmps76
  go_wp2_with (go_at_call 100;refine hG.out.mono ?_;rintro e w' ⟨rfl,rfl⟩)
  go_ret2
  exact ⟨rfl,rfl⟩
theorem ST.at (h:ST w b0 s q t m A c n P) {j:Nat} (hj:j < n):∃ g,A = some ⟨g,0,none⟩∧Cel9 w g (0 + j * 9) (P j)∧Typ w g 35∧(Value.slice A n c).ownBlock = some g:=by
  obtain ⟨g,cap,e,_,_⟩:=h.rp.row.form (by omega)
  simp only [Value.slice.injEq] at e
  obtain ⟨rfl,_,rfl⟩:=e
  exact ⟨g,rfl,row_cel h.rp.row hj,h.tg rfl,rfl⟩
theorem ST.pod (h:ST w b0 s q t m A c n P) {j:Nat} (hj:j < n):PodIs w (P j):=(h.rp.own j hj).is (h.rp.ok j hj)
set_option maxRecDepth 100000 in
set_option maxHeartbeats 4000000 in
theorem pdget_in (h:ST w b0 s q t m A c n P) {j:Nat} (hj:j < n) (hm:(P j).m≤1000):Calls Tryz.prog 48 #[.pointer (some ⟨q,0,none⟩),.int .i64 (P j).k] w fun e w'=>∃ B d,e = .returned (.tuple #[((P j).at B d).val,.bool true])∧Req w' w.heap.size ((P j).at B d)∧PodOk ((P j).at B d)∧Keep w w':=by
  obtain ⟨W,hW⟩:∃ W,W = w.alloc (.cells (podB zpod) 35):=⟨_,rfl⟩
  have KW:Hid (Keep w W):=by rw [hW];exact Keep.one _ _
  obtain ⟨b,hb⟩:∃ b,b = w.heap.size:=⟨_,rfl⟩
  have Y:Hid (W.heap[b]? = some (.cells (podB zpod) 35 (0,0))):=by rw [hW,hb];exact heap_alloc_new _ _
  have hsz:Hid (W.heap.size = b + 1):=by show _ = _;rw [hW,World.size_alloc,hb]
  have h1:=h.keep KW.out
  have hF:=Lib.hid (pdindex_in h1 hj)
  have cC:=pclone_fn (P j) W (h1.pod hj) hm
  have c0:=h1.c0
  obtain ⟨g,hA,X,_,_⟩:=h1.at hj
  subst hA
  have q1:=pods_at g 0 n c j hj
  obtain ⟨x,hx⟩:∃ x,x = P j:=⟨_,rfl⟩
  rw [← hx] at hF cC X ⊢
  obtain ⟨x0,x1,x2,x3,x4,x5,x6,x7,x8⟩:=X
  rw [Nat.zero_add] at x0 x1 x2 x3 x4 x5 x6 x7 x8 q1
  replace hx:=Lib.hid hx
  have hbw:Hid (w.heap.size≤b):=by show _≤_;omega
  unfold PodV.at PodV.val at cC ⊢
  replace cC:=Lib.hid cC
  unfold podB zpod at hW
  clear h h1 hm
  go_enter Tryz.func48,Tryz.ntmps48
  go_wp2_with fail
  rw [← hW,← hb]
  replace hW:=Lib.hid hW
  replace hb:=Lib.hid hb
  refine hF.out.mono ?_
  rintro e w1 ⟨rfl,rfl⟩
  go_wp2_with fail
  refine cC.out.mono ?_
  rintro e w1 ⟨B,d,rfl,R,ok,_,k⟩
  have Y1:=k.block Y.out
  obtain ⟨d0,d1,d2,d3,d4,d5,d6,d7,d8,g0⟩:=blk9 Y1
  unfold zpod at d0 d1 d2 d3 d4 d5 d6 d7 d8
  have y:=x.at B d
  have B5:Hid ((put9 w1 b (x.at B d)).heap[b]? = some (.cells (podB (x.at B d)) 35 (0,0))):=put9_heap _ zpod Y1
  have K5:Hid (Keep w (put9 w1 b (x.at B d))):=put9_keep _ (KW.out.trans k) hbw.out
  have R5:Hid (Req (put9 w1 b (x.at B d)) w.heap.size (x.at B d)):=by
    refine own_base' (b:=W.heap.size) ?_ KW.out.size
    refine own_blocks1 R fun g hg=>put9_block _ ?_
    have:=(R.lt g hg).1
    have:=hsz.out
    omega
  have ok:=Lib.hid ok
  clear R k Y1 x0 x1 x2 x3 x4 x5 x6 x7 x8 c0 q1
  go_wp2
  obtain ⟨e0,e1,e2,e3,e4,e5,e6,e7,e8,_⟩:=blk9 B5.out
  unfold put9 PodV.at at *
  refine bodyPost_ret (v:=.tuple #[.agg #[.int .i64 x.k,.int .i64 x.p,.bool x.f,.int .i64 x.g,.slice B x.m d,.int .i64 x.a,.int .i64 x.h,.int .i64 x.d,.int .i64 x.t],.bool true]) (by simp [results,Tryz.results48,go_sem,e0,e1,e2,e3,e4,e5,e6,e7,e8]) rfl ⟨B,d,rfl,R5.out,ok.out,K5.out⟩
set_option maxRecDepth 100000 in
set_option maxHeartbeats 4000000 in
theorem pdget_out (h:ST w b0 s q t m A c n P) {id:Int} (hk:id ∉ keys (lst P n)):Calls Tryz.prog 48 #[.pointer (some ⟨q,0,none⟩),.int .i64 id] w fun e w'=>e = .returned (.tuple #[zpod.val,.bool false])∧Keep w w':=by
  obtain ⟨W,hW⟩:∃ W,W = w.alloc (.cells (podB zpod) 35):=⟨_,rfl⟩
  have KW:Hid (Keep w W):=by rw [hW];exact Keep.one _ _
  obtain ⟨b,hb⟩:∃ b,b = w.heap.size:=⟨_,rfl⟩
  have Y:W.heap[b]? = some (.cells (podB zpod) 35 (0,0)):=by rw [hW,hb];exact heap_alloc_new _ _
  have hF:=Lib.hid (pdindex_out (h.keep KW.out) hk)
  have B5:Hid ((put9 W b zpod).heap[b]? = some (.cells (podB zpod) 35 (0,0))):=put9_heap _ zpod Y
  have K5:Hid (Keep w (put9 W b zpod)):=put9_keep _ KW.out (by omega)
  obtain ⟨d0,d1,d2,d3,d4,d5,d6,d7,d8,g0⟩:=blk9 Y
  unfold zpod at d0 d1 d2 d3 d4 d5 d6 d7 d8
  unfold podB zpod at hW
  unfold PodV.val zpod
  replace Y:=Lib.hid Y
  clear h hk
  go_enter Tryz.func48,Tryz.ntmps48
  go_wp2_with fail
  rw [← hW,← hb]
  replace hW:=Lib.hid hW
  replace hb:=Lib.hid hb
  refine hF.out.mono ?_
  rintro e w1 ⟨rfl,rfl⟩
  go_wp2
  obtain ⟨e0,e1,e2,e3,e4,e5,e6,e7,e8,_⟩:=blk9 B5.out
  unfold put9 zpod at *
  refine bodyPost_ret (v:=.tuple #[.agg #[.int .i64 0,.int .i64 0,.bool false,.int .i64 0,.slice none 0 0,.int .i64 0,.int .i64 0,.int .i64 0,.int .i64 0],.bool false]) (by simp [results,Tryz.results48,go_sem,e0,e1,e2,e3,e4,e5,e6,e7,e8]) rfl ⟨rfl,K5.out⟩
end
end Go.Proofs.YtnclkefddkgojaaGreatDoor.T13

namespace Go.Proofs.YtnclkefddkgojaaGreatDoor.T13
open Go.RowKit Go.Sort Go.Lib Go.Shelf V12
def But (bl N0:Nat) (W W':World):Prop:=∀ k,k < N0→k≠bl→W'.heap[k]? = W.heap[k]?
theorem But.refl (bl N0:Nat) (W:World):But bl N0 W W:=fun _ _ _=>rfl
theorem But.trans {bl N0:Nat} {a b c:World} (h:But bl N0 a b) (k:But bl N0 b c):But bl N0 a c:=fun i hi hne=>(k i hi hne).trans (h i hi hne)
theorem But.keep {bl N0:Nat} {a b c:World} (h:But bl N0 a b) (hs:N0≤b.heap.size) (k:Keep b c):But bl N0 a c:=h.trans fun i hi _=>Below.block k i (Nat.lt_of_lt_of_le hi hs)
theorem But.cell {bl N0:Nat} {a b:World} (h:But bl N0 a b) {p:Addr} {v:Value} (hc:a.cell? p = some v) (h1:p.block < N0) (h2:p.block≠bl):b.cell? p = some v:=(World.cell?_of_block (w:=a) (h p.block h1 h2)).trans hc
theorem But.cel9 {bl N0:Nat} {a b:World} (h:But bl N0 a b) {g o:Nat} {x:PodV} (hc:Cel9 a g o x) (h1:g < N0) (h2:g≠bl):Cel9 b g o x :=
  ⟨h.cell hc.e0 h1 h2,h.cell hc.e1 h1 h2,h.cell hc.e2 h1 h2,h.cell hc.e3 h1 h2,h.cell hc.e4 h1 h2,h.cell hc.e5 h1 h2,h.cell hc.e6 h1 h2,h.cell hc.e7 h1 h2,h.cell hc.e8 h1 h2⟩
abbrev PD (P:Nat→PodV) (n:Nat):={ x:PodV // x ∈ lst P n }
structure EachAt (W0:World) (bl N0 b1 b2 q:Nat) (kf:Nat) (caps:Array Value) (A:Option Addr) (c n:Nat) (P:Nat→PodV) (f:PodV→Bool):Prop where
  b1:W0.cell? ⟨b1,0,none⟩ = some (.pointer (some ⟨q,0,none⟩))∧b1 < N0∧b1≠bl
  b2:W0.cell? ⟨b2,0,none⟩ = some (.func (.func kf) #[] caps)∧b2 < N0∧b2≠bl
  q:W0.cell? ⟨q,0,none⟩ = some (.slice A n c)∧q < N0∧q≠bl
  r:∀ j,j < n→∃ g,A = some ⟨g,0,none⟩∧Cel9 W0 g (0 + j * 9) (P j)∧g < N0∧g≠bl
  k:∀ W',But bl N0 W0 W'→N0≤W'.heap.size→∀ x ∈ lst P n,Calls Tryz.prog kf (#[x.val] ++ caps) W' fun e W''=>e = .returned (.bool (f x))∧Keep W' W''
  n:n≤1000
  en:∀ args w,(callFunc kf args).run Tryz.prog w = .ok (.enter kf args) w
theorem flt_len {P:Nat→PodV} {f:PodV→Bool} {n j:Nat} {pre:List (PD P n)} (h:pre.map (·.1) = (lst P j).filter f):pre.length≤j:=by
  have:=congrArg List.length h
  rw [List.length_map] at this
  have h2:=List.length_filter_le f (lst P j)
  rw [lst_len] at h2
  omega
theorem flt_yes {P:Nat→PodV} {f:PodV→Bool} {n j:Nat} {pre:List (PD P n)} (h:pre.map (·.1) = (lst P j).filter f) (x:PD P n) (hx:x.1 = P j) (hf:f (P j) = true):(pre ++ [x]).map (·.1) = (lst P (j + 1)).filter f:=by
  rw [List.map_append,h,lst_succ,List.filter_append,List.map_singleton,hx,List.filter_cons,if_pos hf,List.filter_nil]
theorem flt_no {P:Nat→PodV} {f:PodV→Bool} {n j:Nat} {pre:List (PD P n)} (h:pre.map (·.1) = (lst P j).filter f) (hf:f (P j) = false):pre.map (·.1) = (lst P (j + 1)).filter f:=by
  rw [h,lst_succ,List.filter_append,List.filter_cons,if_neg (by rw [hf];decide),List.filter_nil,List.append_nil]
attribute [local go_sem] Oper.semAt_some
set_option maxRecDepth 100000 in
set_option maxHeartbeats 4000000 in
theorem each1_in (u:Nat) (hu:1≤u) (l:Nat) {W0:World} {bl N0 b1 b2 q kf:Nat} {caps:Array Value} {A:Option Addr} {c n:Nat} {P:Nat→PodV} {f:PodV→Bool} (E:EachAt W0 bl N0 b1 b2 q kf caps A c n P f) (J Jx:List (PD P n)→World→Prop)
    (hY:∀ pre x W,J pre W→pre.length < n→YieldAt Fence.wide (u - 1) Tryz.prog l #[x.1.val] W fun e W' =>
      (e = .returned (.bool true)∧J (pre ++ [x]) W'∧But bl N0 W W'∧W.heap.size≤W'.heap.size)∨(e = .returned (.bool false)∧Jx (pre ++ [x]) W'))
    (W:World) (hJ:AbidesFrom W.heap.size J) (hW:But bl N0 W0 W) (hs:N0≤W.heap.size) (h0:J [] W) :
    CallsIn Fence.wide u Tryz.prog 124 #[.func (.yield l) #[] #[],.pointer (some ⟨b1,0,none⟩),.pointer (some ⟨b2,0,none⟩)] W fun e W'=>(∃ v,e = .returned v) ∧
      ((∃ ys:List (PD P n),ys.map (·.1) = (lst P n).filter f∧J ys W')∨(∃ pre:List (PD P n),True∧Jx pre W')):=by
  have c1:=hW.cell E.b1.1 E.b1.2.1 E.b1.2.2
  have cq:=hW.cell E.q.1 E.q.2.1 E.q.2.2
  have hn:=E.n
  replace E:=Lib.hid E
  refine callsIn_of_wp Tryz.func124 rfl trivial ?_ rfl
  simp only [Tryz.ntmps124,List.size_toArray,List.length_cons,List.length_nil,Nat.reduceAdd,Nat.reduceSub,Array.replicate_succ,Array.replicate_zero,List.push_toArray,List.append_toArray,List.nil_append,List.cons_append]
  gi_wp2
  gi_loopw [13] (fun i wr=>∃ (j:Nat) (pre:List (PD P n)),j≤n∧i = .int .i64 j∧pre.map (·.1) = (lst P j).filter f∧J pre wr∧But bl N0 W0 wr∧W.heap.size≤wr.heap.size)
    (fun i _=>n - (intOf i).toNat)
  case atStart=>exact ⟨0,[],Nat.zero_le _,rfl,rfl,h0,hW,Nat.le_refl _⟩
  case round =>
    obtain ⟨j,pre,hj,rfl,hpre,hJs,hB,hsz⟩:=hrel
    by_cases hlt:j < n
    · obtain ⟨g,rfl,X,g1,g2⟩:=E.out.r j hlt
      have X:=hB.cel9 X g1 g2
      have q1:=pods_at g 0 n c j hlt
      obtain ⟨x0,x1,x2,x3,x4,x5,x6,x7,x8⟩:=X
      rw [Nat.zero_add] at x0 x1 x2 x3 x4 x5 x6 x7 x8 q1
      have c2:=hB.cell E.out.b2.1 E.out.b2.2.1 E.out.b2.2.2
      obtain ⟨x,hx⟩:∃ x,x = P j:=⟨_,rfl⟩
      rw [← hx] at x0 x1 x2 x3 x4 x5 x6 x7 x8
      have hxm:x ∈ lst P n:=by rw [hx];exact lst_mem.2 ⟨j,hlt,rfl⟩
      replace hx:=Lib.hid hx
      have c2a:=(Keep.one wr (.cells #[.int .i64 x.k,.int .i64 x.p,.bool x.f,.int .i64 x.g,.slice x.A x.m x.c,.int .i64 x.a,.int .i64 x.h,.int .i64 x.d,.int .i64 x.t] 35)).cell c2
      have cel:=Cel9.new wr x 35 _ rfl
      have cK:=E.out.k (wr.alloc (.cells #[.int .i64 x.k,.int .i64 x.p,.bool x.f,.int .i64 x.g,.slice x.A x.m x.c,.int .i64 x.a,.int .i64 x.h,.int .i64 x.d,.int .i64 x.t] 35)) (hB.keep (Nat.le_trans hs hsz) (Keep.one _ _)) (by rw [World.size_alloc];omega) x hxm
      unfold PodV.val at cK
      replace cK:=Lib.hid cK
      replace cel:=Lib.hid cel
      replace hB:=Lib.hid hB
      have en:=E.out.en
      have szA:(wr.alloc (.cells #[.int .i64 x.k,.int .i64 x.p,.bool x.f,.int .i64 x.g,.slice x.A x.m x.c,.int .i64 x.a,.int .i64 x.h,.int .i64 x.d,.int .i64 x.t] 35)).heap.size = wr.heap.size + 1:=World.size_alloc _ _
      replace szA:=Lib.hid szA
      replace hpre:=Lib.hid hpre
      cases hf:f x with
      | false =>
        rw [hf] at cK
        gi_wp2_with fail
        refine ⟨trivial,?_⟩
        refine (callsIn_wide.2 cK.out).mono ?_
        rintro e w3 ⟨rfl,k3⟩
        have B3:But bl N0 W0 w3:=(hB.out.keep (Nat.le_trans hs hsz) (Keep.one _ _)).keep (by rw [szA.out];omega) k3
        have J3:J pre w3:=hJ pre wr w3 none hJs ((Keep.one _ _).trans k3).grown (fun r e=>by cases e)
        have s3:W.heap.size≤w3.heap.size:=Nat.le_trans hsz ((Keep.one wr _).trans k3).size
        clear c2 c2a cel k3 x0 x1 x2 x3 x4 x5 x6 x7 x8 q1 cK
        gi_wp2
        refine ⟨fun _ h=>(by cases h),?_⟩
        gi_wp2
        go_roundw
        case rel=>exact ⟨j + 1,pre,by omega,by simp,flt_no hpre.out (by rw [← hx.out];exact hf),J3,B3,s3⟩
        case measure=>simp [intOf];omega
      | true =>
        rw [hf] at cK
        gi_wp2_with fail
        refine ⟨trivial,?_⟩
        refine (callsIn_wide.2 cK.out).mono ?_
        rintro e w3 ⟨rfl,k3⟩
        have B3:But bl N0 W0 w3:=(hB.out.keep (Nat.le_trans hs hsz) (Keep.one _ _)).keep (by rw [szA.out];omega) k3
        have J3:J pre w3:=hJ pre wr w3 none hJs ((Keep.one _ _).trans k3).grown (fun r e=>by cases e)
        have s3:W.heap.size≤w3.heap.size:=Nat.le_trans hsz ((Keep.one wr _).trans k3).size
        obtain ⟨fn,tmps,assign,body,hy,hR⟩:=hY pre ⟨x,hxm⟩ w3 J3 (by have:=flt_len hpre.out;omega)
        dsimp only at hy
        unfold PodV.val at hy
        obtain ⟨y0,y1,y2,y3,y4,y5,y6,y7,y8⟩:=cel.out.keep k3
        rw [Nat.zero_add] at y1 y2 y3 y4 y5 y6 y7 y8
        replace B3:=Lib.hid B3
        replace J3:=Lib.hid J3
        replace s3:=Lib.hid s3
        clear c2 c2a cel k3 x0 x1 x2 x3 x4 x5 x6 x7 x8 q1 cK
        gi_wp2
        refine hR.mono ?_
        rintro e W4 (⟨rfl,hJ4,hB4,hs4⟩ | ⟨rfl,hJx4⟩)
        · gi_wp2
          go_roundw
          case rel=>exact ⟨j + 1,pre ++ [⟨x,hxm⟩],by omega,by simp,flt_yes hpre.out ⟨x,hxm⟩ hx.out (by rw [← hx.out];exact hf),hJ4,B3.out.trans hB4,Nat.le_trans s3.out hs4⟩
          case measure=>simp [intOf];omega
        · gi_wp2
          refine bodyPost_ret (results_none rfl _ _ _) rfl ?_
          exact ⟨⟨_,rfl⟩,.inr ⟨_,trivial,hJx4⟩⟩
    · obtain rfl:j = n:=by omega
      gi_wp2
      go_end0
      exact ⟨⟨_,rfl⟩,.inl ⟨pre,hpre,hJs⟩⟩
theorem each_stops (u:Nat) (hu:1≤u) {W0:World} {bl b1 b2 q kf:Nat} {caps:Array Value} {A:Option Addr} {c n:Nat} {P:Nat→PodV} {f:PodV→Bool} (E:EachAt W0 bl W0.heap.size b1 b2 q kf caps A c n P f) :
    SeqStopsK Fence.wide u Tryz.prog 124 #[.pointer (some ⟨b1,0,none⟩),.pointer (some ⟨b2,0,none⟩)] (fun x:PD P n=>#[x.1.val]) (fun W W'=>But bl W0.heap.size W W'∧W.heap.size≤W'.heap.size) (fun ys=>ys.map (·.1) = (lst P n).filter f) (fun _=>True) n W0:=fun l J Jx W hW hJ _ hY h0=>by
  refine each1_in u hu l E J Jx (fun pre x W1 h1 h2=>?_) W hJ (fun k hk _=>Below.block hW k hk) hW.size h0
  exact hY pre x W1 h1 h2
end Go.Proofs.YtnclkefddkgojaaGreatDoor.T13

namespace Go.Proofs.YtnclkefddkgojaaGreatDoor.T13
open Go.RowKit Go.Sort Go.Lib Go.Shelf V12
def placed (p:Int):Bool:=decide (2≤p∧p≤4)
theorem traits_fn (p:Int) (w:World):Calls Tryz.prog 86 #[.int .i64 p] w fun e w'=>(∃ a b,e = .returned (.tuple #[.bool a,.bool b,.bool (placed p)]))∧w = w':=by
  by_cases h2:p = 2
  · subst h2
    go_enter Tryz.func86,Tryz.ntmps86
    go_wp2
    go_ret3
    exact ⟨⟨_,_,rfl⟩,rfl⟩
  by_cases h1:p = 1
  · subst h1
    go_enter Tryz.func86,Tryz.ntmps86
    go_wp2
    go_ret3
    exact ⟨⟨_,_,rfl⟩,rfl⟩
  by_cases h3:p = 3
  · subst h3
    go_enter Tryz.func86,Tryz.ntmps86
    go_wp2
    go_ret3
    exact ⟨⟨_,_,rfl⟩,rfl⟩
  by_cases h4:p = 4
  · subst h4
    go_enter Tryz.func86,Tryz.ntmps86
    go_wp2
    go_ret3
    exact ⟨⟨_,_,rfl⟩,rfl⟩
  have e3:placed p = false:=decide_eq_false (by omega)
  rw [e3]
  go_enter Tryz.func86,Tryz.ntmps86
  go_wp2
  go_ret3
  exact ⟨⟨_,_,rfl⟩,rfl⟩
theorem placed_fn (p:Int) (w:World):Calls Tryz.prog 85 #[.int .i64 p] w fun e w'=>e = .returned (.bool (placed p))∧w = w':=by
  have hT:=traits_fn p w
  generalize placed p = z at *
  go_enter Tryz.func85,Tryz.ntmps85
  go_wp2_with fail
  refine hT.mono ?_
  rintro e w1 ⟨⟨a,b,rfl⟩,rfl⟩
  go_wp2
  go_ret
  exact ⟨rfl,rfl⟩
theorem all1_fn (x:PodV) (w:World):Calls Tryz.prog 82 #[x.val] w fun e w'=>e = .returned (.bool true)∧Keep w w':=by
  unfold PodV.val
  go_enter Tryz.func82,Tryz.ntmps82
  go_wp2
  go_ret
  exact ⟨rfl,Keep.one _ _⟩
set_option maxHeartbeats 1000000 in
theorem on1_fn (x:PodV) (b:Nat) (nd:Int) (w:World) (hc:w.cell? ⟨b,0,none⟩ = some (.int .i64 nd)):Calls Tryz.prog 84 #[x.val,.pointer (some ⟨b,0,none⟩)] w fun e w'=>e = .returned (.bool (onB nd x))∧Keep w w':=by
  have c1:=(Keep.one w (.cells (podB x) 35)).cell hc
  have hP:=Lib.hid (fun W=>placed_fn x.h W)
  unfold podB at c1
  unfold PodV.val
  by_cases h:x.d = nd
  · have e:onB nd x = placed x.h:=by unfold onB placed;simp [h]
    have hd:decide (x.d = nd) = true:=decide_eq_true h
    rw [e]
    generalize placed x.h = z at *
    replace h:=Lib.hid h
    replace e:=Lib.hid e
    go_enter Tryz.func84,Tryz.ntmps84
    go_wp2_with fail
    refine (hP.out _).mono ?_
    rintro e w1 ⟨rfl,rfl⟩
    go_wp2
    go_ret
    exact ⟨rfl,Keep.one _ _⟩
  · have e:onB nd x = false:=decide_eq_false fun h2=>h h2.1
    rw [e]
    go_enter Tryz.func84,Tryz.ntmps84
    go_wp2
    go_ret
    exact ⟨rfl,Keep.one _ _⟩
theorem hmf (fn:Fn) (first cap:Array Value) (w:World):(Instr.makeFunc fn first cap).run Tryz.prog w = .ok (.func fn first cap) w:=rfl
theorem each_fn (P:Option Addr) (F:Value) (w:World) (hF:∃ kf caps,F = .func (.func kf) #[] caps):Calls Tryz.prog 106 #[.pointer P,F] w fun e w'=>e = .returned (.func (.func 124) #[] #[.pointer (some ⟨w.heap.size,0,none⟩),.pointer (some ⟨w.heap.size + 1,0,none⟩)])∧w' = (w.alloc (.cells #[.pointer P] 72)).alloc (.cells #[F] 139):=by
  have h1:=hmf
  obtain ⟨kf,caps,rfl⟩:=hF
  go_enter Tryz.func106,Tryz.ntmps106
  go_wp2
  go_ret
  exact ⟨rfl,rfl⟩
theorem RowP.own' {X Y:World} {base n:Nat} {v:Value} {Q:Nat→PodV} {row:Option Nat} (h:RowP X base v n Q) (hg:X.grownBy Y row) (hr:∀ r,row = some r→∃ o:Obj,X.heap[r]? = some o∧o.isCells = false):RowP Y base v n Q:=by
  have key:∀ {e:TypeId} {z k:Nat} {u:Value} {xs:List Value},X.ownsRow base e z u k xs→Y.ownsRow base e z u k xs:=fun h=>own_blocks1 h fun g hg2=>hg.block g (h.lt g hg2).2 fun e=>by
    obtain ⟨o,ho,hc⟩:=hr g e.symm
    obtain ⟨cur,e2⟩:=row_kind h hg2
    rw [e2] at ho
    cases ho
    cases hc
  exact ⟨key h.row,fun j hj=>key (h.own j hj),h.ok⟩
end Go.Proofs.YtnclkefddkgojaaGreatDoor.T13

