/-
  The reference's On and With. Condition: at most 1000 pods.
  Where a node stands in a list of nodes. No condition, no walk.
  The reference's cluster as a value; its Find. No condition.
  The reference's Pods of layer 15, its has of layer 16. Condition: at most 1000 pods.
-/
import Derived.Test.YtclfbplbccehkaaGreatDoorD9
import Derived.Test.YtclfbplbccehkaaGreatDoorD7
import Derived.Test.YtclfbplbccehkaaGreatDoorD2
namespace Go.Proofs.YtclfbplbccehkaaGreatDoor.T13
open Go.RowKit Go.Sort Go.Lib V12
theorem podCs_flat (P:Nat→PodV):∀ n,podCs P n = (lst P n).flatMap PodV.cells
  | 0=>rfl
  | n + 1=>by rw [podCs,podCs_flat P n,lst_succ,List.flatMap_append,List.flatMap_singleton]
theorem podCs_row (L:List PodV):podCs (row L) L.length = L.flatMap PodV.cells:=by rw [podCs_flat,lst_row]
theorem own_rd {w:World} {base n c:Nat} {B:Option Addr} {Q:Nat→PodV} (h:w.ownsRow base 26 9 (.slice B n c) n (podCs Q n)) (hn:n≤9223372036854775807) (hi:∀ j,j < n→PodIs w (Q j)):RdPods w B n Q :=
  ⟨hn,fun hp=>by
    obtain ⟨g,cap,e,_,_⟩:=h.form hp
    simp only [Value.slice.injEq] at e
    obtain ⟨rfl,_,rfl⟩:=e
    exact ⟨g,0,rfl,fun t ht=>row_cel h ht⟩,hi⟩
end Go.Proofs.YtclfbplbccehkaaGreatDoor.T13

namespace Go.Proofs.YtclfbplbccehkaaGreatDoor.C14
open Go.RowKit Go.Lib V12
def keys (L:List NdC):List Int:=L.map (·.k)
def getL (L:List NdC) (id:Int):NdC:=(L.find? fun y=>decide (y.k = id)).getD zp
def findN (P:Nat→NdC) (id:Int):Nat→Int
  | 0=>-1
  | n + 1=>if 0≤findN P id n then findN P id n else if (P n).k = id then (n:Int) else -1
theorem find_no {P:Nat→NdC} {id:Int}:∀ {n},(∀ t,t < n→(P t).k≠id)→findN P id n = -1
  | 0,_=>rfl
  | n + 1,h=>by
    rw [findN,find_no (fun t ht=>h t (by omega)),if_neg (by omega),if_neg (h n (by omega))]
theorem find_at {P:Nat→NdC} {id:Int} {j:Nat} (hj:(P j).k = id) (h:∀ t,t < j→(P t).k≠id):∀ {n},j < n→findN P id n = (j:Int)
  | n + 1,hn=>by
    by_cases e:j = n
    · subst e
      rw [findN,find_no h,if_neg (by omega),if_pos hj]
    · rw [findN,find_at hj h (n:=n) (by omega),if_pos (by omega)]
theorem find_cases (P:Nat→NdC) (id:Int) (n:Nat):(findN P id n = -1∧id ∉ keys (lst P n))∨∃ j,j < n∧findN P id n = (j:Int)∧(P j).k = id∧id ∈ keys (lst P n)∧getL (lst P n) id = P j:=by
  by_cases h:∃ j,j < n∧(P j).k = id
  · right
    obtain ⟨j,hj,hk,hm⟩:∃ j,j < n∧(P j).k = id∧∀ t,t < j→(P t).k≠id:=by
      induction n with
      | zero=>obtain ⟨j,hj,_⟩:=h;exact absurd hj (Nat.not_lt_zero _)
      | succ n ih =>
        by_cases h2:∃ j,j < n∧(P j).k = id
        · obtain ⟨j,a,b,c⟩:=ih h2
          exact ⟨j,by omega,b,c⟩
        · obtain ⟨j,hj,hk⟩:=h
          refine ⟨j,hj,hk,fun t ht e=>h2 ⟨t,by omega,e⟩⟩
    refine ⟨j,hj,find_at hk hm hj,hk,?_,?_⟩
    · unfold keys
      rw [← hk]
      exact List.mem_map_of_mem (lst_mem.2 ⟨j,hj,rfl⟩)
    · unfold getL
      have e:(lst P n).find? (fun y=>decide (y.k = id)) = some (P j):=by
        rw [List.find?_eq_some_iff_getElem]
        refine ⟨by simpa using hk,j,by rw [lst_len];exact hj,?_,fun t ht=>?_⟩
        · have:=lst_get (Q:=P) hj
          rw [List.getElem?_eq_getElem (by rw [lst_len];exact hj)] at this
          exact Option.some.inj this
        · have h1:=lst_get (Q:=P) (n:=n) (j:=t) (by omega)
          rw [List.getElem?_eq_getElem (by rw [lst_len];omega)] at h1
          rw [Option.some.inj h1]
          simpa using hm t ht
      rw [e]
      rfl
  · left
    refine ⟨find_no fun t ht e=>h ⟨t,ht,e⟩,fun hk=>?_⟩
    obtain ⟨y,hy,e⟩:=List.mem_map.1 hk
    obtain ⟨j,hj,rfl⟩:=lst_mem.1 hy
    exact h ⟨j,hj,e⟩
theorem find_iff {P:Nat→NdC} {id:Int} {n:Nat}:0≤findN P id n ↔ id ∈ keys (lst P n):=by
  rcases find_cases P id n with ⟨h1,h2⟩ | ⟨j,_,h1,_,h2,_⟩
  · rw [h1];exact ⟨fun h=>absurd h (by decide),fun h=>absurd h h2⟩
  · rw [h1];exact ⟨fun _=>h2,fun _=>by omega⟩
end Go.Proofs.YtclfbplbccehkaaGreatDoor.C14

namespace Go.Proofs.YtclfbplbccehkaaGreatDoor.T14
open Go.RowKit Go.Sort Go.Lib V12 T13
structure RcV where
  d:Int
  A:Option Addr
  n:Nat
  c:Nat
  B:Option Addr
  m:Nat
  e:Nat
def RcV.val (x:RcV):Value:=.agg #[.int .i64 x.d,.slice x.A x.n x.c,.slice x.B x.m x.e]
def RcV.arr (x:RcV):Array Value:=#[.int .i64 x.d,.slice x.A x.n x.c,.slice x.B x.m x.e]
theorem rc_cells {w:World} {b:Nat} {x:RcV} {T:TypeId} (h:w.heap[b]? = some (.cells x.arr T (0,0))):w.cell? ⟨b,0,none⟩ = some (.int .i64 x.d)∧w.cell? ⟨b,1,none⟩ = some (.slice x.A x.n x.c)∧w.cell? ⟨b,2,none⟩ = some (.slice x.B x.m x.e)∧∀ i,w.frozen? ⟨b,i,none⟩ = false:=by
  refine ⟨?_,?_,?_,fun i=>frozen_of_row w b i _ _ h⟩ <;> rw [cell_of_row w b _ _ _ _ h] <;> rfl
def put3 (w:World) (s:Nat) (x:RcV):World:=((w.setCell ⟨s,0,none⟩ (.int .i64 x.d)).setCell ⟨s,1,none⟩ (.slice x.A x.n x.c)).setCell ⟨s,2,none⟩ (.slice x.B x.m x.e)
theorem three_set {w:World} {s:Nat} {a0 a1 a2 u:Value} {T:TypeId} (h:w.heap[s]? = some (.cells #[a0,a1,a2] T (0,0))) :
    (w.setCell ⟨s,0,none⟩ u).heap[s]? = some (.cells #[u,a1,a2] T (0,0))∧(w.setCell ⟨s,1,none⟩ u).heap[s]? = some (.cells #[a0,u,a2] T (0,0))∧(w.setCell ⟨s,2,none⟩ u).heap[s]? = some (.cells #[a0,a1,u] T (0,0)):=by
  have hlt:=lt_of_block h
  have h':w.heap[s] = .cells #[a0,a1,a2] T (0,0):=by simpa [Array.getElem?_eq_getElem hlt] using h
  refine ⟨?_,?_,?_⟩
  all_goals
    show (w.heap.modify s _)[s]? = _
    rw [Array.getElem?_eq_getElem (by simpa using hlt),Array.getElem_modify_self,h']
    rfl
theorem put3_heap {w:World} {s:Nat} (x y:RcV) {T:TypeId} (h:w.heap[s]? = some (.cells y.arr T (0,0))):(put3 w s x).heap[s]? = some (.cells x.arr T (0,0)) :=
  (three_set (three_set (three_set h).1).2.1).2.2
theorem put3_keep {w0 w:World} {s:Nat} (x:RcV) (k:Keep w0 w) (hs:w0.heap.size≤s):Keep w0 (put3 w s x):=((k.set hs _).set hs _).set hs _
theorem put3_block {w:World} {s k:Nat} (x:RcV) (h:k≠s):(put3 w s x).heap[k]? = w.heap[k]?:=by
  unfold put3
  repeat rw [Below.heap_setCell _ _ _ _ h]
theorem put3_size (w:World) (s:Nat) (x:RcV):(put3 w s x).heap.size = w.heap.size:=by unfold put3;simp
def zrc:RcV:=⟨0,none,0,0,none,0,0⟩
def RcV.with (x:RcV) (B:Option Addr) (m e:Nat):RcV:=⟨x.d,x.A,x.n,x.c,B,m,e⟩
theorem key_nv (L:List C14.NdC):nk (L.map nv) = C14.keys L:=by unfold nk G.keys C14.keys;rw [List.map_map];rfl
set_option maxRecDepth 100000 in
set_option maxHeartbeats 4000000 in
theorem rfindN_fn (x:RcV) (P:Nat→C14.NdC) (id:Int) (w:World) (hR:C14.RdN w x.A x.n P):Calls Tryz.prog 16 #[x.val,.int .i64 id] w fun e w'=>e = .returned (.int .i64 (C14.findN P id x.n))∧w' = w.alloc (.cells x.arr 31):=by
  obtain ⟨xd,A,n,c,B,m,e⟩:=x
  simp only at hR ⊢
  have hX:=heap_alloc_new w (.cells (RcV.arr ⟨xd,A,n,c,B,m,e⟩) 31)
  have KW:Keep w (w.alloc (.cells (RcV.arr ⟨xd,A,n,c,B,m,e⟩) 31)):=Keep.one _ _
  have RW:=Lib.hid (hR.keep KW)
  obtain ⟨c0,c1,c2,cf⟩:=rc_cells hX
  have hn:=hR.small
  unfold RcV.arr at *
  unfold RcV.val
  simp only at c0 c1 c2 cf RW
  obtain ⟨r,hr⟩:∃ r,r = C14.findN P id n:=⟨_,rfl⟩
  rw [← hr]
  replace hr:=Lib.hid hr
  replace hX:=Lib.hid hX
  replace KW:=Lib.hid KW
  clear hR
  go_enter Tryz.func16,Tryz.ntmps16
  go_wp2
  go_loopg [5] n (fun gx s5 wr=>∃ j:Nat,j≤n∧gx = n - j∧s5 = .int .i64 j∧wr = w.alloc (.cells #[.int .i64 xd,.slice A n c,.slice B m e] 31)∧Hid (∀ t,t < j→(P t).k≠id))
  case atStart=>exact ⟨0,Nat.zero_le _,rfl,rfl,rfl,fun t h=>absurd h (Nat.not_lt_zero _)⟩
  case round =>
    obtain ⟨j,hj,rfl,rfl,rfl,NO⟩:=hrel
    by_cases hlt:j < n
    · obtain ⟨g,off,hA,ca⟩:=RW.out.adr (by omega)
      subst hA
      have q1:=C14.atN g off n c j hlt
      have x0:=(ca j hlt).e0
      clear ca
      by_cases hk:(P j).k = id
      · have e:r = (j:Int):=by rw [hr.out];exact C14.find_at hk NO.out hlt
        obtain ⟨k,hkk⟩:∃ k,k = (P j).k:=⟨_,rfl⟩
        rw [← hkk] at x0 hk
        replace hkk:=Lib.hid hkk
        subst hk
        subst e
        go_wp2
        go_ret
        exact ⟨rfl,rfl⟩
      · have NO2:Hid (∀ t,t < j + 1→(P t).k≠id):=fun t ht=>by
          by_cases e:t = j
          · rw [e];exact hk
          · exact NO.out t (by omega)
        obtain ⟨k,hkk⟩:∃ k,k = (P j).k:=⟨_,rfl⟩
        rw [← hkk] at x0 hk
        replace hkk:=Lib.hid hkk
        go_wp2
        go_roundg (n - (j + 1))
        case measure=>omega
        case rel=>exact ⟨j + 1,hlt,rfl,by go_num,rfl,NO2⟩
    · obtain rfl:j = n:=by omega
      have e:r = -1:=by rw [hr.out];exact C14.find_no NO.out
      subst e
      go_wp2
      go_ret
      exact ⟨rfl,rfl⟩
end Go.Proofs.YtclfbplbccehkaaGreatDoor.T14

namespace Go.Proofs.YtclfbplbccehkaaGreatDoor.T16
open Go.RowKit Go.Sort Go.Lib V12 T13 T14 T15
def PodsP (w:World) (n:Nat) (L:List PodV) (e:Ending) (w':World):Prop:=∃ B d,e = .returned (.slice B L.length d)∧Keep w w'∧RdPods w' B L.length (row L)∧L.length≤n∧∀ g o,B = some ⟨g,o,none⟩→w.heap.size≤g
theorem int_at (b off n cp j:Nat) (hj:j < n) (W:World):(Instr.indexAt 27 (.slice (some ⟨b,off,none⟩) n cp) (.int .i64 j)).run Tryz.prog W = .ok (.pointer (some ⟨b,off + j,none⟩)) W:=by
  go_simp
theorem keep_at {w w':World} {k:Nat} (h:Keep w w') (hk:k < w.heap.size):w'.heap[k]? = w.heap[k]?:=Below.block h k hk
set_option maxRecDepth 100000 in
set_option maxHeartbeats 8000000 in
theorem r15pods_fn (x:RcV) (p:PodV) (nd:Int) (P:Nat→PodV) (w:World) (hR:RdPods w x.B x.m P) (hm:x.m≤1000):Calls Tryz.prog 70 #[x.val,p.val,.int .i64 nd] w (PodsP w x.m ((T13.lst P x.m).filter (seesB p nd))):=by
  have mixed:Tryz.prog.follows .mixedOrders = true:=by kernel_rfl
  obtain ⟨xd,A,n,c,B,m,e⟩:=x
  simp only at hR hm ⊢
  obtain ⟨L,hL⟩:∃ L,L = (T13.lst P m).filter (seesB p nd):=⟨_,rfl⟩
  rw [← hL]
  replace hL:=Lib.hid hL
  obtain ⟨W0,hW0⟩:∃ W0,W0 = (w.alloc (.cells (RcV.arr ⟨xd,A,n,c,B,m,e⟩) 31)).alloc (.cells (podB p) 26):=⟨_,rfl⟩
  have s0:(w.alloc (.cells (RcV.arr ⟨xd,A,n,c,B,m,e⟩) 31)).heap.size = w.heap.size + 1:=World.size_alloc _ _
  have K0:Hid (Keep w W0):=by rw [hW0];exact (Keep.one _ _).alloc _
  have B3:Hid (W0.heap[w.heap.size]? = some (.cells (RcV.arr ⟨xd,A,n,c,B,m,e⟩) 31 (0,0))):=by rw [hW0];exact (Keep.one _ _).block (heap_alloc_new _ _)
  have B4:Hid (W0.heap[w.heap.size + 1]? = some (.cells (podB p) 26 (0,0))):=by rw [hW0,← s0];exact heap_alloc_new _ _
  obtain ⟨b3,hb3⟩:∃ b,b = w.heap.size:=⟨_,rfl⟩
  obtain ⟨b4,hb4⟩:∃ b,b = w.heap.size + 1:=⟨_,rfl⟩
  rw [← hb3] at B3
  rw [← hb4] at B4
  have R0:=Lib.hid (hR.keep K0.out)
  replace hR:=Lib.hid hR
  replace s0:=Lib.hid s0
  unfold RcV.arr podB at hW0
  unfold RcV.val PodV.val
  simp only at hW0
  go_enter Tryz.func70,Tryz.ntmps70
  go_wp2
  rw [← hW0,← hb4,← hb3]
  replace hW0:=Lib.hid hW0
  replace hb3:=Lib.hid hb3
  replace hb4:=Lib.hid hb4
  go_loopg [7,8] m (fun gx s7 s8 wr=>∃ (j k:Nat) (D:Option Addr) (d:Nat) (M:List PodV),j≤m∧gx = m - j∧s7 = .slice D k d∧s8 = .int .i64 j∧k≤j∧Hid (Keep W0 wr)∧Hid (wr.ownsRow W0.heap.size 26 9 (.slice D k d) k (M.flatMap PodV.cells))∧Hid (M = (T13.lst P j).filter (seesB p nd))∧Hid (M.length = k))
  case atStart=>exact ⟨0,0,none,0,[],Nat.zero_le _,rfl,rfl,rfl,Nat.le_refl _,Keep.refl _,World.ownsRow_nil _ _ _ _,rfl,rfl⟩
  case round =>
    obtain ⟨j,k,D,d,M,hj,rfl,rfl,rfl,hkj,KR,RW,LT,LN⟩:=hrel
    have B3r:Hid (wr.heap[b3]? = some (.cells (RcV.arr ⟨xd,A,n,c,B,m,e⟩) 31 (0,0))):=Keep.block KR.out B3.out
    obtain ⟨c0,c1,c2,_⟩:=rc_cells B3r.out
    simp only at c0 c1 c2
    by_cases hlt:j < m
    · have R2:=R0.out.keep KR.out
      obtain ⟨g,off,hA,ca⟩:=R2.adr (by omega)
      subst hA
      have q1:=pods_at g off m e j hlt
      have Y:=ca j hlt
      clear ca
      have hs:(T13.lst P (j + 1)).filter (seesB p nd) = (T13.lst P j).filter (seesB p nd) ++ if seesB p nd (P j) = true then [P j] else []:=by
        rw [lst_succ,List.filter_append,List.filter_cons,List.filter_nil]
      obtain ⟨y,hy⟩:∃ y,y = P j:=⟨_,rfl⟩
      obtain ⟨oo,hoo⟩:∃ oo,oo = off + j * 9:=⟨_,rfl⟩
      rw [← hy] at Y hs
      rw [← hoo] at Y q1
      replace hy:=Lib.hid hy
      replace hoo:=Lib.hid hoo
      have B4r:Hid (wr.heap[b4]? = some (.cells (podB p) 26 (0,0))):=Keep.block KR.out B4.out
      have Y:=Lib.hid Y
      obtain ⟨sb,hsb⟩:∃ sb,sb = seesB p nd y:=⟨_,rfl⟩
      have cS:Hid (∀ W,Calls Tryz.prog 100 #[p.val,y.val,.int .i64 nd] W fun e' w'=>e' = .returned (.bool sb)∧Keep W w'):=fun W=>by rw [hsb];exact rsees_fn p y nd W
      rw [← hsb] at hs
      replace hs:=Lib.hid hs
      replace hsb:=Lib.hid hsb
      unfold PodV.val at cS
      go_upto_region 5 with fail
      have HELD:∀ Wz,Keep wr Wz→(Wz.cell? ⟨b3,0,none⟩ = some (.int .i64 xd)∧Wz.cell? ⟨b3,1,none⟩ = some (.slice A n c)∧Wz.cell? ⟨b3,2,none⟩ = some (.slice (some ⟨g,off,none⟩) m e)∧Wz.cell? ⟨b4,0,none⟩ = some (.int .i64 p.k)∧Wz.cell? ⟨b4,1,none⟩ = some (.int .i64 p.p)∧Wz.cell? ⟨b4,2,none⟩ = some (.bool p.f)∧Wz.cell? ⟨b4,3,none⟩ = some (.int .i64 p.g)∧Wz.cell? ⟨b4,4,none⟩ = some (.slice p.A p.m p.c)∧Wz.cell? ⟨b4,5,none⟩ = some (.int .i64 p.a)∧Wz.cell? ⟨b4,6,none⟩ = some (.int .i64 p.h)∧Wz.cell? ⟨b4,7,none⟩ = some (.int .i64 p.d)∧Wz.cell? ⟨b4,8,none⟩ = some (.int .i64 p.t)∧Wz.cell? ⟨g,oo,none⟩ = some (.int .i64 y.k)∧Wz.cell? ⟨g,oo + 1,none⟩ = some (.int .i64 y.p)∧Wz.cell? ⟨g,oo + 2,none⟩ = some (.bool y.f)∧Wz.cell? ⟨g,oo + 3,none⟩ = some (.int .i64 y.g)∧Wz.cell? ⟨g,oo + 4,none⟩ = some (.slice y.A y.m y.c)∧Wz.cell? ⟨g,oo + 5,none⟩ = some (.int .i64 y.a)∧Wz.cell? ⟨g,oo + 6,none⟩ = some (.int .i64 y.h)∧Wz.cell? ⟨g,oo + 7,none⟩ = some (.int .i64 y.d)∧Wz.cell? ⟨g,oo + 8,none⟩ = some (.int .i64 y.t)):=fun Wz KK=>⟨(rc_cells (Keep.block KK B3r.out)).1,(rc_cells (Keep.block KK B3r.out)).2.1,(rc_cells (Keep.block KK B3r.out)).2.2.1,(blk9 (Keep.block KK B4r.out)).e0,(blk9 (Keep.block KK B4r.out)).e1,(blk9 (Keep.block KK B4r.out)).e2,(blk9 (Keep.block KK B4r.out)).e3,(blk9 (Keep.block KK B4r.out)).e4,(blk9 (Keep.block KK B4r.out)).e5,(blk9 (Keep.block KK B4r.out)).e6,(blk9 (Keep.block KK B4r.out)).e7,(blk9 (Keep.block KK B4r.out)).e8,(Y.out.keep KK).e0,(Y.out.keep KK).e1,(Y.out.keep KK).e2,(Y.out.keep KK).e3,(Y.out.keep KK).e4,(Y.out.keep KK).e5,(Y.out.keep KK).e6,(Y.out.keep KK).e7,(Y.out.keep KK).e8⟩
      refine OrdS.rest_start (fun w'=>w'.cell? ⟨b3,0,none⟩ = some (.int .i64 xd)∧w'.cell? ⟨b3,1,none⟩ = some (.slice A n c)∧w'.cell? ⟨b3,2,none⟩ = some (.slice (some ⟨g,off,none⟩) m e)∧w'.cell? ⟨b4,0,none⟩ = some (.int .i64 p.k)∧w'.cell? ⟨b4,1,none⟩ = some (.int .i64 p.p)∧w'.cell? ⟨b4,2,none⟩ = some (.bool p.f)∧w'.cell? ⟨b4,3,none⟩ = some (.int .i64 p.g)∧w'.cell? ⟨b4,4,none⟩ = some (.slice p.A p.m p.c)∧w'.cell? ⟨b4,5,none⟩ = some (.int .i64 p.a)∧w'.cell? ⟨b4,6,none⟩ = some (.int .i64 p.h)∧w'.cell? ⟨b4,7,none⟩ = some (.int .i64 p.d)∧w'.cell? ⟨b4,8,none⟩ = some (.int .i64 p.t)∧w'.cell? ⟨g,oo,none⟩ = some (.int .i64 y.k)∧w'.cell? ⟨g,oo + 1,none⟩ = some (.int .i64 y.p)∧w'.cell? ⟨g,oo + 2,none⟩ = some (.bool y.f)∧w'.cell? ⟨g,oo + 3,none⟩ = some (.int .i64 y.g)∧w'.cell? ⟨g,oo + 4,none⟩ = some (.slice y.A y.m y.c)∧w'.cell? ⟨g,oo + 5,none⟩ = some (.int .i64 y.a)∧w'.cell? ⟨g,oo + 6,none⟩ = some (.int .i64 y.h)∧w'.cell? ⟨g,oo + 7,none⟩ = some (.int .i64 y.d)∧w'.cell? ⟨g,oo + 8,none⟩ = some (.int .i64 y.t)) [] (by kernel_rfl) ?_ (fun hHeld=>?_)
      · exact HELD _ (Keep.refl wr).drew
      obtain ⟨wt0,hwt0⟩:∃ W,W = wr.drew:=⟨_,rfl⟩
      have Kwt0:Hid (Keep wr wt0):=by rw [hwt0];exact (Keep.refl _).drew
      rw [← hwt0] at hHeld ⊢
      replace hwt0:=Lib.hid hwt0
      refine OrdS.tk (i:=0) (v:=.agg #[.int .i64 p.k,.int .i64 p.p,.bool p.f,.int .i64 p.g,.slice p.A p.m p.c,.int .i64 p.a,.int .i64 p.h,.int .i64 p.d,.int .i64 p.t]) rfl (by kernel_rfl) (fun _ _ _ h=>h) (by rfl) (fun Wz hW=>by obtain ⟨u0,u1,u2,u3,u4,u5,u6,u7,u8,u9,u10,u11,u12,u13,u14,u15,u16,u17,u18,u19,u20⟩:=hW;go_simp) hHeld ?_
      simp only [Act.put,List.getElem_toArray,List.getElem_cons_zero,List.setIfInBounds_toArray,List.set_cons_zero,List.set_cons_succ]
      refine OrdS.tk (i:=1) (v:=.pointer (some ⟨b3,2,none⟩)) rfl (by kernel_rfl) (fun _ _ _ h=>h) (by rfl) (fun Wz hW=>by obtain ⟨u0,u1,u2,u3,u4,u5,u6,u7,u8,u9,u10,u11,u12,u13,u14,u15,u16,u17,u18,u19,u20⟩:=hW;go_simp) hHeld ?_
      simp only [Act.put,List.getElem_toArray,List.getElem_cons_succ,List.getElem_cons_zero,List.setIfInBounds_toArray,List.set_cons_zero,List.set_cons_succ]
      refine OrdS.tk (i:=2) (v:=.slice (some ⟨g,off,none⟩) m e) rfl (by kernel_rfl) (fun _ _ _ h=>h) (by rfl) (fun Wz hW=>by obtain ⟨u0,u1,u2,u3,u4,u5,u6,u7,u8,u9,u10,u11,u12,u13,u14,u15,u16,u17,u18,u19,u20⟩:=hW;go_simp) hHeld ?_
      simp only [Act.put,List.getElem_toArray,List.getElem_cons_succ,List.getElem_cons_zero,List.setIfInBounds_toArray,List.set_cons_zero,List.set_cons_succ]
      refine OrdS.tk (i:=3) (v:=.int .i64 j) rfl (by kernel_rfl) (fun _ _ _ h=>h) (by rfl) (fun Wz hW=>by obtain ⟨u0,u1,u2,u3,u4,u5,u6,u7,u8,u9,u10,u11,u12,u13,u14,u15,u16,u17,u18,u19,u20⟩:=hW;go_simp) hHeld ?_
      simp only [Act.put,List.getElem_toArray,List.getElem_cons_succ,List.getElem_cons_zero,List.setIfInBounds_toArray,List.set_cons_zero,List.set_cons_succ]
      refine OrdS.tk (i:=4) (v:=.pointer (some ⟨g,oo,none⟩)) rfl (by kernel_rfl) (fun _ _ _ h=>h) (by rfl) (fun Wz hW=>by obtain ⟨u0,u1,u2,u3,u4,u5,u6,u7,u8,u9,u10,u11,u12,u13,u14,u15,u16,u17,u18,u19,u20⟩:=hW;go_simp) hHeld ?_
      simp only [Act.put,List.getElem_toArray,List.getElem_cons_succ,List.getElem_cons_zero,List.setIfInBounds_toArray,List.set_cons_zero,List.set_cons_succ]
      refine OrdS.tk (i:=5) (v:=.agg #[.int .i64 y.k,.int .i64 y.p,.bool y.f,.int .i64 y.g,.slice y.A y.m y.c,.int .i64 y.a,.int .i64 y.h,.int .i64 y.d,.int .i64 y.t]) rfl (by kernel_rfl) (fun _ _ _ h=>h) (by rfl) (fun Wz hW=>by obtain ⟨u0,u1,u2,u3,u4,u5,u6,u7,u8,u9,u10,u11,u12,u13,u14,u15,u16,u17,u18,u19,u20⟩:=hW;go_simp) hHeld ?_
      simp only [Act.put,List.getElem_toArray,List.getElem_cons_succ,List.getElem_cons_zero,List.setIfInBounds_toArray,List.set_cons_zero,List.set_cons_succ]
      refine OrdS.tk (i:=6) (v:=.int .i64 nd) rfl (by kernel_rfl) (fun _ _ _ h=>h) (by rfl) (fun Wz hW=>by obtain ⟨u0,u1,u2,u3,u4,u5,u6,u7,u8,u9,u10,u11,u12,u13,u14,u15,u16,u17,u18,u19,u20⟩:=hW;go_simp) hHeld ?_
      simp only [Act.put,List.getElem_toArray,List.getElem_cons_succ,List.getElem_cons_zero,List.setIfInBounds_toArray,List.set_cons_zero,List.set_cons_succ]
      refine OrdS.rest_ready (rs:=[7]) (by kernel_rfl) (by simp) ?_
      refine OrdS.Each.cons rfl (fun K hK=>?_) OrdS.Each.nil
      simp only [List.getElem_toArray,List.getElem_cons_succ,List.getElem_cons_zero]
      rw [if_pos (by rfl)]
      go_simp
      refine (cS.out wt0).mono ?_
      rintro e' w4 ⟨rfl,k4⟩
      have K4:Hid (Keep wr w4):=Kwt0.out.trans k4
      replace k4:=Lib.hid k4
      go_wp2_with fail
      refine hK.out _ _ (fun _=>HELD w4 K4.out) ?_
      have hHeld:=HELD w4 K4.out
      clear hK K
      try simp only [Act.put,List.getElem_toArray,List.getElem_cons_succ,List.getElem_cons_zero,List.setIfInBounds_toArray,List.set_cons_zero,List.set_cons_succ]
      refine OrdS.rest_done (by kernel_rfl) ?_ _
      clear hHeld HELD Kwt0 hwt0 cS
      cases sb with
      | true =>
        have hs2:=hs.out
        rw [if_pos rfl] at hs2
        have L2:Hid (M ++ [y] = (T13.lst P (j + 1)).filter (seesB p nd)):=by show _ = _;rw [hs2,LT.out]
        have LN2:Hid ((M ++ [y]).length = k + 1):=by show _ = _;rw [List.length_append,LN.out];rfl
        have FM:Hid ((M ++ [y]).flatMap PodV.cells = M.flatMap PodV.cells ++ y.cells):=by show _ = _;rw [List.flatMap_append,List.flatMap_singleton]
        clear hs2
        have Y4:=Y.out.keep K4.out
        have x0:=Y4.e0;have x1:=Y4.e1;have x2:=Y4.e2;have x3:=Y4.e3;have x4:=Y4.e4;have x5:=Y4.e5;have x6:=Y4.e6;have x7:=Y4.e7;have x8:=Y4.e8
        clear Y4
        obtain ⟨d0,d1,d2,_⟩:=rc_cells (Keep.block K4.out B3r.out)
        simp only at d0 d1 d2
        have gsz:Hid (W0.heap.size≤w4.heap.size):=(KR.out.trans K4.out).size
        have RW4:=Lib.hid (own_keep RW.out K4.out)
        have C1:Hid ((w4.alloc (.cells (podB y) 26)).heap[w4.heap.size]? = some (.cells (podB y) 26 (0,0))):=heap_alloc_new _ _
        unfold podB at C1
        go_wp2_with (at_builtin;refine wpl_own Tryz.tyP13 rfl _ _ rfl W0.heap.size (.slice D k d) k (M.flatMap PodV.cells) (by simp [Act.eval]) (own_keep RW4.out (Keep.one _ _)) (.slice (some ⟨w4.heap.size,0,none⟩) 1 1) 1 y.cells (by simp [Act.eval]) (src_one C1.out) (cells_one _) (by omega) (by rw [World.size_alloc];have:=gsz.out;omega) (k + 1) rfl ?_;intro v3 w5 hr3 hg3)
        have K5:Hid (Keep W0 w5):=keep_grown ((KR.out.trans K4.out).trans (Keep.one _ _)) hg3 (fun q hq=>(RW4.out.lt q hq).1)
        obtain ⟨D4,d4,hD4,_⟩:=own_form hr3
        subst hD4
        rw [← FM.out] at hr3
        replace hr3:=Lib.hid hr3
        replace hg3:=Lib.hid hg3
        clear x0 x1 x2 x3 x4 x5 x6 x7 x8 d0 d1 d2 c0 c1 c2 q1
        go_wp2
        go_roundg (m - (j + 1))
        case measure=>omega
        case rel=>exact ⟨j + 1,k + 1,D4,d4,M ++ [y],hlt,rfl,rfl,by go_num,by omega,K5,hr3,L2,LN2⟩
      | false =>
        have hs2:=hs.out
        rw [if_neg (by decide),List.append_nil] at hs2
        have L2:Hid (M = (T13.lst P (j + 1)).filter (seesB p nd)):=by show _ = _;rw [hs2,LT.out]
        have K5:Hid (Keep W0 w4):=KR.out.trans K4.out
        have RW4:=Lib.hid (own_keep RW.out K4.out)
        clear hs2 c0 c1 c2 q1
        go_wp2
        go_roundg (m - (j + 1))
        case measure=>omega
        case rel=>exact ⟨j + 1,k,D,d,M,hlt,rfl,rfl,by go_num,by omega,K5,RW4,L2,LN⟩
    · obtain rfl:j = m:=by omega
      obtain rfl:M = L:=by rw [hL.out,LT.out]
      have ln:=LN.out
      have mem:∀ t,t < M.length→PodIs wr (row M t):=fun t ht=>by
        have hm:row M t ∈ M:=by
          unfold row
          rw [List.getD_eq_getElem?_getD,List.getElem?_eq_getElem ht]
          exact List.getElem_mem _
        rw [LT.out,List.mem_filter] at hm
        obtain ⟨i,hi,e1⟩:=lst_mem.1 hm.1
        rw [LT.out,← e1]
        exact (R0.out.is i hi).keep KR.out
      have fin:Hid (RdPods wr D M.length (row M)∧M.length≤j):=by
        have h2:=RW.out
        rw [← podCs_row,← ln] at h2
        exact ⟨own_rd h2 (by omega) mem,by omega⟩
      have K5:Hid (Keep w wr):=K0.out.trans KR.out
      have FR:Hid (∀ g o,D = some ⟨g,o,none⟩→w.heap.size≤g):=fun g o h=>by
        have h1:=(RW.out.lt g (by rw [h];rfl)).1
        have h2:=K0.out.size
        omega
      clear mem
      go_wp2
      go_ret
      exact ⟨D,d,by rw [ln];rfl,K5.out,fin.out.1,fin.out.2,fun g o h=>by subst h;exact FR.out g o rfl⟩
set_option maxRecDepth 100000 in
set_option maxHeartbeats 8000000 in
theorem r16has_fn (A:Option Addr) (n c:Nat) (Z:Nat→Int) (k:Int) (w:World) (hA:Rd w A n Z) (b:Bool) (hb:b = true ↔ ∃ j,j < n∧Z j = k):Calls Tryz.prog 36 #[.slice A n c,.int .i64 k] w fun e w'=>e = .returned (.bool b)∧Keep w w':=by
  have hs:=hA.small
  replace hA:=Lib.hid hA
  replace hb:=Lib.hid hb
  go_enter Tryz.func36,Tryz.ntmps36
  go_wp2
  go_loopg [5] n (fun gx s5 wr=>∃ j:Nat,j≤n∧gx = n - j∧s5 = .int .i64 j∧wr = w∧Hid (∀ t,t < j→Z t≠k))
  case atStart=>exact ⟨0,Nat.zero_le _,rfl,rfl,rfl,fun t h=>absurd h (Nat.not_lt_zero _)⟩
  case round =>
    obtain ⟨j,hj,rfl,rfl,rfl,NO⟩:=hrel
    by_cases hlt:j < n
    · obtain ⟨g,off,hA',ca⟩:=hA.out.adr (by omega)
      subst hA'
      have q1:=int_at g off n c j hlt
      have x0:=ca j hlt
      clear ca
      obtain ⟨z,hz⟩:∃ z,z = Z j:=⟨_,rfl⟩
      rw [← hz] at x0
      by_cases h:z = k
      · have b1:(z == k) = true:=by simp [h]
        have e1:Hid (b = true):=hb.out.2 ⟨j,hlt,by rw [← hz,h]⟩
        replace h:=Lib.hid h
        replace hz:=Lib.hid hz
        go_wp2
        go_ret
        exact ⟨by rw [e1.out];rfl,Keep.refl _⟩
      · have b1:(z == k) = false:=by simp [h]
        have NO2:Hid (∀ t,t < j + 1→Z t≠k):=fun t ht=>by
          by_cases e:t = j
          · rw [e,← hz];exact h
          · exact NO.out t (by omega)
        replace h:=Lib.hid h
        replace hz:=Lib.hid hz
        go_wp2
        go_roundg (n - (j + 1))
        case measure=>omega
        case rel=>exact ⟨j + 1,hlt,rfl,by go_num,rfl,NO2⟩
    · obtain rfl:j = n:=by omega
      have e1:Hid (b = false):=by
        show _ = _
        cases h:b with
        | false=>rfl
        | true =>
          obtain ⟨t,ht,e⟩:=hb.out.1 h
          exact absurd e (NO.out t ht)
      go_wp2
      go_ret
      exact ⟨by rw [e1.out];rfl,Keep.refl _⟩
end Go.Proofs.YtclfbplbccehkaaGreatDoor.T16

