/-
  The reference's cluster as a value; its Find. No condition.
  The reference's comparisons, whatever they answer. No condition.
-/
import Derived.Test.YtnclkefddkgojaaGreatDoorB6
import Derived.Test.YtnclkefddkgojaaGreatDoorB7
namespace Go.Proofs.YtnclkefddkgojaaGreatDoor.T14
open Go.RowKit Go.Sort Go.Lib V12 T13
structure RcV where
  d:Int
  A:Option Addr
  n:Nat
  c:Nat
  B:Option Addr
  m:Nat
  e:Nat
def RcV.val (x:RcV):Value:=.agg #[.int .i64 x.d,.slice x.A x.n x.c,.slice x.B x.m x.e]
def RcV.arr (x:RcV):Array Value:=#[.int .i64 x.d,.slice x.A x.n x.c,.slice x.B x.m x.e]
theorem rc_cells {w:World} {b:Nat} {x:RcV} {T:TypeId} (h:w.heap[b]? = some (.cells x.arr T (0,0))):w.cell? ⟨b,0,none⟩ = some (.int .i64 x.d)∧w.cell? ⟨b,1,none⟩ = some (.slice x.A x.n x.c)∧w.cell? ⟨b,2,none⟩ = some (.slice x.B x.m x.e)∧∀ i,w.frozen? ⟨b,i,none⟩ = false:=by
  refine ⟨?_,?_,?_,fun i=>frozen_of_row w b i _ _ h⟩ <;> rw [cell_of_row w b _ _ _ _ h] <;> rfl
def put3 (w:World) (s:Nat) (x:RcV):World:=((w.setCell ⟨s,0,none⟩ (.int .i64 x.d)).setCell ⟨s,1,none⟩ (.slice x.A x.n x.c)).setCell ⟨s,2,none⟩ (.slice x.B x.m x.e)
theorem three_set {w:World} {s:Nat} {a0 a1 a2 u:Value} {T:TypeId} (h:w.heap[s]? = some (.cells #[a0,a1,a2] T (0,0))) :
    (w.setCell ⟨s,0,none⟩ u).heap[s]? = some (.cells #[u,a1,a2] T (0,0))∧(w.setCell ⟨s,1,none⟩ u).heap[s]? = some (.cells #[a0,u,a2] T (0,0))∧(w.setCell ⟨s,2,none⟩ u).heap[s]? = some (.cells #[a0,a1,u] T (0,0)):=by
  have hlt:=lt_of_block h
  have h':w.heap[s] = .cells #[a0,a1,a2] T (0,0):=by simpa [Array.getElem?_eq_getElem hlt] using h
  refine ⟨?_,?_,?_⟩
  all_goals
    show (w.heap.modify s _)[s]? = _
    rw [Array.getElem?_eq_getElem (by simpa using hlt),Array.getElem_modify_self,h']
    rfl
theorem put3_heap {w:World} {s:Nat} (x y:RcV) {T:TypeId} (h:w.heap[s]? = some (.cells y.arr T (0,0))):(put3 w s x).heap[s]? = some (.cells x.arr T (0,0)) :=
  (three_set (three_set (three_set h).1).2.1).2.2
theorem put3_keep {w0 w:World} {s:Nat} (x:RcV) (k:Keep w0 w) (hs:w0.heap.size≤s):Keep w0 (put3 w s x):=((k.set hs _).set hs _).set hs _
theorem put3_block {w:World} {s k:Nat} (x:RcV) (h:k≠s):(put3 w s x).heap[k]? = w.heap[k]?:=by
  unfold put3
  repeat rw [Below.heap_setCell _ _ _ _ h]
theorem put3_size (w:World) (s:Nat) (x:RcV):(put3 w s x).heap.size = w.heap.size:=by unfold put3;simp
def zrc:RcV:=⟨0,none,0,0,none,0,0⟩
def RcV.with (x:RcV) (B:Option Addr) (m e:Nat):RcV:=⟨x.d,x.A,x.n,x.c,B,m,e⟩
theorem key_nv (L:List C14.NdC):nk (L.map nv) = C14.keys L:=by unfold nk G.keys C14.keys;rw [List.map_map];rfl
set_option maxRecDepth 100000 in
set_option maxHeartbeats 4000000 in
theorem rfindN_fn (x:RcV) (P:Nat→C14.NdC) (id:Int) (w:World) (hR:C14.RdN w x.A x.n P):Calls Tryz.prog 37 #[x.val,.int .i64 id] w fun e w'=>e = .returned (.int .i64 (C14.findN P id x.n))∧w' = w.alloc (.cells x.arr 30):=by
  obtain ⟨xd,A,n,c,B,m,e⟩:=x
  simp only at hR ⊢
  have hX:=heap_alloc_new w (.cells (RcV.arr ⟨xd,A,n,c,B,m,e⟩) 30)
  have KW:Keep w (w.alloc (.cells (RcV.arr ⟨xd,A,n,c,B,m,e⟩) 30)):=Keep.one _ _
  have RW:=Lib.hid (hR.keep KW)
  obtain ⟨c0,c1,c2,cf⟩:=rc_cells hX
  have hn:=hR.small
  unfold RcV.arr at *
  unfold RcV.val
  simp only at c0 c1 c2 cf RW
  obtain ⟨r,hr⟩:∃ r,r = C14.findN P id n:=⟨_,rfl⟩
  rw [← hr]
  replace hr:=Lib.hid hr
  replace hX:=Lib.hid hX
  replace KW:=Lib.hid KW
  clear hR
  go_enter Tryz.func37,Tryz.ntmps37
  go_wp2
  go_loopg [5] n (fun gx s5 wr=>∃ j:Nat,j≤n∧gx = n - j∧s5 = .int .i64 j∧wr = w.alloc (.cells #[.int .i64 xd,.slice A n c,.slice B m e] 30)∧Hid (∀ t,t < j→(P t).k≠id))
  case atStart=>exact ⟨0,Nat.zero_le _,rfl,rfl,rfl,fun t h=>absurd h (Nat.not_lt_zero _)⟩
  case round =>
    obtain ⟨j,hj,rfl,rfl,rfl,NO⟩:=hrel
    by_cases hlt:j < n
    · obtain ⟨g,off,hA,ca⟩:=RW.out.adr (by omega)
      subst hA
      have q1:=C14.atN g off n c j hlt
      have x0:=(ca j hlt).e0
      clear ca
      by_cases hk:(P j).k = id
      · have e:r = (j:Int):=by rw [hr.out];exact C14.find_at hk NO.out hlt
        obtain ⟨k,hkk⟩:∃ k,k = (P j).k:=⟨_,rfl⟩
        rw [← hkk] at x0 hk
        replace hkk:=Lib.hid hkk
        subst hk
        subst e
        go_wp2
        go_ret
        exact ⟨rfl,rfl⟩
      · have NO2:Hid (∀ t,t < j + 1→(P t).k≠id):=fun t ht=>by
          by_cases e:t = j
          · rw [e];exact hk
          · exact NO.out t (by omega)
        obtain ⟨k,hkk⟩:∃ k,k = (P j).k:=⟨_,rfl⟩
        rw [← hkk] at x0 hk
        replace hkk:=Lib.hid hkk
        go_wp2
        go_roundg (n - (j + 1))
        case measure=>omega
        case rel=>exact ⟨j + 1,hlt,rfl,by go_num,rfl,NO2⟩
    · obtain rfl:j = n:=by omega
      have e:r = -1:=by rw [hr.out];exact C14.find_no NO.out
      subst e
      go_wp2
      go_ret
      exact ⟨rfl,rfl⟩
end Go.Proofs.YtnclkefddkgojaaGreatDoor.T14

namespace Go.Proofs.YtnclkefddkgojaaGreatDoor.T14
open Go.RowKit Go.Sort Go.Lib V12 T13
def spB (x y:PodV):Bool:=decide (x.k = y.k∧x.p = y.p∧x.f = y.f∧x.g = y.g∧sameB x.m x.Z y.m y.Z = true∧x.a = y.a∧x.h = y.h∧x.d = y.d∧x.t = y.t)
theorem spB_iff {x y:PodV}:spB x y = true ↔ (x.k = y.k∧x.p = y.p∧x.f = y.f∧x.g = y.g∧sameB x.m x.Z y.m y.Z = true∧x.a = y.a∧x.h = y.h∧x.d = y.d∧x.t = y.t):=by unfold spB;exact decide_eq_true_iff
set_option maxRecDepth 100000 in
set_option maxHeartbeats 16000000 in
theorem rsamepod_any (x y:PodV) (w:World) (hx:PodIs w x) (hy:PodIs w y):Calls Tryz.prog 15 #[x.val,y.val] w fun e w'=>e = .returned (.bool (spB x y))∧Gr w w':=by
  obtain ⟨b,hb⟩:∃ b,b = spB x y:=⟨_,rfl⟩
  rw [← hb]
  have no:Hid (∀ {p:Prop},(spB x y = true→p)→¬ p→b = false):=fun h hn=>by
    rw [hb]
    cases hc:spB x y with
    | false=>rfl
    | true=>exact absurd (h hc) hn
  replace hb:=Lib.hid hb
  obtain ⟨r,hr⟩:∃ r,r = sameB x.m x.Z y.m y.Z:=⟨_,rfl⟩
  have hs:=fun W (K:Keep w W)=>rsame_is x.A y.A x.m y.m x.c y.c x.Z y.Z W (hx.rd.keep K) (hy.rd.keep K) r hr.symm
  replace hs:=Lib.hid hs
  replace hr:=Lib.hid hr
  clear hx hy
  unfold PodV.val
  by_cases h0:x.k = y.k
  · rw [h0]
    replace h0:=Lib.hid h0
    by_cases h1:x.p = y.p
    · rw [h1]
      replace h1:=Lib.hid h1
      by_cases h2:x.f = y.f
      · rw [h2]
        replace h2:=Lib.hid h2
        by_cases h3:x.g = y.g
        · rw [h3]
          replace h3:=Lib.hid h3
          cases r with
          | false =>
            have hbv:Hid (b = false):=no.out (fun h=>(spB_iff.1 h).2.2.2.2.1) (by rw [← hr.out];decide)
            go_enter Tryz.func15,Tryz.ntmps15
            go_wp2_with fail
            refine (hs.out _ (((Keep.refl w).alloc _).alloc _)).mono ?_
            rintro e w1 ⟨rfl,q,rfl⟩
            go_wp2
            go_ret
            exact ⟨by rw [hbv.out] <;> first | rfl | simp [go_sem, *],(((Gr.refl w).alloc _).alloc _).drewN q⟩
          | true =>
            by_cases h5:x.a = y.a
            · rw [h5]
              replace h5:=Lib.hid h5
              by_cases h6:x.h = y.h
              · rw [h6]
                replace h6:=Lib.hid h6
                by_cases h7:x.d = y.d
                · rw [h7]
                  replace h7:=Lib.hid h7
                  by_cases h8:x.t = y.t
                  · rw [h8]
                    replace h8:=Lib.hid h8
                    have hbv:Hid (b = true):=by show _ = _;rw [hb.out];exact spB_iff.2 ⟨h0.out,h1.out,h2.out,h3.out,hr.out.symm,h5.out,h6.out,h7.out,h8.out⟩
                    replace hr:=Lib.hid hr.out
                    go_enter Tryz.func15,Tryz.ntmps15
                    go_wp2_with fail
                    refine (hs.out _ (((Keep.refl w).alloc _).alloc _)).mono ?_
                    rintro e w1 ⟨rfl,q,rfl⟩
                    go_wp2
                    go_ret
                    exact ⟨by rw [hbv.out] <;> first | rfl | simp [go_sem, *],(((Gr.refl w).alloc _).alloc _).drewN q⟩
                  · have hbv:Hid (b = false):=no.out (fun h=>(spB_iff.1 h).2.2.2.2.2.2.2.2) h8
                    have e8:(x.t == y.t) = false:=by simpa using h8
                    go_enter Tryz.func15,Tryz.ntmps15
                    go_wp2_with fail
                    refine (hs.out _ (((Keep.refl w).alloc _).alloc _)).mono ?_
                    rintro e w1 ⟨rfl,q,rfl⟩
                    go_wp2
                    go_ret
                    exact ⟨by rw [hbv.out] <;> first | rfl | simp [go_sem, *],(((Gr.refl w).alloc _).alloc _).drewN q⟩
                · have hbv:Hid (b = false):=no.out (fun h=>(spB_iff.1 h).2.2.2.2.2.2.2.1) h7
                  have e7:(x.d == y.d) = false:=by simpa using h7
                  go_enter Tryz.func15,Tryz.ntmps15
                  go_wp2_with fail
                  refine (hs.out _ (((Keep.refl w).alloc _).alloc _)).mono ?_
                  rintro e w1 ⟨rfl,q,rfl⟩
                  go_wp2
                  go_ret
                  exact ⟨by rw [hbv.out] <;> first | rfl | simp [go_sem, *],(((Gr.refl w).alloc _).alloc _).drewN q⟩
              · have hbv:Hid (b = false):=no.out (fun h=>(spB_iff.1 h).2.2.2.2.2.2.1) h6
                have e6:(x.h == y.h) = false:=by simpa using h6
                go_enter Tryz.func15,Tryz.ntmps15
                go_wp2_with fail
                refine (hs.out _ (((Keep.refl w).alloc _).alloc _)).mono ?_
                rintro e w1 ⟨rfl,q,rfl⟩
                go_wp2
                go_ret
                exact ⟨by rw [hbv.out] <;> first | rfl | simp [go_sem, *],(((Gr.refl w).alloc _).alloc _).drewN q⟩
            · have hbv:Hid (b = false):=no.out (fun h=>(spB_iff.1 h).2.2.2.2.2.1) h5
              have e5:(x.a == y.a) = false:=by simpa using h5
              go_enter Tryz.func15,Tryz.ntmps15
              go_wp2_with fail
              refine (hs.out _ (((Keep.refl w).alloc _).alloc _)).mono ?_
              rintro e w1 ⟨rfl,q,rfl⟩
              go_wp2
              go_ret
              exact ⟨by rw [hbv.out] <;> first | rfl | simp [go_sem, *],(((Gr.refl w).alloc _).alloc _).drewN q⟩
        · have hbv:Hid (b = false):=no.out (fun h=>(spB_iff.1 h).2.2.2.1) h3
          have e3:(x.g == y.g) = false:=by simpa using h3
          go_enter Tryz.func15,Tryz.ntmps15
          go_wp2
          go_ret
          exact ⟨by rw [hbv.out] <;> first | rfl | simp [go_sem, *],((Gr.refl w).alloc _).alloc _⟩
      · have hbv:Hid (b = false):=no.out (fun h=>(spB_iff.1 h).2.2.1) h2
        have e2:(x.f == y.f) = false:=by simpa using h2
        go_enter Tryz.func15,Tryz.ntmps15
        go_wp2
        go_ret
        exact ⟨by rw [hbv.out] <;> first | rfl | simp [go_sem, *],((Gr.refl w).alloc _).alloc _⟩
    · have hbv:Hid (b = false):=no.out (fun h=>(spB_iff.1 h).2.1) h1
      have e1:(x.p == y.p) = false:=by simpa using h1
      go_enter Tryz.func15,Tryz.ntmps15
      go_wp2
      go_ret
      exact ⟨by rw [hbv.out] <;> first | rfl | simp [go_sem, *],((Gr.refl w).alloc _).alloc _⟩
  · have hbv:Hid (b = false):=no.out (fun h=>(spB_iff.1 h).1) h0
    have e0:(x.k == y.k) = false:=by simpa using h0
    go_enter Tryz.func15,Tryz.ntmps15
    go_wp2
    go_ret
    exact ⟨by rw [hbv.out] <;> first | rfl | simp [go_sem, *],((Gr.refl w).alloc _).alloc _⟩
def ssB (n:Nat) (P:Nat→PodV) (m:Nat) (Q:Nat→PodV):Bool:=decide (n = m∧∀ j,j < n→spB (P j) (Q j) = true)
set_option maxRecDepth 100000 in
set_option maxHeartbeats 16000000 in
theorem rsame6_any (A B:Option Addr) (n m c d:Nat) (P Q:Nat→PodV) (w:World) (hP:RdPods w A n P) (hQ:RdPods w B m Q) :
    Calls Tryz.prog 39 #[.slice A n c,.slice B m d] w fun e w'=>e = .returned (.bool (ssB n P m Q))∧Gr w w':=by
  have mixed:Tryz.prog.follows .mixedOrders = true:=by kernel_rfl
  obtain ⟨r,hr⟩:∃ r,r = ssB n P m Q:=⟨_,rfl⟩
  rw [← hr]
  have hr:Hid (r = true ↔ n = m∧∀ j,j < n→spB (P j) (Q j) = true):=by show _ ↔ _;rw [hr];unfold ssB;exact decide_eq_true_iff
  have no:Hid (¬ (n = m∧∀ j,j < n→spB (P j) (Q j) = true)→r = false):=fun h=>by
    cases hc:r with
    | false=>rfl
    | true=>exact absurd (hr.out.1 hc) h
  have hn:=hP.small
  have hm:=hQ.small
  by_cases hnm:n = m
  · subst hnm
    replace hP:=Lib.hid hP
    replace hQ:=Lib.hid hQ
    go_enter Tryz.func39,Tryz.ntmps39
    go_wp2
    go_loopg [5] n (fun gx s5 wr=>∃ j:Nat,j≤n∧gx = n - j∧s5 = .int .i64 j∧Hid (Gr w wr)∧Hid (∀ t,t < j→spB (P t) (Q t) = true))
    case atStart=>exact ⟨0,Nat.zero_le _,rfl,rfl,Gr.refl _,fun _ h=>absurd h (Nat.not_lt_zero _)⟩
    case round =>
      obtain ⟨j,hj,rfl,rfl,G,I⟩:=hrel
      by_cases hlt:j < n
      · have R1:=hP.out.keep G.out.keep
        have R2:=hQ.out.keep G.out.keep
        obtain ⟨b,off,hA,ca⟩:=R1.adr (by omega)
        subst hA
        obtain ⟨b',off',hB,cb⟩:=R2.adr (by omega)
        subst hB
        have q1:=pods_at b off n c j hlt
        have q2:=pods_at b' off' n d j hlt
        have X:=ca j hlt
        have Y:=cb j hlt
        obtain ⟨bv,hbv⟩:∃ bv,bv = spB (P j) (Q j):=⟨_,rfl⟩
        have hk:∀ (n:Nat) (os:Array Obj),Calls Tryz.prog 15 #[(P j).val,(Q j).val] (grow (wr.drewN n) os) fun e w'=>e = .returned (.bool bv)∧∃ q os',w' = grow ((grow (wr.drewN n) os).drewN q) os' :=
          fun n os=>by rw [hbv];exact rsamepod_any (P j) (Q j) _ ((R1.is j hlt).keep (Gr.keep ⟨n,os,rfl⟩)) ((R2.is j hlt).keep (Gr.keep ⟨n,os,rfl⟩))
        clear ca cb
        replace R1:=Lib.hid R1
        replace R2:=Lib.hid R2
        replace hbv:=Lib.hid hbv
        obtain ⟨x,hx⟩:∃ x,x = P j:=⟨_,rfl⟩
        obtain ⟨y,hy⟩:∃ y,y = Q j:=⟨_,rfl⟩
        rw [← hx] at X hk
        rw [← hy] at Y hk
        unfold PodV.val at hk
        replace hx:=Lib.hid hx
        replace hy:=Lib.hid hy
        have x0:=grows X.e0;have x1:=grows X.e1;have x2:=grows X.e2;have x3:=grows X.e3;have x4:=grows X.e4;have x5:=grows X.e5;have x6:=grows X.e6;have x7:=grows X.e7;have x8:=grows X.e8
        have y0:=grows Y.e0;have y1:=grows Y.e1;have y2:=grows Y.e2;have y3:=grows Y.e3;have y4:=grows Y.e4;have y5:=grows Y.e5;have y6:=grows Y.e6;have y7:=grows Y.e7;have y8:=grows Y.e8
        clear X Y
        go_wp2_with fail
        go_quiet_grown (first | (go_at_call 15;refine Calls.grown_of (hk _ _)))
        clear x0 x1 x2 x3 x4 x5 x6 x7 x8 y0 y1 y2 y3 y4 y5 y6 y7 y8 hk
        have G2:Hid (Gr w (grow (wr.drewN nq) osq)):=G.out.trans ⟨nq,osq,rfl⟩
        generalize grow (wr.drewN nq) osq = w2 at G2 ⊢
        cases bv with
        | true =>
          have I2:Hid (∀ t,t < j + 1→spB (P t) (Q t) = true):=fun t ht=>by
            by_cases e:t = j
            · rw [e];exact hbv.out.symm
            · exact I.out t (by omega)
          go_wp2
          go_roundg (n - (j + 1))
          case measure=>omega
          case rel=>exact ⟨j + 1,hlt,rfl,by go_num,G2,I2⟩
        | false =>
          have e:Hid (r = false):=no.out fun h=>absurd (hbv.out.trans (h.2 j hlt)) (by decide)
          go_wp2
          go_ret
          exact ⟨by rw [e.out] <;> rfl,G2.out⟩
      · obtain rfl:j = n:=by omega
        have e:Hid (r = true):=hr.out.2 ⟨by simp,I.out⟩
        go_wp2
        go_ret
        exact ⟨by rw [e.out] <;> rfl,G.out⟩
  · have e:Hid (r = false):=no.out fun h=>hnm h.1
    have hz:((n:Int) != (m:Int)) = true:=by simp;omega
    go_enter Tryz.func39,Tryz.ntmps39
    go_wp2
    go_ret
    exact ⟨by rw [e.out] <;> rfl,Gr.refl _⟩
def snB (n:Nat) (P:Nat→C14.NdC) (m:Nat) (Q:Nat→C14.NdC):Bool:=decide (n = m∧∀ j,j < n→(P j).k = (Q j).k∧sameB (P j).n (P j).C (Q j).n (Q j).C = true)
set_option maxRecDepth 100000 in
set_option maxHeartbeats 16000000 in
theorem rsamen_any (A B:Option Addr) (n m c d:Nat) (P Q:Nat→C14.NdC) (w:World) (hP:C14.RdC w A n P) (hQ:C14.RdC w B m Q) :
    Calls Tryz.prog 44 #[.slice A n c,.slice B m d] w fun e w'=>e = .returned (.bool (snB n P m Q))∧Keep w w':=by
  have mixed:Tryz.prog.follows .mixedOrders = true:=by kernel_rfl
  obtain ⟨r,hr⟩:∃ r,r = snB n P m Q:=⟨_,rfl⟩
  rw [← hr]
  have hr:Hid (r = true ↔ n = m∧∀ j,j < n→(P j).k = (Q j).k∧sameB (P j).n (P j).C (Q j).n (Q j).C = true):=by show _ ↔ _;rw [hr];unfold snB;exact decide_eq_true_iff
  have no:Hid (¬ (n = m∧∀ j,j < n→(P j).k = (Q j).k∧sameB (P j).n (P j).C (Q j).n (Q j).C = true)→r = false):=fun h=>by
    cases hc:r with
    | false=>rfl
    | true=>exact absurd (hr.out.1 hc) h
  have hn:=hP.row.small
  have hm:=hQ.row.small
  by_cases hnm:n = m
  · subst hnm
    replace hP:=Lib.hid hP
    replace hQ:=Lib.hid hQ
    go_enter Tryz.func44,Tryz.ntmps44
    go_wp2
    go_loopg [5] n (fun gx s5 wr=>∃ j:Nat,j≤n∧gx = n - j∧s5 = .int .i64 j∧Hid (Keep w wr)∧Hid (∀ t,t < j→(P t).k = (Q t).k∧sameB (P t).n (P t).C (Q t).n (Q t).C = true))
    case atStart=>exact ⟨0,Nat.zero_le _,rfl,rfl,Keep.refl _,fun _ h=>absurd h (Nat.not_lt_zero _)⟩
    case round =>
      obtain ⟨j,hj,rfl,rfl,G,I⟩:=hrel
      by_cases hlt:j < n
      · have R1:=hP.out.keep G.out
        have R2:=hQ.out.keep G.out
        obtain ⟨b,off,hA,ca⟩:=R1.row.adr (by omega)
        subst hA
        obtain ⟨b',off',hB,cb⟩:=R2.row.adr (by omega)
        subst hB
        have q1:=C14.atN b off n c j hlt
        have q2:=C14.atN b' off' n d j hlt
        have x0:=(ca j hlt).e0
        have y0:=(cb j hlt).e0
        have x1:=(ca j hlt).e1
        have y1:=(cb j hlt).e1
        obtain ⟨bv,hbv⟩:∃ bv,bv = sameB (P j).n (P j).C (Q j).n (Q j).C:=⟨_,rfl⟩
        have hk:∀ (n:Nat) (os:Array Obj),Calls Tryz.prog 27 #[.slice (P j).A (P j).n (P j).c,.slice (Q j).A (Q j).n (Q j).c] (grow (wr.drewN n) os) fun e w'=>e = .returned (.bool bv)∧∃ q os',w' = grow ((grow (wr.drewN n) os).drewN q) os' :=
          fun n os=>(rsame_is (P j).A (Q j).A (P j).n (Q j).n (P j).c (Q j).c (P j).C (Q j).C _ ((R1.rd j hlt).keep (Gr.keep ⟨n,os,rfl⟩)) ((R2.rd j hlt).keep (Gr.keep ⟨n,os,rfl⟩)) bv hbv.symm).mono fun _ _ ⟨h,q,hq⟩=>⟨h,q,#[],by rw [grow_empty];exact hq⟩
        clear ca cb
        replace R1:=Lib.hid R1
        replace R2:=Lib.hid R2
        replace hbv:=Lib.hid hbv
        obtain ⟨pk,hpk⟩:∃ v,v = (P j).k:=⟨_,rfl⟩
        obtain ⟨qk,hqk⟩:∃ v,v = (Q j).k:=⟨_,rfl⟩
        rw [← hpk] at x0
        rw [← hqk] at y0
        generalize (P j).A = pA at x1 hk
        generalize (P j).c = pc at x1 hk
        generalize hpn:(P j).n = pn at x1 hk
        generalize (Q j).A = qA at y1 hk
        generalize (Q j).c = qc at y1 hk
        generalize hqn:(Q j).n = qn at y1 hk
        replace hpk:=Lib.hid hpk
        replace hqk:=Lib.hid hqk
        replace hpn:=Lib.hid hpn
        replace hqn:=Lib.hid hqn
        by_cases hkk:pk = qk
        · have hz:(pk != qk) = false:=by simp [hkk]
          have hkq:Hid ((P j).k = (Q j).k):=by show _ = _;rw [← hpk.out,← hqk.out];exact hkk
          rw [hkk] at x0
          have hkk:=Lib.hid hkk
          replace x0:=grows x0
          replace y0:=grows y0
          replace x1:=grows x1
          replace y1:=grows y1
          go_wp2_with fail
          go_quiet_grown (first | (go_at_call 27;refine Calls.grown_of (hk _ _)))
          clear x0 x1 y0 y1 hk
          have G2:Hid (Keep w (grow (wr.drewN nq) osq)):=G.out.trans (Gr.keep ⟨nq,osq,rfl⟩)
          generalize grow (wr.drewN nq) osq = w2 at G2 ⊢
          cases bv with
          | true =>
            have I2:Hid (∀ t,t < j + 1→(P t).k = (Q t).k∧sameB (P t).n (P t).C (Q t).n (Q t).C = true):=fun t ht=>by
              by_cases e:t = j
              · rw [e];exact ⟨hkq.out,hbv.out.symm⟩
              · exact I.out t (by omega)
            go_wp2
            go_roundg (n - (j + 1))
            case measure=>omega
            case rel=>exact ⟨j + 1,hlt,rfl,by go_num,G2,I2⟩
          | false =>
            have e:Hid (r = false):=no.out fun h=>absurd (hbv.out.trans (h.2 j hlt).2) (by decide)
            go_wp2
            go_ret
            exact ⟨by rw [e.out] <;> rfl,G2.out⟩
        · have hz:(pk != qk) = true:=by simpa using hkk
          have e:Hid (r = false):=no.out fun h=>hkk (by rw [hpk.out,hqk.out];exact (h.2 j hlt).1)
          clear x1 y1 hk
          go_wp2_with fail
          go_quiet (fail)
          go_wp2
          go_ret
          exact ⟨by rw [e.out] <;> rfl,by first | exact G.out | exact G.out.drewN _⟩
      · obtain rfl:j = n:=by omega
        have e:Hid (r = true):=hr.out.2 ⟨by simp,I.out⟩
        go_wp2
        go_ret
        exact ⟨by rw [e.out] <;> rfl,G.out⟩
  · have e:Hid (r = false):=no.out fun h=>hnm h.1
    have hz:((n:Int) != (m:Int)) = true:=by simp;omega
    go_enter Tryz.func44,Tryz.ntmps44
    go_wp2
    go_ret
    exact ⟨by rw [e.out] <;> rfl,Keep.refl _⟩
def scB (x:RcV) (Q:Nat→C14.NdC) (P:Nat→PodV) (y:RcV) (Q':Nat→C14.NdC) (P':Nat→PodV):Bool:=decide (x.d = y.d) && snB x.n Q y.n Q' && ssB x.m P y.m P'
set_option maxRecDepth 100000 in
set_option maxHeartbeats 8000000 in
theorem rsamec_any (x y:RcV) (Q Q':Nat→C14.NdC) (P P':Nat→PodV) (w:World) (hQ:C14.RdC w x.A x.n Q) (hQ':C14.RdC w y.A y.n Q') (hP:RdPods w x.B x.m P) (hP':RdPods w y.B y.m P') :
    Calls Tryz.prog 21 #[x.val,y.val] w fun e w'=>e = .returned (.bool (scB x Q P y Q' P'))∧Keep w w':=by
  obtain ⟨d,A,n,c,B,m,e⟩:=x
  obtain ⟨d',A',n',c',B',m',e'⟩:=y
  simp only at hQ hQ' hP hP'
  unfold scB
  simp only
  obtain ⟨W0,hW0⟩:∃ W0,W0 = w.alloc (.cells (RcV.arr ⟨d,A,n,c,B,m,e⟩) 30):=⟨_,rfl⟩
  obtain ⟨W,hW⟩:∃ W,W = W0.alloc (.cells (RcV.arr ⟨d',A',n',c',B',m',e'⟩) 30):=⟨_,rfl⟩
  obtain ⟨bx,hbx⟩:∃ bx,bx = w.heap.size:=⟨_,rfl⟩
  obtain ⟨b,hb⟩:∃ b,b = w.heap.size + 1:=⟨_,rfl⟩
  have s0:W0.heap.size = b:=by rw [hW0,World.size_alloc,hb]
  have KW:Hid (Keep w W):=by rw [hW,hW0];exact (Keep.one _ _:Keep w _).alloc _
  have BX:Hid (W.heap[bx]? = some (.cells (RcV.arr ⟨d,A,n,c,B,m,e⟩) 30 (0,0))):=by show _ = _;rw [hW,hW0,hbx];exact (Keep.one _ _).block (heap_alloc_new _ _)
  have BY:Hid (W.heap[b]? = some (.cells (RcV.arr ⟨d',A',n',c',B',m',e'⟩) 30 (0,0))):=by show _ = _;rw [hW,← s0];exact heap_alloc_new _ _
  obtain ⟨v,hv⟩:∃ v,v = snB n Q n' Q':=⟨_,rfl⟩
  obtain ⟨u,hu⟩:∃ u,u = ssB m P m' P':=⟨_,rfl⟩
  have cN:Hid (Calls Tryz.prog 44 #[.slice A n c,.slice A' n' c'] W fun e w'=>e = .returned (.bool v)∧Keep W w'):=by rw [hv];exact rsamen_any A A' n n' c c' Q Q' W (hQ.keep KW.out) (hQ'.keep KW.out)
  have cP:Hid (∀ W',Keep W W'→Calls Tryz.prog 39 #[.slice B m e,.slice B' m' e'] W' fun e w'=>e = .returned (.bool u)∧Keep W w'):=fun W' k=>by rw [hu];exact (rsame6_any B B' m m' e e' P P' W' (hP.keep (KW.out.trans k)) (hP'.keep (KW.out.trans k))).mono fun _ _ h=>⟨h.1,k.trans h.2.keep⟩
  rw [← hv,← hu]
  replace hv:=Lib.hid hv
  replace hu:=Lib.hid hu
  obtain ⟨x0,x1,x2,xf⟩:=rc_cells BX.out
  obtain ⟨y0,y1,y2,yf⟩:=rc_cells BY.out
  simp only at x0 x1 x2 y0 y1 y2
  have x0e:=x0
  have y0e:=y0
  rw [hW,hW0] at x0e y0e
  simp only [RcV.arr] at hW0 hW x0e y0e
  simp only [RcV.val]
  clear hQ hQ' hP hP'
  by_cases hd:d = d'
  · subst hd
    have hdt:decide (d = d) = true:=decide_eq_true rfl
    go_enter Tryz.func21,Tryz.ntmps21
    go_wp2_with fail
    clear x0e y0e
    rw [← hW0,← hW,← hb]
    try rw [← hbx]
    replace hW0:=Lib.hid hW0
    replace hW:=Lib.hid hW
    replace hb:=Lib.hid hb
    replace hbx:=Lib.hid hbx
    replace s0:=Lib.hid s0
    refine cN.out.mono ?_
    rintro e5 w3 ⟨rfl,k3⟩
    replace k3:=Lib.hid k3
    clear x0 x1 x2 xf y0 y1 y2 yf
    obtain ⟨x0,x1,x2,xf⟩:=rc_cells (k3.out.block BX.out)
    obtain ⟨y0,y1,y2,yf⟩:=rc_cells (k3.out.block BY.out)
    simp only at x0 x1 x2 y0 y1 y2
    cases v with
    | false =>
      go_wp2
      go_ret
      exact ⟨by simp <;> rfl,KW.out.trans k3.out⟩
    | true =>
      go_wp2_with fail
      refine (cP.out w3 k3.out).mono ?_
      rintro e6 w4 ⟨rfl,k4⟩
      replace k4:=Lib.hid k4
      go_wp2
      go_ret
      exact ⟨by simp <;> rfl,KW.out.trans k4.out⟩
  · have hdt:(d == d') = false:=by simpa using hd
    have hdf:decide (d = d') = false:=decide_eq_false hd
    go_enter Tryz.func21,Tryz.ntmps21
    go_wp2
    go_ret
    rw [hdf]
    exact ⟨by simp <;> rfl,(Keep.one _ _:Keep w _).alloc _⟩
end Go.Proofs.YtnclkefddkgojaaGreatDoor.T14

