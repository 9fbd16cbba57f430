/-
  The landed cluster: Nodes. No condition.
  The landed cluster's DropNode: the pods, one after another. No walk.
-/
import Derived.Test.YtnclkefddkgojaaGreatDoorB40
import Derived.Test.YtnclkefddkgojaaGreatDoorB41
import Derived.Test.YtnclkefddkgojaaGreatDoorB43
import Derived.Test.YtnclkefddkgojaaGreatDoorB11
namespace Go.Proofs.YtnclkefddkgojaaGreatDoor.T14
open Go.RowKit Go.Sort Go.Lib V12 T13
theorem atIds (b off n cp j:Nat) (hj:j < n) (W:World):(Instr.indexAt 97 (.slice (some ⟨b,off,none⟩) n cp) (.int .i64 j)).run Tryz.prog W = .ok (.pointer (some ⟨b,off + j,none⟩)) W:=by
  go_simp
structure CapR (w:World) (d:Nat) (A:Option Addr) (C:Nat→Int):Prop where
  rd:Rd w A d C
  ty:0 < d→∀ b o,A = some ⟨b,o,none⟩→T12.Typ w b 2
theorem CapR.keep {w w':World} {d:Nat} {A:Option Addr} {C:Nat→Int} (h:CapR w d A C) (k:Keep w w'):CapR w' d A C:=⟨h.rd.keep k,fun hd b o e=>(h.ty hd b o e).keep k⟩
theorem CapR.grown {w w':World} {d base n:Nat} {A:Option Addr} {C:Nat→Int} {v:Value} {xs:List Value} (h:CapR w d A C) (hr:w.ownsRow base 50 2 v n xs) (hg:w.grownBy w' v.ownBlock):CapR w' d A C:=by
  have same:0 < d→∀ b o,A = some ⟨b,o,none⟩→w'.heap[b]? = w.heap[b]?:=fun hd b o e=>by
    have ht:=h.ty hd b o e
    refine hg.block b ht.lt fun e2=>?_
    obtain ⟨cs,loc,h1⟩:=ht
    obtain ⟨cur,h2⟩:=row_kind hr e2.symm
    rw [h1] at h2
    simp only [Option.some.injEq,Obj.cells.injEq] at h2
    exact absurd h2.2.1 (by decide)
  refine ⟨⟨h.rd.small,h.rd.range,fun hn=>?_⟩,fun hd b o e=>(h.ty hd b o e).same (same hd b o e)⟩
  obtain ⟨b,off,e,hc⟩:=h.rd.adr hn
  exact ⟨b,off,e,fun j hj=>cell_same (hc j hj) (same hn b off e)⟩
section
variable {w w1 w2:World} {d q:Nat} {M:List NV} {L:List PodV} {X Z:Nat→Prop} {qn qp:Nat} {N:List T12.NodeV} {Xn Xp:Nat→Prop}
set_option maxRecDepth 100000 in
set_option maxHeartbeats 8000000 in
theorem cnodes_fn (h:CsAt w d q M L X w1 qn qp N Xn Xp) (hl:M.length≤100):Calls Tryz.prog 17 #[.pointer (some ⟨q,0,none⟩)] w1 fun e w'=>∃ A c,e = .returned (.slice A M.length c)∧NdsAre w' d A M∧Keep w1 w':=by
  have hln:=h.len
  have cB:Hid (Calls Tryz.prog 47 #[.pointer (some ⟨q,0,none⟩)] w1 fun e w'=>e = .returned (.agg #[.pointer (some ⟨qn,0,none⟩),.pointer (some ⟨qp,0,none⟩)])∧Keep w1 w'):=both_fn h.c2.1 h.c2.2
  have cI:Hid (∀ W',Keep w1 W'→Calls Tryz.prog 49 #[.pointer (some ⟨qn,0,none⟩)] W' fun e w'=>∃ A c,e = .returned (.slice A N.length c)∧Rd w' A N.length (fun j=>(T12.nrow N j).k)∧Keep W' w'):=fun W' k=>on_ids (h.keep k).on (by omega)
  have srt:=h.on.srt
  have cG:Hid (∀ W' j,Keep w1 W'→j < N.length→Calls Tryz.prog 50 #[.pointer (some ⟨qn,0,none⟩),.int .i64 (T12.nrow N j).k] W' fun e w'=>∃ A c,e = .returned (.tuple #[.agg #[.int .i64 (T12.nrow N j).k,.slice A d c],.bool true])∧CapR w' d A (T12.nrow N j).C∧(A = none→d = 0∧c = 0)∧Keep W' w'):=fun W' j k hj=>by
    have h2:=h.keep k
    have hm:T12.nrow N j ∈ N:=by
      unfold T12.nrow
      rw [List.getD_eq_getElem?_getD,List.getElem?_eq_getElem hj]
      exact List.getElem_mem _
    have hk:(T12.nrow N j).k ∈ T12.nkeys N:=List.mem_map_of_mem hm
    have e:T12.nget N (T12.nrow N j).k = T12.nrow N j:=G.get_at (z:=T12.zn) srt hm
    refine (on_get_in h2.on _ hk).mono ?_
    rintro e' w' ⟨A,c,he,r,k3⟩
    rw [e] at r
    exact ⟨A,c,he,⟨r.rd,r.ty⟩,r.nil,k3⟩
  have hik:Hid (∀ j,j < N.length→I64 (T12.nrow N j).k):=fun j hj=>by
    refine (h.on.ok (T12.nrow N j) ?_).k
    unfold T12.nrow
    rw [List.getD_eq_getElem?_getD,List.getElem?_eq_getElem hj]
    exact List.getElem_mem _
  have hmm:Hid (M = (List.range N.length).map fun j=>nvn (T12.nrow N j)):=by
    show _ = _
    rw [← h.nds]
    refine List.ext_getElem? fun j=>?_
    rw [List.getElem?_map,List.getElem?_map]
    by_cases hj:j < N.length
    · rw [List.getElem?_range hj,List.getElem?_eq_getElem hj]
      have e:T12.nrow N j = N[j]:=by
        unfold T12.nrow
        rw [List.getD_eq_getElem?_getD,List.getElem?_eq_getElem hj]
        rfl
      show some (nvn N[j]) = some (nvn (T12.nrow N j))
      rw [e]
    · rw [List.getElem?_eq_none (by omega),List.getElem?_eq_none (by rw [List.length_range];omega)]
      rfl
  obtain ⟨n,hn⟩:∃ n,n = N.length:=⟨_,rfl⟩
  rw [← hn] at cI cG hmm hln hik
  obtain ⟨Z,hZ⟩:∃ Z:Nat→Int,Z = fun j=>(T12.nrow N j).k:=⟨_,rfl⟩
  have cG:Hid (∀ W' j,Keep w1 W'→j < n→Calls Tryz.prog 50 #[.pointer (some ⟨qn,0,none⟩),.int .i64 (Z j)] W' fun e w'=>∃ A c,e = .returned (.tuple #[.agg #[.int .i64 (Z j),.slice A d c],.bool true])∧CapR w' d A (T12.nrow N j).C∧(A = none→d = 0∧c = 0)∧Keep W' w'):=by rw [hZ];exact cG
  have hik:Hid (∀ j,j < n→I64 (Z j)):=by rw [hZ];exact hik
  have hmm:Hid (M = (List.range n).map fun j=>⟨Z j,(T12.nrow N j).C⟩):=by rw [hZ];exact hmm
  rw [← hZ] at cI
  rw [← hln]
  replace hn:=Lib.hid hn
  replace hZ:=Lib.hid hZ
  have hl2:n≤100:=by omega
  replace hln:=Lib.hid hln
  replace srt:=Lib.hid srt
  clear h hl
  go_enter Tryz.func17,Tryz.ntmps17
  go_wp2_with fail
  refine cB.out.mono ?_
  rintro e w2 ⟨rfl,k2⟩
  obtain ⟨W2,hW2⟩:∃ W2,W2 = w2.alloc (.cells #[.pointer (some ⟨qn,0,none⟩),.pointer (some ⟨qp,0,none⟩)] 77):=⟨_,rfl⟩
  obtain ⟨b3,hb3⟩:∃ b3,b3 = w2.heap.size:=⟨_,rfl⟩
  have K2:Hid (Keep w1 W2):=by rw [hW2];exact k2.alloc _
  have B3:Hid (W2.heap[b3]? = some (.cells #[.pointer (some ⟨qn,0,none⟩),.pointer (some ⟨qp,0,none⟩)] 77 (0,0))):=by show _ = _;rw [hW2,hb3];exact heap_alloc_new _ _
  obtain ⟨t0,t1,_⟩:=T12.cel2 B3.out
  rw [hW2,hb3] at t0 t1
  replace k2:=Lib.hid k2
  go_wp2_with fail
  rw [← hW2]
  try rw [← hb3]
  replace hW2:=Lib.hid hW2
  replace hb3:=Lib.hid hb3
  clear t0 t1
  refine (cI.out W2 K2.out).mono ?_
  rintro e w3 ⟨IA,ic,rfl,RI,k3⟩
  have K23:Hid (Keep W2 w3):=k3
  have K3:Hid (Keep w1 w3):=K2.out.trans k3
  have RI:=Lib.hid RI
  replace k3:=Lib.hid k3
  generalize hwo:w3 = wo at *
  clear hwo
  go_wp2
  go_loopg [4,16] n (fun gx s4 s16 wr=>∃ (j:Nat) (A2:Option Addr) (d2:Nat) (Q:Nat→C14.NdC),j≤n∧gx = n - j∧s16 = .int .i64 j∧s4 = .slice A2 j d2∧Hid (Keep wo wr)∧Hid (wr.ownsRow wo.heap.size 50 2 (.slice A2 j d2) j (C14.rnCs Q j))∧Hid (∀ t,t < j→(Q t).k = Z t∧(Q t).n = d∧(Q t).C = (T12.nrow N t).C∧CapR wr d (Q t).A (Q t).C∧((Q t).A = none→(Q t).n = 0∧(Q t).c = 0)))
  case atStart=>exact ⟨0,none,0,fun _=>C14.zp,Nat.zero_le _,rfl,rfl,rfl,Keep.refl _,World.ownsRow_nil _ _ _ _,fun _ h=>absurd h (Nat.not_lt_zero _)⟩
  case round =>
    obtain ⟨k,A2,d2,Q,hj,rfl,rfl,rfl,G,RW,FA⟩:=hrel
    by_cases hlt:k < n
    · obtain ⟨gi,offi,hIA,ci⟩:=(RI.out.keep G.out).adr (by omega)
      subst hIA
      have q1:=atIds gi offi n ic k hlt
      have v0:=ci k hlt
      clear ci
      have t0:=(T12.cel2 ((K23.out.trans G.out).block B3.out)).1
      go_wp2_with fail
      refine (cG.out wr k (K3.out.trans G.out) hlt).mono ?_
      rintro e w5 ⟨nA,nc,rfl,RN,hnil,k5⟩
      obtain ⟨x,hx⟩:∃ x:C14.NdC,x = ⟨Z k,nA,d,nc,(T12.nrow N k).C⟩:=⟨_,rfl⟩
      obtain ⟨W5,hW5⟩:∃ W5,W5 = w5.alloc (.cells #[.int .i64 (Z k),.slice nA d nc] 50):=⟨_,rfl⟩
      obtain ⟨W6,hW6⟩:∃ W6,W6 = W5.alloc (.cells #[.int .i64 (Z k),.slice nA d nc] 50):=⟨_,rfl⟩
      have K5:Hid (Keep wr W5):=by rw [hW5];exact k5.alloc _
      have K6:Hid (Keep wr W6):=by rw [hW6];exact K5.out.alloc _
      have K56:Hid (Keep w5 W6):=by rw [hW6,hW5];exact (Keep.one _ _:Keep w5 _).alloc _
      have B5:Hid (W5.heap[w5.heap.size]? = some (.cells #[.int .i64 (Z k),.slice nA d nc] 50 (0,0))):=by show _ = _;rw [hW5];exact heap_alloc_new _ _
      obtain ⟨y0,y1,_⟩:=T12.cel2 B5.out
      rw [hW5] at y0 y1
      have RN6:Hid (CapR W6 d nA (T12.nrow N k).C):=RN.keep K56.out
      have hnil:=Lib.hid hnil
      have SX:Hid (C14.SrcC W6 (.slice (some ⟨W5.heap.size,0,none⟩) 1 1) 1 x.cells):=by
        rw [hx,hW6]
        exact C14.src_one (x:=⟨Z k,nA,d,nc,(T12.nrow N k).C⟩) (heap_alloc_new _ _)
      have gsz:Hid (wo.heap.size≤W6.heap.size):=Nat.le_trans G.out.size K6.out.size
      have RW6:=Lib.hid (C14.own_keep RW.out K6.out)
      have hW6':=hW6
      rw [hW5] at hW6'
      rw [hW6',hW5] at SX
      rw [hW6'] at RW6 gsz
      replace k5:=Lib.hid k5
      replace RN:=Lib.hid RN
      replace hW6:=Lib.hid hW6
      replace hW6':=Lib.hid hW6'
      clear v0 q1 t0
      go_wp2_with (at_builtin;refine C14.wpl_own C14.Tryz.tyC14 rfl _ _ rfl wo.heap.size (.slice A2 k d2) k (C14.rnCs Q k) (by simp [Act.eval]) RW6.out (.slice (some ⟨(w5.alloc (.cells #[.int .i64 (Z k),.slice nA d nc] 50)).heap.size,0,none⟩) 1 1) 1 x.cells (by simp [Act.eval]) SX.out (C14.cells_one _) (by omega) gsz.out (k + 1) rfl ?_;intro v7 w7 hr7 hg7)
      have RW6b:=RW6.out
      rw [← hW6'.out] at hg7 RW6b
      have K7:Hid (Keep wo w7):=C14.keep_grown (G.out.trans K6.out) hg7 (fun g hg=>(RW6b.lt g hg).1)
      have FA7:Hid (∀ t,t < k + 1→(C14.put Q k x t).k = Z t∧(C14.put Q k x t).n = d∧(C14.put Q k x t).C = (T12.nrow N t).C∧CapR w7 d (C14.put Q k x t).A (C14.put Q k x t).C∧((C14.put Q k x t).A = none→(C14.put Q k x t).n = 0∧(C14.put Q k x t).c = 0)):=fun t ht=>by
        by_cases e:t = k
        · subst e
          rw [C14.put_at,hx]
          exact ⟨rfl,rfl,rfl,RN6.out.grown RW6b hg7,hnil.out⟩
        · rw [C14.put_ne _ _ _ e]
          obtain ⟨f1,f2,f3,f4,f5⟩:=FA.out t (by omega)
          exact ⟨f1,f2,f3,(f4.keep K6.out).grown RW6b hg7,f5⟩
      obtain ⟨B4,d4,hB4,_⟩:=C14.own_form hr7
      subst hB4
      rw [← C14.rnCs_put] at hr7
      replace hr7:=Lib.hid hr7
      replace hg7:=Lib.hid hg7
      clear RW6b y0 y1
      go_wp2
      go_roundg (n - (k + 1))
      case measure=>omega
      case rel=>exact ⟨k + 1,B4,d4,C14.put Q k x,hlt,rfl,by go_num,rfl,K7,hr7,FA7⟩
    · obtain rfl:k = n:=by omega
      go_wp2
      go_ret
      refine ⟨A2,d2,rfl,⟨Q,?_,?_,?_⟩,K3.out.trans G.out⟩
      · rw [← hln.out]
        refine ⟨C14.rows_rd RW.out (by omega) fun t ht=>⟨?_,trivial⟩,fun t ht=>?_,fun t ht=>(FA.out t ht).2.2.2.2⟩
        · rw [(FA.out t ht).1]
          exact hik.out t ht
        · rw [(FA.out t ht).2.1]
          exact (FA.out t ht).2.2.2.1.rd
      · rw [← hln.out,hmm.out]
        unfold C14.lst
        rw [List.map_map]
        refine List.map_congr_left fun t ht=>?_
        obtain ⟨f1,f2,f3,_⟩:=FA.out t (List.mem_range.1 ht)
        show nv (Q t) = _
        unfold nv
        rw [f1,f3]
      · intro t ht
        rw [← hln.out] at ht
        exact (FA.out t ht).2.1
end
end Go.Proofs.YtnclkefddkgojaaGreatDoor.T14

namespace Go.Proofs.YtnclkefddkgojaaGreatDoor.T14
open Go.RowKit Go.Sort Go.Lib V12 T13
def put9o (w:World) (g o:Nat) (x:PodV):World:=((((((((w.setCell ⟨g,o,none⟩ (.int .i64 x.k)).setCell ⟨g,o + 1,none⟩ (.int .i64 x.p)).setCell ⟨g,o + 2,none⟩ (.bool x.f)).setCell ⟨g,o + 3,none⟩ (.int .i64 x.g)).setCell ⟨g,o + 4,none⟩ (.slice x.A x.m x.c)).setCell ⟨g,o + 5,none⟩ (.int .i64 x.a)).setCell ⟨g,o + 6,none⟩ (.int .i64 x.h)).setCell ⟨g,o + 7,none⟩ (.int .i64 x.d)).setCell ⟨g,o + 8,none⟩ (.int .i64 x.t)
theorem put9o_block {w:World} {g o k:Nat} (x:PodV) (h:k≠g):(put9o w g o x).heap[k]? = w.heap[k]?:=by
  unfold put9o
  iterate 9 rw [Below.heap_setCell _ _ _ _ (show k≠_ from h)]
theorem put9o_size {w:World} {g o:Nat} (x:PodV):(put9o w g o x).heap.size = w.heap.size:=by unfold put9o;simp
theorem put9o_keep {w0 w:World} {g o:Nat} (x:PodV) (k:Keep w0 w) (hs:w0.heap.size≤g):Keep w0 (put9o w g o x) :=
  ((((((((k.set hs _).set hs _).set hs _).set hs _).set hs _).set hs _).set hs _).set hs _).set hs _
theorem row_step {w:World} {b0 g c n j i:Nat} {P:Nat→PodV} {x y:PodV} {u:Value} (h:w.ownsRow b0 35 9 (.slice (some ⟨g,0,none⟩) n c) n (podCs (put P j y) n)) (hj:j < n) (hi:i < 9) (hx:x.cells = y.cells.set i u):(w.setCell ⟨g,j * 9 + i,none⟩ u).ownsRow b0 35 9 (.slice (some ⟨g,0,none⟩) n c) n (podCs (put P j x) n):=by
  have e:=podCs_set (P:=put P j y) hj hi (x:=x) (u:=u) (by rw [put_at];exact hx)
  rw [put_twice] at e
  rw [e]
  exact (h.stored (j * 9 + i) u).1
theorem put_self (P:Nat→PodV) (j:Nat):put P j (P j) = P:=by
  funext t
  by_cases e:t = j
  · rw [e,put_at]
  · rw [put_ne _ _ _ e]
theorem row_put {w:World} {b0 g c n j:Nat} {P:Nat→PodV} (h:w.ownsRow b0 35 9 (.slice (some ⟨g,0,none⟩) n c) n (podCs P n)) (hj:j < n) (x:PodV):(put9o w g (j * 9) x).ownsRow b0 35 9 (.slice (some ⟨g,0,none⟩) n c) n (podCs (put P j x) n):=by
  have h0:w.ownsRow b0 35 9 (.slice (some ⟨g,0,none⟩) n c) n (podCs (put P j (P j)) n):=by rw [put_self];exact h
  obtain ⟨y,hy⟩:∃ y,y = P j:=⟨_,rfl⟩
  rw [← hy] at h0
  have a0:=row_step (x:={ y with k:=x.k }) (u:=.int .i64 x.k) (i:=0) h0 hj (by omega) rfl
  have a1:=row_step (x:={ y with k:=x.k,p:=x.p }) (u:=.int .i64 x.p) (i:=1) a0 hj (by omega) rfl
  have a2:=row_step (x:={ y with k:=x.k,p:=x.p,f:=x.f }) (u:=.bool x.f) (i:=2) a1 hj (by omega) rfl
  have a3:=row_step (x:={ y with k:=x.k,p:=x.p,f:=x.f,g:=x.g }) (u:=.int .i64 x.g) (i:=3) a2 hj (by omega) rfl
  have a4:=row_step (x:={ y with k:=x.k,p:=x.p,f:=x.f,g:=x.g,A:=x.A,m:=x.m,c:=x.c }) (u:=.slice x.A x.m x.c) (i:=4) a3 hj (by omega) rfl
  have a5:=row_step (x:={ y with k:=x.k,p:=x.p,f:=x.f,g:=x.g,A:=x.A,m:=x.m,c:=x.c,a:=x.a }) (u:=.int .i64 x.a) (i:=5) a4 hj (by omega) rfl
  have a6:=row_step (x:={ y with k:=x.k,p:=x.p,f:=x.f,g:=x.g,A:=x.A,m:=x.m,c:=x.c,a:=x.a,h:=x.h }) (u:=.int .i64 x.h) (i:=6) a5 hj (by omega) rfl
  have a7:=row_step (x:={ y with k:=x.k,p:=x.p,f:=x.f,g:=x.g,A:=x.A,m:=x.m,c:=x.c,a:=x.a,h:=x.h,d:=x.d }) (u:=.int .i64 x.d) (i:=7) a6 hj (by omega) rfl
  exact row_step (x:=x) (u:=.int .i64 x.t) (i:=8) a7 hj (by omega) rfl
theorem row_free {w:World} {b0 g c n:Nat} {xs:List Value} (h:w.ownsRow b0 35 9 (.slice (some ⟨g,0,none⟩) n c) n xs):∀ i,w.frozen? ⟨g,i,none⟩ = false:=by
  obtain ⟨cur,hc⟩:=row_kind h rfl
  intro i
  exact frozen_of_row w g i _ _ hc
section
variable {w w1 wr:World} {d q:Nat} {M:List NV} {L:List PodV} {X Z:Nat→Prop} {qn qp:Nat} {N:List T12.NodeV} {Xn Xp:Nat→Prop}
theorem CsM.own {Z:Nat→Prop} (h:CsM w d q L X w1 qn qp N Xn Xp) (hZ:∀ i,Z i→Xn i∧Xp i) (hq:¬ Z q):CsM w d q L (fun i=>X i∨Z i) w1 qn qp N Xn Xp :=
  ⟨h.blk,h.low,h.on,h.os,h.qn',h.qp',fun hh=>hh.elim h.qx hq,fun i hi=>hi.elim (h.sub i) (hZ i),h.cov⟩
theorem CsM.write {w2:World} (h:CsM w d q L X w1 qn qp N Xn Xp) (kw:Keep w w2) (hs:w1.heap.size≤w2.heap.size) (f:∀ k,k < w1.heap.size→¬ X k→w2.heap[k]? = w1.heap[k]?):CsM w d q L X w2 qn qp N (fun i=>Xn i∨newB w1 w2 i) (fun i=>Xp i∨newB w1 w2 i):=by
  have hq:q < w1.heap.size:=lt_of_block h.blk
  refine ⟨(f q hq h.qx).trans h.blk,h.low,h.on.grow kw hs (fun k hk hn=>f k hk fun hx=>hn (h.sub k hx).1) fun _ h=>h,con13.grow h.os kw hs (fun k hk hn=>f k hk fun hx=>hn (h.sub k hx).2) fun _ h=>h,Or.inl h.qn',Or.inl h.qp',h.qx,fun i h1=>⟨Or.inl (h.sub i h1).1,Or.inl (h.sub i h1).2⟩,fun i hi=>?_⟩
  by_cases h1:i < w1.heap.size
  · exact (h.cov i h1).imp Or.inl Or.inl
  · exact Or.inl (Or.inr ⟨by omega,hi⟩)
structure DI (w w1:World) (d q qn qp:Nat) (N:List T12.NodeV) (L:List PodV) (X:Nat→Prop) (id:Int) (b6 g c base n j:Nat) (wr:World) (S:Nat→PodV):Prop where
  m:∃ Yn Yp Xr,CsM w d q (drT L id j) Xr wr qn qp N Yn Yp∧(∀ i,X i→Xr i)∧Xr b6∧(0 < n→Xr g)∧∀ t,t < n→∀ k,(Value.slice (S t).A (S t).m (S t).c).ownBlock = some k→Xr k
  B:wr.heap[b6]? = some (.cells #[.pointer (some ⟨qn,0,none⟩),.pointer (some ⟨qp,0,none⟩)] 77 (0,0))
  sx:SameX X w1 wr
  rp:0 < n→RowP wr base (.slice (some ⟨g,0,none⟩) n c) n S
  nms:∀ t,t < n→nm (S t) = if t < j then drP ((L.filter (onB id)).getD t zpod) else (L.filter (onB id)).getD t zpod
  g6:b6≠g
  xl:∀ i,X i→i < w1.heap.size
  sz:w1.heap.size≤base∧base≤wr.heap.size∧base≤g∧w.heap.size≤w1.heap.size
theorem DI.apply {id:Int} {b6 g c base n j:Nat} {W5:World} {S:Nat→PodV} (h:DI w w1 d q qn qp N L X id b6 g c base n j wr S) (lok:LOk L) (hj:j < n) (hn:n = (L.filter (onB id)).length) (k5:Keep wr W5) (hs:wr.heap.size < W5.heap.size) (hid:∀ y ∈ L,I64 y.k) (hm:∀ y ∈ L,y.m≤1000) (hl:L.length≤100) (ev:Int) (hev:ev = evD ((L.filter (onB id)).getD j zpod)) :
    Calls Tryz.prog 55 #[.pointer (some ⟨qp,0,none⟩),.int .i64 (S j).k,.int .i64 ev,.int .i64 (-1),.int .i64 (-1)] W5 fun e w6=>∃ r6,e = .returned (.tuple #[r6.val,.nilIface])∧Cel9 w6 g (j * 9) (S j)∧(∀ i,w6.frozen? ⟨g,i,none⟩ = false)∧DI w w1 d q qn qp N L X id b6 g c base n (j + 1) (put9o w6 g (j * 9) r6) (put S j r6):=by
  obtain ⟨⟨Yn,Yp,Xr,hm1,hx1,hx2,hx3,hx4⟩,hB,hsx,hrp,hnm,hg6,hxl,sz1,sz2,sz3,sz4⟩:=h
  have h0:0 < n:=by omega
  obtain ⟨z,hz⟩:∃ z,z = (L.filter (onB id)).getD j zpod:=⟨_,rfl⟩
  have hzz:(L.filter (onB id))[j]? = some z:=by
    rw [hz,List.getD_eq_getElem?_getD,List.getElem?_eq_getElem (by omega)]
    rfl
  obtain ⟨s1,s2,s3,s4⟩:=drT_step lok (by omega) hzz
  have hzL:z ∈ L:=(List.mem_filter.1 (List.mem_of_getElem? hzz)).1
  have hnj:=hnm j hj
  rw [if_neg (Nat.lt_irrefl _),← hz] at hnj
  have hk:(S j).k = z.k:=by rw [← hnj];rfl
  rw [← hz] at hev
  rw [hk,hev]
  have h5:=hm1.keep k5
  have ev1:I64 (evD z):=by unfold evD I64;split <;> omega
  have hmT:∀ y ∈ drT L id j,y.m≤1000:=fun y hy=>by
    obtain ⟨y0,hy0,rfl⟩:=List.mem_map.1 hy
    split
    · exact hm y0 hy0
    · exact hm y0 hy0
  refine (h5.apply (last_new _ hs) z.k (evD z) (-1) (-1) (hid z hzL) ev1 (by unfold I64;omega) (by unfold I64;omega) hmT (by rw [drT_len];omega)).mono ?_
  rintro e w6 ⟨r6,he,a1,_,a3,a4,⟨Zn,a5,a6,a7⟩,a8,a9,_⟩
  rw [s4] at a5
  have hlt:=hm1.lt
  have same:∀ i,Xr i→w6.heap[i]? = wr.heap[i]?:=fun i hi=>(a8 i (Or.inl hi)).trans (Below.block k5 i (hlt i hi))
  have hr0:=hrp h0
  have hrow6:w6.ownsRow base 35 9 (.slice (some ⟨g,0,none⟩) n c) n (podCs S n):=own_blocks1 hr0.row fun k hk=>by
    have:g = k:=by simpa [Value.ownBlock] using hk
    exact same k (this ▸ hx3 h0)
  have hc9:=row_cel hrow6 hj
  rw [Nat.zero_add] at hc9
  have hgW:g < W5.heap.size:=Nat.lt_trans (hlt g (hx3 h0)) hs
  refine ⟨r6,by rw [he];unfold T13.fltC;rw [if_pos s3],hc9,row_free hrow6,?_⟩
  have h6:=a5.own (Z:=ownB r6) (fun i hi=>⟨a7 i (World.ownsRow.lt a4 i hi),Or.inr hi⟩) (fun hq=>by
    have:=World.ownsRow.lt a4 q hq
    have:=lt_of_block h5.blk
    omega)
  have hwg:w.heap.size≤g:=by omega
  have kp6:=h6.on.kp
  have h7:=h6.write (w2:=put9o w6 g (j * 9) r6) (put9o_keep r6 kp6 hwg) (by rw [put9o_size];exact Nat.le_refl _) fun k _ hn=>put9o_block r6 fun e=>hn (by rw [e];exact Or.inl (Or.inl (hx3 h0)))
  have offg:∀ k,k≠g→(put9o w6 g (j * 9) r6).heap[k]? = w6.heap[k]?:=fun k hk=>put9o_block r6 hk
  refine ⟨⟨_,_,_,h7,fun i hi=>Or.inl (Or.inl (hx1 i hi)),Or.inl (Or.inl hx2),fun _=>Or.inl (Or.inl (hx3 h0)),fun t ht k hk=>?_⟩,?_,fun i hi=>?_,fun _=>⟨row_put hrow6 hj r6,fun t ht=>?_,fun t ht=>?_⟩,fun t ht=>?_,hg6,hxl,sz1,by rw [put9o_size];have:=k5.size;omega,sz3,sz4⟩
  · by_cases e:t = j
    · rw [e,put_at] at hk
      exact Or.inr hk
    · rw [put_ne _ _ _ e] at hk
      exact Or.inl (Or.inl (hx4 t ht k hk))
  · rw [offg b6 hg6,same b6 hx2]
    exact hB
  · have h1:=hlt i (hx1 i hi)
    by_cases e:i = g
    · have:=hxl i hi
      omega
    · rw [offg i e,same i (hx1 i hi),hsx i hi]
  · by_cases e:t = j
    · subst e
      rw [put_at]
      have hlo:=World.ownsRow.lt a4
      exact own_base' (req_off a4 (by omega) offg) (by have:=k5.size;omega)
    · rw [put_ne _ _ _ e]
      refine own_blocks1 (hr0.own t ht) fun k hk=>?_
      rw [offg k (fun e2=>by
        have:=typ_one (own_typ (hr0.own t ht) hk) (e2 ▸ own_typ hr0.row rfl)
        exact absurd this (by decide)),same k (hx4 t ht k hk)]
  · by_cases e:t = j
    · rw [e,put_at];exact a3.ok
    · rw [put_ne _ _ _ e];exact hr0.ok t ht
  · by_cases e:t = j
    · subst e
      rw [put_at,if_pos (Nat.lt_succ_self _),← hz,a1 s3,s2]
      rfl
    · rw [put_ne _ _ _ e,hnm t ht]
      by_cases h1:t < j
      · rw [if_pos h1,if_pos (by omega)]
      · rw [if_neg h1,if_neg (by omega)]
end
end Go.Proofs.YtnclkefddkgojaaGreatDoor.T14

