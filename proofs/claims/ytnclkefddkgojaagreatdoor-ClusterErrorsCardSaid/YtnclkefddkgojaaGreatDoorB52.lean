/-
  An operation appended to a slice of operations that has no room: a new row. Condition: the slice takes at most 0x7ffffffff000 bytes.
  An operation behind which the reference's cluster compares as before has changed nothing. No condition, no walk.
  The law of P14.1 to P14.4: an operation with an error changes nothing. Conditions: errors.errorType holds its own; the slice takes at most 0x7ffffffff000 bytes.
-/
import Derived.Test.YtnclkefddkgojaaGreatDoorB26
import Derived.ArgAppend
namespace Go.Proofs.YtnclkefddkgojaaGreatDoor.T14
open Go.RowKit Go.Sort Go.Lib V12 T13
def OpC.cells (o:OpC):List Value:=[.int .i64 o.kd,.int .i64 o.x.k,.int .i64 o.x.p,.bool o.x.f,.int .i64 o.x.g,.slice o.x.A o.x.m o.x.c,.int .i64 o.x.a,.int .i64 o.x.h,.int .i64 o.x.d,.int .i64 o.x.t,.int .i64 o.nd,.int .i64 o.ev,.slice o.A o.n o.c]
def opCs (Q:Nat→OpC):Nat→List Value
  | 0=>[]
  | n + 1=>opCs Q n ++ (Q n).cells
theorem opCs_len (Q:Nat→OpC):∀ n,(opCs Q n).length = n * 13
  | 0=>rfl
  | n + 1=>by
    rw [opCs,List.length_append,opCs_len Q n]
    show n * 13 + 13 = _
    omega
theorem opCs_get (Q:Nat→OpC):∀ (n j i:Nat),j < n→i < 13→(opCs Q n)[j * 13 + i]? = (Q j).cells[i]?
  | 0,j,i,h,_=>absurd h (Nat.not_lt_zero _)
  | n + 1,j,i,h,hi=>by
    rw [opCs]
    by_cases e:j = n
    · subst e
      rw [List.getElem?_append_right (by rw [opCs_len];omega),opCs_len]
      congr 1
      omega
    · rw [List.getElem?_append_left (by rw [opCs_len];omega)]
      exact opCs_get Q n j i (by omega) hi
theorem Cel13.all {w:World} {g o:Nat} {x:OpC} (h:Cel13 w g o x):∀ i u,x.cells[i]? = some u→w.cell? ⟨g,o + i,none⟩ = some u:=by
  intro i u hu
  have h9:=h.x
  match i,hu with
  | 0,hu=>rw [← Option.some.inj hu];exact h.k
  | 1,hu=>rw [← Option.some.inj hu];exact h9.e0
  | 2,hu=>rw [← Option.some.inj hu];exact h9.e1
  | 3,hu=>rw [← Option.some.inj hu];exact h9.e2
  | 4,hu=>rw [← Option.some.inj hu];exact h9.e3
  | 5,hu=>rw [← Option.some.inj hu];exact h9.e4
  | 6,hu=>rw [← Option.some.inj hu];exact h9.e5
  | 7,hu=>rw [← Option.some.inj hu];exact h9.e6
  | 8,hu=>rw [← Option.some.inj hu];exact h9.e7
  | 9,hu=>rw [← Option.some.inj hu];exact h9.e8
  | 10,hu=>rw [← Option.some.inj hu];exact h.n
  | 11,hu=>rw [← Option.some.inj hu];exact h.e
  | 12,hu=>rw [← Option.some.inj hu];exact h.v
  | i + 13,hu=>cases hu
theorem cel13_all {w:World} {g o:Nat} {x:OpC} (h:∀ i u,x.cells[i]? = some u→w.cell? ⟨g,o + i,none⟩ = some u):Cel13 w g o x :=
  ⟨h 0 _ rfl,⟨h 1 _ rfl,h 2 _ rfl,h 3 _ rfl,h 4 _ rfl,h 5 _ rfl,h 6 _ rfl,h 7 _ rfl,h 8 _ rfl,h 9 _ rfl⟩,h 10 _ rfl,h 11 _ rfl,h 12 _ rfl⟩
def putO (Q:Nat→OpC) (n:Nat) (x:OpC):Nat→OpC:=fun j=>if j = n then x else Q j
theorem opCs_congr {Q R:Nat→OpC}:∀ n,(∀ j,j < n→Q j = R j)→opCs Q n = opCs R n
  | 0,_=>rfl
  | n + 1,h=>by rw [opCs,opCs,opCs_congr n (fun j hj=>h j (by omega)),h n (by omega)]
theorem opCs_put (Q:Nat→OpC) (n:Nat) (x:OpC):opCs Q n ++ x.cells = opCs (putO Q n x) (n + 1):=by
  rw [opCs,opCs_congr (Q:=putO Q n x) (R:=Q) n (fun j hj=>if_neg (by omega))]
  show _ = _ ++ (if n = n then x else Q n).cells
  rw [if_pos rfl]
theorem opCs_cell {w:World} {b off n:Nat} {Q:Nat→OpC} (h:∀ j,j < n→Cel13 w b (off + j * 13) (Q j)):∀ j u,(opCs Q n)[j]? = some u→w.cell? ⟨b,off + j,none⟩ = some u:=by
  intro j u hu
  have hj:j < n * 13:=by have:=(List.getElem?_eq_some_iff.1 hu).1;rwa [opCs_len] at this
  have hg:=opCs_get Q n (j / 13) (j % 13) (by omega) (Nat.mod_lt _ (by omega))
  rw [show j / 13 * 13 + j % 13 = j by omega,hu] at hg
  have:=(h (j / 13) (by omega)).all (j % 13) u hg.symm
  rwa [show off + j / 13 * 13 + j % 13 = off + j by omega] at this
theorem Tryz.infoO14:(Tryz.prog.info? 37).map (fun i=>(i.zero,i.size,i.bytes)) = some (some (.agg #[.int .i64 0,.int .i64 0,.int .i64 0,.bool false,.int .i64 0,.slice none 0 0,.int .i64 0,.int .i64 0,.int .i64 0,.int .i64 0,.int .i64 0,.int .i64 0,.slice none 0 0]),13,136):=by kernel_rfl
theorem Tryz.undO14:Tryz.prog.underlying 22 = some (.slice 37):=by kernel_rfl
theorem wp_growO {o:Oper} {a:Act} {w:World} {K:Act→World→Prop} {Q:Exit→Act→World→Prop} (s x:Operand) (ho:o.op = .call { callee:=.builtin .append,args:=#[s,x],argTypes:=#[22,22] })
    (A:Option Addr) (n:Nat) (P:Nat→OpC) (hs:a.eval s = .slice A n n) (hA:A = none→n = 0) (hR:RdOc w A n P) (y:OpC) (b:Nat) (hx:a.eval x = .slice (some ⟨b,0,none⟩) 1 1) (hb:w.heap[b]? = some (.cells y.arr 37 (0,0))) (hy:OcIs w y)
    (hn:n * 136≤140737488351232)
    (h:∀ A' c' w',RdOc w' A' (n + 1) (putO P n y)→Keep w w'→K (a.put o.dst (.slice A' (n + 1) c')) w'):Oper.wp Tryz.prog o a w K Q:=by
  obtain ⟨i0,hi0,hz0,hz1,hz2⟩:=info_parts Tryz.infoO14
  have hnews:∀ j u,y.cells[j]? = some u→w.cell? ((⟨b,0,none⟩:Addr).add j) = some u:=fun j u hu=>by
    rw [WideShapes.add_plain,Nat.zero_add,cell_of_row w b j _ _ _ hb]
    unfold OpC.arr
    rw [List.getElem?_toArray]
    exact hu
  have h1c:∀ u ∈ y.cells,u.oneCell' = true:=by
    intro u hu
    simp only [OpC.cells,List.mem_cons,List.not_mem_nil,or_false] at hu
    rcases hu with rfl | rfl | rfl | rfl | rfl | rfl | rfl | rfl | rfl | rfl | rfl | rfl | rfl <;> rfl
  have fin:∀ v' w',w'.ownsRow w.heap.size 37 13 v' (n + 1) (opCs P n ++ y.cells)→w.grownBy w' none→K (a.put o.dst v') w':=fun v' w' r1 r2=>by
    obtain ⟨g,c',e,_,_⟩:=r1.form (by omega)
    subst e
    rw [opCs_put] at r1
    have k:Keep w w':=Below.grown (Keep.refl w) r2 (Nat.le_refl _) (fun g h=>by cases h)
    refine h _ _ _ ⟨by omega,fun _=>⟨g,0,rfl,fun j hj=>?_⟩,fun j hj=>?_⟩ k
    · refine cel13_all fun i u hu=>?_
      have hi:i < 13:=(List.getElem?_eq_some_iff.1 hu).1
      have e0:=r1.cellAt (j * 13 + i) (by omega)
      rw [opCs_get _ _ _ _ hj hi,hu] at e0
      rw [Nat.zero_add]
      exact e0
    · unfold putO
      by_cases e:j = n
      · rw [if_pos e];exact hy.keep k
      · rw [if_neg e];exact (hR.is j (by omega)).keep k
  cases A with
  | some ad =>
    have holds:∀ j u,(opCs P n)[j]? = some u→w.cell? (ad.add j) = some u:=fun j u hu=>by
      have hj:j < n * 13:=by have:=(List.getElem?_eq_some_iff.1 hu).1;rwa [opCs_len] at this
      obtain ⟨b1,off,e,hc⟩:=hR.adr (by omega)
      obtain rfl:=Option.some.inj e
      rw [WideShapes.add_plain]
      exact opCs_cell hc j u hu
    obtain ⟨v',w',hrun,r1,r2⟩:=run_append_arg_grows (P:=Tryz.prog) w 22 o.type 37 i0 _ 13 136 Tryz.undO14 hi0 hz0 hz1 hz2 rfl (by decide) ad n n (opCs P n) (opCs_len P n) holds ⟨b,0,none⟩ 1 1 y.cells rfl hnews (by omega) (by unfold maxLen;omega) (by omega)
    unfold Oper.wp
    simp [execOp,ho,resolve,invoke,builtin,hs,hx,hrun,Result.andThen]
    exact fin v' w' r1 r2
  | none =>
    obtain rfl:=hA rfl
    obtain ⟨v',w',hrun,r1,r2,_⟩:=run_append_own (P:=Tryz.prog) w w.heap.size 22 o.type 37 i0 _ 13 136 Tryz.undO14 hi0 hz0 hz1 hz2 rfl (by decide) (.slice none 0 0) 0 [] (World.ownsRow_nil w _ _ _) ⟨b,0,none⟩ 1 1 y.cells rfl hnews h1c (by unfold maxLen;omega) (by omega) (Nat.le_refl _)
    unfold Oper.wp
    simp [execOp,ho,resolve,invoke,builtin,hs,hx,hrun,Result.andThen]
    exact fin v' w' r1 r2
theorem few_put {P:Nat→OpC} {n:Nat} {y:OpC}:FewC (putO P n y) (n + 1) ↔ n≤59∧(∀ j,j < n→FewK (P j))∧FewK y:=by
  unfold FewC putO
  constructor
  · rintro ⟨h1,h2⟩
    refine ⟨by omega,fun j hj=>?_,?_⟩
    · have:=h2 j (by omega)
      rwa [if_neg (by omega)] at this
    · have:=h2 n (by omega)
      rwa [if_pos rfl] at this
  · rintro ⟨h1,h2,h3⟩
    refine ⟨by omega,fun j hj=>?_⟩
    by_cases e:j = n
    · rw [if_pos e];exact h3
    · rw [if_neg e];exact h2 j (by omega)
end Go.Proofs.YtnclkefddkgojaaGreatDoor.T14

namespace Go.Proofs.YtnclkefddkgojaaGreatDoor.T14
open Go.RowKit Go.Sort Go.Lib V12 T13
theorem appP_same {y:PodV} {e nd dl:Int} (h:(appP y e nd dl).h = y.h) (hd:(appP y e nd dl).d = y.d) (ht:(appP y e nd dl).t = y.t):appP y e nd dl = y:=by
  obtain ⟨k,p,f,g,A,m,c,Z,a,h0,d0,t0⟩:=y
  unfold appP at h hd ht ⊢
  simp only at h hd ht ⊢
  rw [h,hd,ht]
theorem map_same {id e nd dl:Int}:∀ {L:List PodV},(L.map fun y=>if y.k = id then appP y e nd dl else y).map (·.h) = L.map (·.h)→(L.map fun y=>if y.k = id then appP y e nd dl else y).map (·.d) = L.map (·.d)→(L.map fun y=>if y.k = id then appP y e nd dl else y).map (·.t) = L.map (·.t)→(L.map fun y=>if y.k = id then appP y e nd dl else y) = L
  | [],_,_,_=>rfl
  | y :: L,h1,h2,h3=>by
    simp only [List.map_cons,List.cons.injEq] at h1 h2 h3 ⊢
    refine ⟨?_,map_same h1.2 h2.2 h3.2⟩
    by_cases e1:y.k = id
    · have a1:=h1.1;have a2:=h2.1;have a3:=h3.1
      simp only [if_pos e1] at a1 a2 a3 ⊢
      exact appP_same a1 a2 a3
    · rw [if_neg e1]
theorem app_same {L:List PodV} {id e nd dl:Int} (h1:(appL L id e nd dl).map (·.h) = L.map (·.h)) (h2:(appL L id e nd dl).map (·.d) = L.map (·.d)) (h3:(appL L id e nd dl).map (·.t) = L.map (·.t)):appL L id e nd dl = L:=by
  unfold appL at h1 h2 h3 ⊢
  by_cases h0:appC L id e = 0
  · rw [if_pos h0] at h1 h2 h3 ⊢
    exact map_same h1 h2 h3
  · rw [if_neg h0]
theorem op_same {d:Nat} {M:List NV} {L:List PodV} {o:OpC} (ok:Ok d M L) (hm:(opM d M o).length = M.length) (hl:(opP d M L o).length = L.length) (h1:(opP d M L o).map (·.h) = L.map (·.h)) (h2:(opP d M L o).map (·.d) = L.map (·.d)) (h3:(opP d M L o).map (·.t) = L.map (·.t)):opM d M o = M∧opP d M L o = L:=by
  unfold opM at hm ⊢
  unfold opP at hl h1 h2 h3 ⊢
  by_cases k0:o.kd = 0
  · rw [if_pos k0] at hm ⊢
    rw [if_pos k0]
    refine ⟨?_,rfl⟩
    unfold adL at hm ⊢
    by_cases h0:adC M d o.nd o.n o.V = 0
    · rw [if_pos h0,G.ins_len] at hm
      omega
    · rw [if_neg h0]
  · rw [if_neg k0] at hm hl h1 h2 h3 ⊢
    rw [if_neg k0]
    by_cases k1:o.kd = 1
    · rw [if_pos k1] at hm ⊢
      rw [if_pos k1]
      have e:drM M o.nd = M:=List.filter_sublist.eq_of_length hm
      have hn:o.nd ∉ nk M:=by rw [← e];exact drM_not M o.nd
      exact ⟨e,drL_out ok hn⟩
    · rw [if_neg k1] at hm hl h1 h2 h3 ⊢
      rw [if_neg k1]
      refine ⟨rfl,?_⟩
      by_cases k2:o.kd = 2
      · rw [if_pos k2] at hl ⊢
        unfold sbL at hl ⊢
        by_cases hw:0≤wrongOf o.x.m o.x.Z d
        · rw [if_pos hw]
        · rw [if_neg hw] at hl ⊢
          unfold subL at hl ⊢
          by_cases h0:subC L 65536 o.x = 0
          · rw [if_pos h0,List.length_append,List.length_singleton] at hl
            omega
          · rw [if_neg h0]
      · rw [if_neg k2] at hl h1 h2 h3 ⊢
        have pl:∀ e,(plL M L d o.x.k o.nd e).map (·.h) = L.map (·.h)→(plL M L d o.x.k o.nd e).map (·.d) = L.map (·.d)→(plL M L d o.x.k o.nd e).map (·.t) = L.map (·.t)→plL M L d o.x.k o.nd e = L:=fun e a1 a2 a3=>by
          unfold plL at a1 a2 a3 ⊢
          by_cases h0:plC M L d o.x.k o.nd e = 0
          · rw [if_pos h0] at a1 a2 a3 ⊢
            exact app_same a1 a2 a3
          · rw [if_neg h0]
        by_cases k3:o.kd = 3
        · rw [if_pos k3] at h1 h2 h3 ⊢
          exact pl 1 h1 h2 h3
        · rw [if_neg k3] at h1 h2 h3 ⊢
          by_cases k4:o.kd = 4
          · rw [if_pos k4] at h1 h2 h3 ⊢
            exact pl 2 h1 h2 h3
          · rw [if_neg k4] at h1 h2 h3 ⊢
            unfold cgL at h1 h2 h3 ⊢
            by_cases h0:cgC L o.x.k o.ev = 0
            · rw [if_pos h0] at h1 h2 h3 ⊢
              exact app_same h1 h2 h3
            · rw [if_neg h0]
theorem map_of {P P2:Nat→PodV} {m:Nat} {f:PodV→Int} (hf:∀ x,f (nm x) = f x) (h:∀ j,j < m→f (P2 j) = f (P j)):((lst P2 m).map nm).map f = ((lst P m).map nm).map f:=by
  rw [List.map_map,List.map_map]
  unfold lst
  rw [List.map_map,List.map_map]
  refine List.map_congr_left fun j hj=>?_
  show f (nm (P2 j)) = f (nm (P j))
  rw [hf,hf]
  exact h j (List.mem_range.1 hj)
theorem sc_same {CS CS2:PredC} {w:World} {d q q2:Nat} {M:List NV} {L:List PodV} {X X2:Nat→Prop} {w1 w2:World} {x y:RcV} {Q Q2:Nat→C14.NdC} {P P2:Nat→PodV} {o:OpC} (h:St CS w d q M L X w1 x Q P) (k:St CS2 w d q2 (opM d M o) (opP d M L o) X2 w2 y Q2 P2) (ok:Ok d M L) (hs:scB y Q2 P2 x Q P = true):opM d M o = M∧opP d M L o = L:=by
  unfold scB snB ssB at hs
  simp only [Bool.and_eq_true,decide_eq_true_eq] at hs
  obtain ⟨⟨_,hn,_⟩,hm,hp⟩:=hs
  refine op_same ok ?_ ?_ ?_ ?_ ?_
  · rw [k.lenM,h.lenM,hn]
  · rw [k.lenL,h.lenL,hm]
  all_goals
    have e1:=k.el
    have e2:=h.el
    rw [hm] at e1
    rw [← e1]
    conv=>rhs;rw [← e2]
    refine map_of (fun _=>rfl) fun j hj=>?_
    have:=spB_iff.1 (hp j (by omega))
  · exact this.2.2.2.2.2.2.1
  · exact this.2.2.2.2.2.2.2.1
  · exact this.2.2.2.2.2.2.2.2
end Go.Proofs.YtnclkefddkgojaaGreatDoor.T14

namespace Go.Proofs.YtnclkefddkgojaaGreatDoor.T14
open Go.RowKit Go.Sort Go.Lib V12 T13
theorem RdOc.at {w:World} {b off n:Nat} {P:Nat→OpC} (h:RdOc w (some ⟨b,off,none⟩) n P) {j:Nat} (hj:j < n):Cel13 w b (off + j * 13) (P j):=by
  obtain ⟨b',off',e,c⟩:=h.adr (by omega)
  have e2:=Option.some.inj e
  simp only [Addr.mk.injEq,and_true] at e2
  obtain ⟨rfl,rfl⟩:=e2
  exact c j hj
set_option maxRecDepth 100000 in
set_option maxHeartbeats 16000000 in
theorem err_walk {CS:PredC} (C:Con CS) (N:NewOk CS) (A:Option Addr) (n c:Nat) (P:Nat→OpC) (oz:OpC) (wz:World) (hR:RdOc wz A n P) (hA:A = none→n = 0∧c = 0) (hc:n≤c) (hb:n * 136≤140737488351232) (hoz:OcIs wz oz) (hg:ErrT wz):Calls Tryz.prog 5 #[.slice A n c,oz.val] wz fun e w'=>e = .returned (.bool true)∧Keep wz w':=by
  have hs:=hR.small
  obtain ⟨b3,hb3⟩:∃ b3,b3 = wz.heap.size:=⟨_,rfl⟩
  obtain ⟨w,hw⟩:∃ w,w = wz.alloc (.cells oz.arr 37):=⟨_,rfl⟩
  have KZ:Hid (Keep wz w):=by rw [hw];exact Keep.one _ _
  have B3:Hid (w.heap[b3]? = some (.cells oz.arr 37 (0,0))):=by rw [hw,hb3];exact heap_alloc_new _ _
  replace hR:=hR.keep KZ.out
  replace hg:=hg.keep KZ.out
  replace hoz:=hoz.keep KZ.out
  obtain ⟨fb,hfb⟩:=fewc_or (putO P n oz) (n + 1)
  have aw:Hid (∀ W,Keep w W→Calls Tryz.prog 9 #[] W fun e w'=>e = .returned (.bool true)∧Keep W w'):=fun W k=>awake_true C N W (hg.keep k)
  have cN:Hid (Calls Tryz.prog 8 #[.int .i64 2] w fun e w'=>∃ q,e = .returned (.pointer (some ⟨q,0,none⟩))∧CS w 2 q [] [] (fun _=>False) w'∧Keep w w'):=N 2 w w (Keep.refl w) (by omega)
  have CB:Hid (∀ b o,Con (Bx CS b o)):=fun b o=>bx_con C
  have OB:Hid (∀ W,Keep w W→(W.cell? ⟨b3,0,none⟩ = some (.int .i64 oz.kd)∧W.cell? ⟨b3,1,none⟩ = some (.int .i64 oz.x.k)∧W.cell? ⟨b3,2,none⟩ = some (.int .i64 oz.x.p)∧W.cell? ⟨b3,3,none⟩ = some (.bool oz.x.f)∧W.cell? ⟨b3,4,none⟩ = some (.int .i64 oz.x.g)∧W.cell? ⟨b3,5,none⟩ = some (.slice oz.x.A oz.x.m oz.x.c)∧W.cell? ⟨b3,6,none⟩ = some (.int .i64 oz.x.a)∧W.cell? ⟨b3,7,none⟩ = some (.int .i64 oz.x.h)∧W.cell? ⟨b3,8,none⟩ = some (.int .i64 oz.x.d)∧W.cell? ⟨b3,9,none⟩ = some (.int .i64 oz.x.t)∧W.cell? ⟨b3,10,none⟩ = some (.int .i64 oz.nd)∧W.cell? ⟨b3,11,none⟩ = some (.int .i64 oz.ev)∧W.cell? ⟨b3,12,none⟩ = some (.slice oz.A oz.n oz.c))):=fun W k=>by
    have h:=cel13_of (k.block B3.out)
    exact ⟨h.k,h.x.e0,h.x.e1,h.x.e2,h.x.e3,h.x.e4,h.x.e5,h.x.e6,h.x.e7,h.x.e8,h.n,h.e,h.v⟩
  replace hfb:=Lib.hid hfb
  replace hg:=Lib.hid hg
  replace hR:=Lib.hid hR
  replace hoz:=Lib.hid hoz
  replace hA:=Lib.hid hA
  unfold OpC.arr at hw
  unfold OpC.val
  go_enter Tryz.func5,Tryz.ntmps5
  go_wp2_with fail
  rw [← hw]
  try rw [← hb3]
  replace hw:=Lib.hid hw
  replace hb3:=Lib.hid hb3
  refine cN.out.mono ?_
  rintro e w1 ⟨q,rfl,o1,_⟩
  have K1:=Lib.hid (C.kp o1)
  replace o1:=Lib.hid o1
  go_upto_region 2 with fail
  have HELD:∀ Wz,Keep w1 Wz→(Wz.cell? ⟨b3,0,none⟩ = some (.int .i64 oz.kd)∧Wz.cell? ⟨b3,1,none⟩ = some (.int .i64 oz.x.k)∧Wz.cell? ⟨b3,2,none⟩ = some (.int .i64 oz.x.p)∧Wz.cell? ⟨b3,3,none⟩ = some (.bool oz.x.f)∧Wz.cell? ⟨b3,4,none⟩ = some (.int .i64 oz.x.g)∧Wz.cell? ⟨b3,5,none⟩ = some (.slice oz.x.A oz.x.m oz.x.c)∧Wz.cell? ⟨b3,6,none⟩ = some (.int .i64 oz.x.a)∧Wz.cell? ⟨b3,7,none⟩ = some (.int .i64 oz.x.h)∧Wz.cell? ⟨b3,8,none⟩ = some (.int .i64 oz.x.d)∧Wz.cell? ⟨b3,9,none⟩ = some (.int .i64 oz.x.t)∧Wz.cell? ⟨b3,10,none⟩ = some (.int .i64 oz.nd)∧Wz.cell? ⟨b3,11,none⟩ = some (.int .i64 oz.ev)∧Wz.cell? ⟨b3,12,none⟩ = some (.slice oz.A oz.n oz.c)):=fun Wz KK=>OB.out Wz (K1.out.trans KK)
  refine wp_region_held_drew (S:=fun w'=>w'.cell? ⟨b3,0,none⟩ = some (.int .i64 oz.kd)∧w'.cell? ⟨b3,1,none⟩ = some (.int .i64 oz.x.k)∧w'.cell? ⟨b3,2,none⟩ = some (.int .i64 oz.x.p)∧w'.cell? ⟨b3,3,none⟩ = some (.bool oz.x.f)∧w'.cell? ⟨b3,4,none⟩ = some (.int .i64 oz.x.g)∧w'.cell? ⟨b3,5,none⟩ = some (.slice oz.x.A oz.x.m oz.x.c)∧w'.cell? ⟨b3,6,none⟩ = some (.int .i64 oz.x.a)∧w'.cell? ⟨b3,7,none⟩ = some (.int .i64 oz.x.h)∧w'.cell? ⟨b3,8,none⟩ = some (.int .i64 oz.x.d)∧w'.cell? ⟨b3,9,none⟩ = some (.int .i64 oz.x.t)∧w'.cell? ⟨b3,10,none⟩ = some (.int .i64 oz.nd)∧w'.cell? ⟨b3,11,none⟩ = some (.int .i64 oz.ev)∧w'.cell? ⟨b3,12,none⟩ = some (.slice oz.A oz.n oz.c)) (by kernel_rfl) ?_ (fun hHeld=>?_)
  · exact HELD _ (by repeat (with_reducible first | exact Keep.refl w1 | apply Keep.alloc | apply Keep.drew | apply Keep.drewN))
  refine wpAnyH_ready (rs:=[0]) (by kernel_rfl) (by simp) ?_
  refine AllReadyH.cons rfl (fun K hK=>?_) AllReadyH.nil
  simp only [List.getElem_toArray,List.getElem_cons_zero]
  rw [if_pos (by rfl)]
  go_simp
  refine (aw.out _ (K1.out.trans (by repeat (with_reducible first | exact Keep.refl w1 | apply Keep.alloc | apply Keep.drew | apply Keep.drewN)))).mono ?_
  rintro e' w2 ⟨rfl,k2⟩
  have K2:Hid (Keep w1 w2):=((Keep.refl _).drew:Keep w1 _).trans k2
  replace k2:=Lib.hid k2
  go_wp2_with fail
  refine hK.out _ _ ?_ (fun hHeld=>?_)
  · exact HELD _ K2.out
  clear hK K
  try simp only [Act.put,List.getElem_toArray,List.getElem_cons_zero,List.setIfInBounds_toArray,List.set_cons_zero,List.set_cons_succ]
  refine wpAnyH_take (i:=1) (v:=.bool false) rfl (by kernel_rfl) (by kernel_rfl) (by kernel_rfl) (fun _ _ _ h=>h) (Or.inl ⟨by rfl,fun Wz hW=>by obtain ⟨p0,p1,p2,p3,p4,p5,p6,p7,p8,p9,p10,p11,p12⟩:=hW;go_simp⟩) hHeld ?_
  simp only [Act.put,List.getElem_toArray,List.getElem_cons_succ,List.getElem_cons_zero,List.setIfInBounds_toArray,List.set_cons_zero,List.set_cons_succ]
  refine wpAnyH_take (i:=2) (v:=.bool false) rfl (by kernel_rfl) (by kernel_rfl) (by kernel_rfl) (fun _ _ _ h=>h) (Or.inl ⟨by rfl,fun Wz hW=>by obtain ⟨p0,p1,p2,p3,p4,p5,p6,p7,p8,p9,p10,p11,p12⟩:=hW;go_simp⟩) hHeld ?_
  simp only [Act.put,List.getElem_toArray,List.getElem_cons_succ,List.getElem_cons_zero,List.setIfInBounds_toArray,List.set_cons_zero,List.set_cons_succ]
  refine wpAnyH_take (i:=3) (v:=.pointer (some ⟨q,0,none⟩)) rfl (by kernel_rfl) (by kernel_rfl) (by kernel_rfl) (fun _ _ _ h=>h) (Or.inl ⟨by rfl,fun Wz hW=>by obtain ⟨p0,p1,p2,p3,p4,p5,p6,p7,p8,p9,p10,p11,p12⟩:=hW;go_simp⟩) hHeld ?_
  simp only [Act.put,List.getElem_toArray,List.getElem_cons_succ,List.getElem_cons_zero,List.setIfInBounds_toArray,List.set_cons_zero,List.set_cons_succ]
  refine wpAnyH_take (i:=4) (v:=.bool false) rfl (by kernel_rfl) (by kernel_rfl) (by kernel_rfl) (fun _ _ _ h=>h) (Or.inl ⟨by rfl,fun Wz hW=>by obtain ⟨p0,p1,p2,p3,p4,p5,p6,p7,p8,p9,p10,p11,p12⟩:=hW;go_simp⟩) hHeld ?_
  simp only [Act.put,List.getElem_toArray,List.getElem_cons_succ,List.getElem_cons_zero,List.setIfInBounds_toArray,List.set_cons_zero,List.set_cons_succ]
  refine wpAnyH_take (i:=5) (v:=.bool false) rfl (by kernel_rfl) (by kernel_rfl) (by kernel_rfl) (fun _ _ _ h=>h) (Or.inl ⟨by rfl,fun Wz hW=>by obtain ⟨p0,p1,p2,p3,p4,p5,p6,p7,p8,p9,p10,p11,p12⟩:=hW;go_simp⟩) hHeld ?_
  simp only [Act.put,List.getElem_toArray,List.getElem_cons_succ,List.getElem_cons_zero,List.setIfInBounds_toArray,List.set_cons_zero,List.set_cons_succ]
  refine wpAnyH_take (i:=6) (v:=.bool false) rfl (by kernel_rfl) (by kernel_rfl) (by kernel_rfl) (fun _ _ _ h=>h) (Or.inl ⟨by rfl,fun Wz hW=>by obtain ⟨p0,p1,p2,p3,p4,p5,p6,p7,p8,p9,p10,p11,p12⟩:=hW;go_simp⟩) hHeld ?_
  simp only [Act.put,List.getElem_toArray,List.getElem_cons_succ,List.getElem_cons_zero,List.setIfInBounds_toArray,List.set_cons_zero,List.set_cons_succ]
  refine wpAnyH_take (i:=7) (v:=.slice A n c) rfl (by kernel_rfl) (by kernel_rfl) (by kernel_rfl) (fun _ _ _ h=>h) (Or.inl ⟨by rfl,fun Wz hW=>by obtain ⟨p0,p1,p2,p3,p4,p5,p6,p7,p8,p9,p10,p11,p12⟩:=hW;go_simp⟩) hHeld ?_
  simp only [Act.put,List.getElem_toArray,List.getElem_cons_succ,List.getElem_cons_zero,List.setIfInBounds_toArray,List.set_cons_zero,List.set_cons_succ]
  refine wpAnyH_take (i:=8) (v:=.slice A n c) rfl (by kernel_rfl) (by kernel_rfl) (by kernel_rfl) (fun _ _ _ h=>h) (Or.inl ⟨by rfl,fun Wz hW=>by obtain ⟨p0,p1,p2,p3,p4,p5,p6,p7,p8,p9,p10,p11,p12⟩:=hW;go_simp⟩) hHeld ?_
  simp only [Act.put,List.getElem_toArray,List.getElem_cons_succ,List.getElem_cons_zero,List.setIfInBounds_toArray,List.set_cons_zero,List.set_cons_succ]
  refine wpAnyH_take (i:=9) (v:=.int .i64 n) rfl (by kernel_rfl) (by kernel_rfl) (by kernel_rfl) (fun _ _ _ h=>h) (Or.inl ⟨by rfl,fun Wz hW=>by obtain ⟨p0,p1,p2,p3,p4,p5,p6,p7,p8,p9,p10,p11,p12⟩:=hW;go_simp⟩) hHeld ?_
  simp only [Act.put,List.getElem_toArray,List.getElem_cons_succ,List.getElem_cons_zero,List.setIfInBounds_toArray,List.set_cons_zero,List.set_cons_succ]
  refine wpAnyH_take (i:=10) (v:=.slice A n c) rfl (by kernel_rfl) (by kernel_rfl) (by kernel_rfl) (fun _ _ _ h=>h) (Or.inl ⟨by rfl,fun Wz hW=>by obtain ⟨p0,p1,p2,p3,p4,p5,p6,p7,p8,p9,p10,p11,p12⟩:=hW;go_simp⟩) hHeld ?_
  simp only [Act.put,List.getElem_toArray,List.getElem_cons_succ,List.getElem_cons_zero,List.setIfInBounds_toArray,List.set_cons_zero,List.set_cons_succ]
  refine wpAnyH_take (i:=11) (v:=.int .i64 n) rfl (by kernel_rfl) (by kernel_rfl) (by kernel_rfl) (fun _ _ _ h=>h) (Or.inl ⟨by rfl,fun Wz hW=>by obtain ⟨p0,p1,p2,p3,p4,p5,p6,p7,p8,p9,p10,p11,p12⟩:=hW;go_simp⟩) hHeld ?_
  simp only [Act.put,List.getElem_toArray,List.getElem_cons_succ,List.getElem_cons_zero,List.setIfInBounds_toArray,List.set_cons_zero,List.set_cons_succ]
  refine wpAnyH_take (i:=12) (v:=.slice A n n) rfl (by kernel_rfl) (by kernel_rfl) (by kernel_rfl) (fun _ _ _ h=>h) (Or.inl ⟨by rfl,fun Wz hW=>by obtain ⟨p0,p1,p2,p3,p4,p5,p6,p7,p8,p9,p10,p11,p12⟩:=hW;go_simp⟩) hHeld ?_
  simp only [Act.put,List.getElem_toArray,List.getElem_cons_succ,List.getElem_cons_zero,List.setIfInBounds_toArray,List.set_cons_zero,List.set_cons_succ]
  refine wpAnyH_take (i:=13) (v:=.agg #[.int .i64 oz.kd,.int .i64 oz.x.k,.int .i64 oz.x.p,.bool oz.x.f,.int .i64 oz.x.g,.slice oz.x.A oz.x.m oz.x.c,.int .i64 oz.x.a,.int .i64 oz.x.h,.int .i64 oz.x.d,.int .i64 oz.x.t,.int .i64 oz.nd,.int .i64 oz.ev,.slice oz.A oz.n oz.c]) rfl (by kernel_rfl) (by kernel_rfl) (by kernel_rfl) (fun _ _ _ h=>h) (Or.inl ⟨by rfl,fun Wz hW=>by obtain ⟨p0,p1,p2,p3,p4,p5,p6,p7,p8,p9,p10,p11,p12⟩:=hW;go_simp⟩) hHeld ?_
  simp only [Act.put,List.getElem_toArray,List.getElem_cons_succ,List.getElem_cons_zero,List.setIfInBounds_toArray,List.set_cons_zero,List.set_cons_succ]
  refine wpAnyH_ready (rs:=[14]) (by kernel_rfl) (by simp) ?_
  refine AllReadyH.cons rfl (fun K hK=>?_) AllReadyH.nil
  simp only [List.getElem_toArray,List.getElem_cons_succ,List.getElem_cons_zero]
  rw [if_pos (by rfl)]
  go_simp
  obtain ⟨w3,hw3⟩:∃ w3,w3 = w2.alloc (.cells #[.int .i64 oz.kd,.int .i64 oz.x.k,.int .i64 oz.x.p,.bool oz.x.f,.int .i64 oz.x.g,.slice oz.x.A oz.x.m oz.x.c,.int .i64 oz.x.a,.int .i64 oz.x.h,.int .i64 oz.x.d,.int .i64 oz.x.t,.int .i64 oz.nd,.int .i64 oz.ev,.slice oz.A oz.n oz.c] 37):=⟨_,rfl⟩
  rw [← hw3]
  have K23:Hid (Keep w2 w3):=by rw [hw3];exact Keep.one _ _
  have K3:Hid (Keep w1 w3):=K2.out.trans K23.out
  have B9:Hid (w3.heap[w2.heap.size]? = some (.cells oz.arr 37 (0,0))):=by rw [hw3];exact heap_alloc_new _ _
  replace hw3:=Lib.hid hw3
  refine hK.out _ _ ?_ (fun hHeld=>?_)
  · exact HELD _ K3.out
  clear hK K
  try simp only [Act.put,List.getElem_toArray,List.getElem_cons_succ,List.getElem_cons_zero,List.setIfInBounds_toArray,List.set_cons_zero,List.set_cons_succ]
  refine wpAnyH_ready (rs:=[15]) (by kernel_rfl) (by simp) ?_
  refine AllReadyH.cons rfl (fun K hK=>?_) AllReadyH.nil
  simp only [List.getElem_toArray,List.getElem_cons_succ,List.getElem_cons_zero]
  rw [if_pos (by rfl)]
  refine wp_growO (.tmp 23) (.tmp 25) rfl A n P (by simp [Act.eval]) (fun h=>(hA.out h).1) (hR.out.keep (K1.out.trans K3.out)) oz w2.heap.size (by simp [Act.eval]) B9.out (hoz.out.keep (K1.out.trans K3.out)) hb ?_
  intro A4 c4 w4 R4 k4
  have K4:Hid (Keep w1 w4):=K3.out.trans k4
  replace k4:=Lib.hid k4
  have R4:=Lib.hid R4
  refine hK.out _ _ ?_ (fun hHeld=>?_)
  · exact HELD _ K4.out
  clear hK K
  try simp only [Act.put,List.setIfInBounds_toArray,List.set_cons_zero,List.set_cons_succ]
  have cF:Hid (Calls Tryz.prog 10 #[.slice A4 (n + 1) c4] w4 fun e w'=>e = .returned (.bool fb)∧Keep w4 w'):=fewc_fn A4 (n + 1) c4 (putO P n oz) w4 R4.out fb hfb.out
  refine wpAnyH_ready (rs:=[16]) (by kernel_rfl) (by simp) ?_
  refine AllReadyH.cons rfl (fun K hK=>?_) AllReadyH.nil
  simp only [List.getElem_toArray,List.getElem_cons_succ,List.getElem_cons_zero]
  rw [if_pos (by rfl)]
  go_simp
  refine (cF.out).mono ?_
  rintro e' w5 ⟨rfl,k5⟩
  have K5:Hid (Keep w1 w5):=K4.out.trans k5
  replace k5:=Lib.hid k5
  go_wp2_with fail
  refine hK.out _ _ ?_ (fun hHeld=>?_)
  · exact HELD _ K5.out
  clear hK K
  try simp only [Act.put,List.getElem_toArray,List.getElem_cons_succ,List.getElem_cons_zero,List.setIfInBounds_toArray,List.set_cons_zero,List.set_cons_succ]
  refine wpAnyH_take (i:=17) (v:=.bool (!fb)) rfl (by kernel_rfl) (by kernel_rfl) (by kernel_rfl) (fun _ _ _ h=>h) (Or.inl ⟨by rfl,fun Wz hW=>by obtain ⟨p0,p1,p2,p3,p4,p5,p6,p7,p8,p9,p10,p11,p12⟩:=hW;go_simp⟩) hHeld ?_
  simp only [Act.put,List.getElem_toArray,List.getElem_cons_succ,List.getElem_cons_zero,List.setIfInBounds_toArray,List.set_cons_zero,List.set_cons_succ]
  refine wpAnyH_take (i:=18) (v:=.bool (!fb)) rfl (by kernel_rfl) (by kernel_rfl) (by kernel_rfl) (fun _ _ _ h=>h) (Or.inl ⟨by rfl,fun Wz hW=>by obtain ⟨p0,p1,p2,p3,p4,p5,p6,p7,p8,p9,p10,p11,p12⟩:=hW;go_simp⟩) hHeld ?_
  simp only [Act.put,List.getElem_toArray,List.getElem_cons_succ,List.getElem_cons_zero,List.setIfInBounds_toArray,List.set_cons_zero,List.set_cons_succ]
  refine wpAnyH_done (by kernel_rfl) ?_ _
  clear HELD hHeld
  replace o1:=Lib.hid (C.keep o1.out K5.out)
  replace K1:=Lib.hid (C.kp o1.out)
  cases fb with
  | false =>
    go_wp2_with fail
    refine (aw.out _ K1.out).mono ?_
    rintro e' w6 ⟨rfl,k6⟩
    go_wp2
    go_ret
    exact ⟨rfl,KZ.out.trans (K1.out.trans k6)⟩
  | true =>
  have hf2:=few_put.1 (hfb.out.1 rfl)
  have hn:n≤60:=by have:=hf2.1;omega
  have hfz:Hid (FewK oz):=hf2.2.2
  have hf:Hid (FewC P n):=⟨hn,hf2.2.1⟩
  clear hf2 cN aw
  obtain ⟨b,hb⟩:∃ b,b = w5.heap.size:=⟨_,rfl⟩
  obtain ⟨wb,hwb⟩:∃ wb,wb = w5.alloc (.cells (⟨2,none,0,0,none,0,0⟩:RcV).arr 30):=⟨_,rfl⟩
  have S0:=bx_new C o1.out ⟨2,none,0,0,none,0,0⟩ rfl hwb
  rw [← hb] at S0
  have S0:=Lib.hid S0
  unfold RcV.arr at hwb
  simp only at hwb
  go_wp2
  rw [← hwb]
  try rw [← hb]
  replace hwb:=Lib.hid hwb
  replace hb:=Lib.hid hb
  go_loopg [7] n (fun gx s5 wr=>∃ (j:Nat) (x:RcV) (M:List NV) (L:List PodV) (Q:Nat→C14.NdC) (P':Nat→PodV) (X:Nat→Prop),j≤n∧gx = n - j∧s5 = .int .i64 j∧Hid (St (Bx CS b (.cells x.arr 30 (0,0))) w 2 q M L X wr x Q P')∧Hid (x.n≤j∧x.m≤j))
  case atStart=>exact ⟨0,_,[],[],_,_,_,Nat.zero_le _,rfl,rfl,S0.out,Nat.le_refl _,Nat.le_refl _⟩
  case round =>
    clear o1 K1 S0
    obtain ⟨j,x,M,L,Q,P',X,hj,rfl,rfl,ST,LE⟩:=hrel
    by_cases hlt:j < n
    · have KR:Hid (Keep w wr):=(CB.out _ _).kp ST.out.o
      obtain ⟨bo,off,hA,_⟩:=hR.out.adr (by omega)
      subst hA
      have q1:=atC bo off n c j hlt
      have ox:=hR.out.is j hlt
      have hfk:=hf.out.2 j hlt
      obtain ⟨o,ho⟩:∃ o,o = P j:=⟨_,rfl⟩
      obtain ⟨oo,hoo⟩:∃ oo,oo = off + j * 13:=⟨_,rfl⟩
      have atW:Hid (∀ W,Keep w W→Cel13 W bo oo o):=fun W k=>by rw [ho,hoo];exact (hR.out.keep k).at hlt
      rw [← ho] at ox hfk
      rw [← hoo] at q1
      replace ho:=Lib.hid ho
      replace hoo:=Lib.hid hoo
      have BW:Hid (wr.heap[b]? = some (.cells x.arr 30 (0,0))):=ST.out.o.2.1
      have HS:Hid (∀ W,Keep w W→W.heap[b]? = some (.cells x.arr 30 (0,0))→(W.cell? ⟨b,0,none⟩ = some (.int .i64 x.d)∧W.cell? ⟨b,1,none⟩ = some (.slice x.A x.n x.c)∧W.cell? ⟨b,2,none⟩ = some (.slice x.B x.m x.e)∧W.cell? ⟨bo,oo,none⟩ = some (.int .i64 o.kd)∧W.cell? ⟨bo,oo + 1,none⟩ = some (.int .i64 o.x.k)∧W.cell? ⟨bo,oo + 2,none⟩ = some (.int .i64 o.x.p)∧W.cell? ⟨bo,oo + 3,none⟩ = some (.bool o.x.f)∧W.cell? ⟨bo,oo + 4,none⟩ = some (.int .i64 o.x.g)∧W.cell? ⟨bo,oo + 5,none⟩ = some (.slice o.x.A o.x.m o.x.c)∧W.cell? ⟨bo,oo + 6,none⟩ = some (.int .i64 o.x.a)∧W.cell? ⟨bo,oo + 7,none⟩ = some (.int .i64 o.x.h)∧W.cell? ⟨bo,oo + 8,none⟩ = some (.int .i64 o.x.d)∧W.cell? ⟨bo,oo + 9,none⟩ = some (.int .i64 o.x.t)∧W.cell? ⟨bo,oo + 10,none⟩ = some (.int .i64 o.nd)∧W.cell? ⟨bo,oo + 11,none⟩ = some (.int .i64 o.ev)∧W.cell? ⟨bo,oo + 12,none⟩ = some (.slice o.A o.n o.c))):=fun W KW HB=>⟨(rc_cells HB).1,(rc_cells HB).2.1,(rc_cells HB).2.2.1,(atW.out W KW).k,(atW.out W KW).x.e0,(atW.out W KW).x.e1,(atW.out W KW).x.e2,(atW.out W KW).x.e3,(atW.out W KW).x.e4,(atW.out W KW).x.e5,(atW.out W KW).x.e6,(atW.out W KW).x.e7,(atW.out W KW).x.e8,(atW.out W KW).n,(atW.out W KW).e,(atW.out W KW).v⟩
      have cP:Hid (∀ W,Keep wr W→Calls Tryz.prog 11 #[.pointer (some ⟨q,0,none⟩),x.val,o.val] W fun e' w'=>∃ x' Q2 P2 X2,e' = .returned (.tuple #[(x':RcV).val,.bool true])∧St (Bx CS b (.cells x.arr 30 (0,0))) w 2 q (opM 2 M o) (opP 2 M L o) X2 w' x' Q2 P2∧(∀ i,X i→X2 i)∧SameX X W w'):=fun W k=>by
        refine (st_play (CB.out _ _) (ST.out.keep (CB.out _ _) k) hg.out (by omega) o ox hfk (by have:=LE.out;omega) (by have:=LE.out;omega)).mono ?_
        rintro e' w' ⟨x',Q2,P2,X2,h1,h2,h3,h4⟩
        exact ⟨x',Q2,P2,X2,h1,h2,h3,h4⟩
      unfold RcV.val OpC.val at cP
      go_upto_region 8 with fail
      have HELD:∀ Wz,Keep wr Wz→(Wz.cell? ⟨b,0,none⟩ = some (.int .i64 x.d)∧Wz.cell? ⟨b,1,none⟩ = some (.slice x.A x.n x.c)∧Wz.cell? ⟨b,2,none⟩ = some (.slice x.B x.m x.e)∧Wz.cell? ⟨bo,oo,none⟩ = some (.int .i64 o.kd)∧Wz.cell? ⟨bo,oo + 1,none⟩ = some (.int .i64 o.x.k)∧Wz.cell? ⟨bo,oo + 2,none⟩ = some (.int .i64 o.x.p)∧Wz.cell? ⟨bo,oo + 3,none⟩ = some (.bool o.x.f)∧Wz.cell? ⟨bo,oo + 4,none⟩ = some (.int .i64 o.x.g)∧Wz.cell? ⟨bo,oo + 5,none⟩ = some (.slice o.x.A o.x.m o.x.c)∧Wz.cell? ⟨bo,oo + 6,none⟩ = some (.int .i64 o.x.a)∧Wz.cell? ⟨bo,oo + 7,none⟩ = some (.int .i64 o.x.h)∧Wz.cell? ⟨bo,oo + 8,none⟩ = some (.int .i64 o.x.d)∧Wz.cell? ⟨bo,oo + 9,none⟩ = some (.int .i64 o.x.t)∧Wz.cell? ⟨bo,oo + 10,none⟩ = some (.int .i64 o.nd)∧Wz.cell? ⟨bo,oo + 11,none⟩ = some (.int .i64 o.ev)∧Wz.cell? ⟨bo,oo + 12,none⟩ = some (.slice o.A o.n o.c)):=fun Wz KK=>(HS.out Wz (KR.out.trans KK) (keep_at KK (lt_of_block BW.out) |>.trans BW.out))
      refine OrdS.rest_start (fun w'=>w'.cell? ⟨b,0,none⟩ = some (.int .i64 x.d)∧w'.cell? ⟨b,1,none⟩ = some (.slice x.A x.n x.c)∧w'.cell? ⟨b,2,none⟩ = some (.slice x.B x.m x.e)∧w'.cell? ⟨bo,oo,none⟩ = some (.int .i64 o.kd)∧w'.cell? ⟨bo,oo + 1,none⟩ = some (.int .i64 o.x.k)∧w'.cell? ⟨bo,oo + 2,none⟩ = some (.int .i64 o.x.p)∧w'.cell? ⟨bo,oo + 3,none⟩ = some (.bool o.x.f)∧w'.cell? ⟨bo,oo + 4,none⟩ = some (.int .i64 o.x.g)∧w'.cell? ⟨bo,oo + 5,none⟩ = some (.slice o.x.A o.x.m o.x.c)∧w'.cell? ⟨bo,oo + 6,none⟩ = some (.int .i64 o.x.a)∧w'.cell? ⟨bo,oo + 7,none⟩ = some (.int .i64 o.x.h)∧w'.cell? ⟨bo,oo + 8,none⟩ = some (.int .i64 o.x.d)∧w'.cell? ⟨bo,oo + 9,none⟩ = some (.int .i64 o.x.t)∧w'.cell? ⟨bo,oo + 10,none⟩ = some (.int .i64 o.nd)∧w'.cell? ⟨bo,oo + 11,none⟩ = some (.int .i64 o.ev)∧w'.cell? ⟨bo,oo + 12,none⟩ = some (.slice o.A o.n o.c)) [8,9,10] (by kernel_rfl) ?_ (fun hHeld=>?_)
      · exact HELD _ (Keep.refl wr).drew
      obtain ⟨wt0,hwt0⟩:∃ W,W = wr.drew:=⟨_,rfl⟩
      have Kwt0:Hid (Keep wr wt0):=by rw [hwt0];exact (Keep.refl _).drew
      rw [← hwt0] at hHeld ⊢
      replace hwt0:=Lib.hid hwt0
      refine OrdS.rest_take (i:=0) (v:=.pointer (some ⟨q,0,none⟩)) rfl (by kernel_rfl) (by kernel_rfl) (by kernel_rfl) (by kernel_rfl) (by kernel_rfl) (fun _ _ _ h=>h) (Or.inl ⟨by rfl,fun Wz hW=>by obtain ⟨a0,a1,a2,u0,u1,u2,u3,u4,u5,u6,u7,u8,u9,u10,u11,u12⟩:=hW;go_simp⟩) hHeld ?_
      simp only [Act.put,List.getElem_toArray,List.getElem_cons_zero,List.setIfInBounds_toArray,List.set_cons_zero,List.set_cons_succ]
      refine OrdS.rest_take (i:=1) (v:=.agg #[.int .i64 x.d,.slice x.A x.n x.c,.slice x.B x.m x.e]) rfl (by kernel_rfl) (by kernel_rfl) (by kernel_rfl) (by kernel_rfl) (by kernel_rfl) (fun _ _ _ h=>h) (Or.inl ⟨by rfl,fun Wz hW=>by obtain ⟨a0,a1,a2,u0,u1,u2,u3,u4,u5,u6,u7,u8,u9,u10,u11,u12⟩:=hW;go_simp⟩) hHeld ?_
      simp only [Act.put,List.getElem_toArray,List.getElem_cons_succ,List.getElem_cons_zero,List.setIfInBounds_toArray,List.set_cons_zero,List.set_cons_succ]
      refine OrdS.rest_take (i:=2) (v:=.slice (some ⟨bo,off,none⟩) n c) rfl (by kernel_rfl) (by kernel_rfl) (by kernel_rfl) (by kernel_rfl) (by kernel_rfl) (fun _ _ _ h=>h) (Or.inl ⟨by rfl,fun Wz hW=>by obtain ⟨a0,a1,a2,u0,u1,u2,u3,u4,u5,u6,u7,u8,u9,u10,u11,u12⟩:=hW;go_simp⟩) hHeld ?_
      simp only [Act.put,List.getElem_toArray,List.getElem_cons_succ,List.getElem_cons_zero,List.setIfInBounds_toArray,List.set_cons_zero,List.set_cons_succ]
      refine OrdS.rest_take (i:=3) (v:=.int .i64 j) rfl (by kernel_rfl) (by kernel_rfl) (by kernel_rfl) (by kernel_rfl) (by kernel_rfl) (fun _ _ _ h=>h) (Or.inl ⟨by rfl,fun Wz hW=>by obtain ⟨a0,a1,a2,u0,u1,u2,u3,u4,u5,u6,u7,u8,u9,u10,u11,u12⟩:=hW;go_simp⟩) hHeld ?_
      simp only [Act.put,List.getElem_toArray,List.getElem_cons_succ,List.getElem_cons_zero,List.setIfInBounds_toArray,List.set_cons_zero,List.set_cons_succ]
      refine OrdS.rest_take (i:=4) (v:=.pointer (some ⟨bo,oo,none⟩)) rfl (by kernel_rfl) (by kernel_rfl) (by kernel_rfl) (by kernel_rfl) (by kernel_rfl) (fun _ _ _ h=>h) (Or.inl ⟨by rfl,fun Wz hW=>by obtain ⟨a0,a1,a2,u0,u1,u2,u3,u4,u5,u6,u7,u8,u9,u10,u11,u12⟩:=hW;go_simp⟩) hHeld ?_
      simp only [Act.put,List.getElem_toArray,List.getElem_cons_succ,List.getElem_cons_zero,List.setIfInBounds_toArray,List.set_cons_zero,List.set_cons_succ]
      refine OrdS.rest_take (i:=5) (v:=.agg #[.int .i64 o.kd,.int .i64 o.x.k,.int .i64 o.x.p,.bool o.x.f,.int .i64 o.x.g,.slice o.x.A o.x.m o.x.c,.int .i64 o.x.a,.int .i64 o.x.h,.int .i64 o.x.d,.int .i64 o.x.t,.int .i64 o.nd,.int .i64 o.ev,.slice o.A o.n o.c]) rfl (by kernel_rfl) (by kernel_rfl) (by kernel_rfl) (by kernel_rfl) (by kernel_rfl) (fun _ _ _ h=>h) (Or.inl ⟨by rfl,fun Wz hW=>by obtain ⟨a0,a1,a2,u0,u1,u2,u3,u4,u5,u6,u7,u8,u9,u10,u11,u12⟩:=hW;go_simp⟩) hHeld ?_
      simp only [Act.put,List.getElem_toArray,List.getElem_cons_succ,List.getElem_cons_zero,List.setIfInBounds_toArray,List.set_cons_zero,List.set_cons_succ]
      refine OrdS.rest_ready (rs:=[6]) (by kernel_rfl) (by simp) ?_
      refine OrdS.Each.cons rfl (fun K hK=>?_) OrdS.Each.nil
      simp only [List.getElem_toArray,List.getElem_cons_succ,List.getElem_cons_zero]
      rw [if_pos (by rfl)]
      go_simp
      refine (cP.out _ Kwt0.out).mono ?_
      rintro e' w4 ⟨x',Q2,P2,X2,rfl,ST2,XX,SX⟩
      have ST2:=Lib.hid ST2
      have KW4:Hid (Keep w w4):=(CB.out _ _).kp ST2.out.o
      go_wp2_with fail
      refine hK.out _ _ (fun _=>HS.out w4 KW4.out ST2.out.o.2.1) ?_
      have hHeld:=HS.out w4 KW4.out ST2.out.o.2.1
      clear hK K
      try simp only [Act.put,List.getElem_toArray,List.getElem_cons_succ,List.getElem_cons_zero,List.setIfInBounds_toArray,List.set_cons_zero,List.set_cons_succ]
      refine OrdS.rest_take (i:=7) (v:=.tuple #[.agg #[.int .i64 x'.d,.slice x'.A x'.n x'.c,.slice x'.B x'.m x'.e],.bool true]) rfl (by kernel_rfl) (by kernel_rfl) (by kernel_rfl) (by kernel_rfl) (by kernel_rfl) (fun _ _ _ h=>h) (Or.inl ⟨by rfl,fun Wz hW=>by obtain ⟨a0,a1,a2,u0,u1,u2,u3,u4,u5,u6,u7,u8,u9,u10,u11,u12⟩:=hW;go_simp⟩) hHeld ?_
      simp only [Act.put,List.getElem_toArray,List.getElem_cons_succ,List.getElem_cons_zero,List.setIfInBounds_toArray,List.set_cons_zero,List.set_cons_succ]
      refine OrdS.rest_takeP (i:=8) (v:=.agg #[.int .i64 x'.d,.slice x'.A x'.n x'.c,.slice x'.B x'.m x'.e]) rfl (by kernel_rfl) (by kernel_rfl) (by kernel_rfl) (by kernel_rfl) (fun _ _ _ h=>h) (Or.inl ⟨by rfl,fun Wz _=>by go_simp⟩) ?_
      simp only [Act.put,List.getElem_toArray,List.getElem_cons_succ,List.getElem_cons_zero,List.setIfInBounds_toArray,List.set_cons_zero,List.set_cons_succ]
      refine OrdS.rest_takeP (i:=9) (v:=.bool true) rfl (by kernel_rfl) (by kernel_rfl) (by kernel_rfl) (by kernel_rfl) (fun _ _ _ h=>h) (Or.inl ⟨by rfl,fun Wz _=>by go_simp⟩) ?_
      simp only [Act.put,List.getElem_toArray,List.getElem_cons_succ,List.getElem_cons_zero,List.setIfInBounds_toArray,List.set_cons_zero,List.set_cons_succ]
      refine OrdS.rest_ready (rs:=[10]) (by kernel_rfl) (by simp) ?_
      refine OrdS.Each.cons rfl (fun K hK=>?_) OrdS.Each.nil
      simp only [List.getElem_toArray,List.getElem_cons_succ,List.getElem_cons_zero]
      rw [if_pos (by rfl)]
      obtain ⟨t0,t1,t2,tf⟩:=rc_cells ST2.out.o.2.1
      go_simp
      refine hK.out _ _ (fun e=>absurd (by simp) e) ?_
      clear hK K
      refine OrdS.rest_done (by kernel_rfl) ?_ _
      clear hHeld HELD Kwt0 hwt0 tf t0 t1 t2
      obtain ⟨w5,hw5⟩:∃ w5,w5 = put3 w4 b x':=⟨_,rfl⟩
      have ST5:=Lib.hid (bx_store C ST2.out hw5)
      have hw5e:=hw5
      unfold put3 at hw5e
      go_wp2_with fail
      try rw [← hw5e]
      clear hw5e
      have LE5:Hid (x'.n≤j + 1∧x'.m≤j + 1):=by
        have:=post_len ST.out ST2.out
        have:=LE.out
        exact ⟨by omega,by omega⟩
      replace hw5:=Lib.hid hw5
      have KW5:Hid (Keep w w5):=(CB.out _ _).kp ST5.out.o
      go_roundg (n - (j + 1))
      case measure=>omega
      case rel=>exact ⟨j + 1,x',_,_,Q2,P2,_,hlt,rfl,by go_num,ST5.out,LE5.out⟩
    · obtain rfl:j = n:=by omega
      have LX:=LE.out
      have KR:Hid (Keep w wr):=(CB.out _ _).kp ST.out.o
      obtain ⟨t0,t1,t2,_⟩:=rc_cells ST.out.o.2.1
      obtain ⟨p0,p1,p2,p3,p4,p5,p6,p7,p8,p9,p10,p11,p12⟩:=OB.out wr KR.out
      have cP:=Lib.hid (st_play (CB.out _ _) ST.out hg.out (by omega) oz hoz.out hfz.out (by omega) (by omega))
      unfold RcV.val OpC.val at cP
      go_wp2_with fail
      refine cP.out.mono ?_
      rintro e' w4 ⟨x',Q2,P2,X2,rfl,ST4,XX,SX⟩
      have ST4:=Lib.hid ST4
      have LY:=post_len ST.out ST4.out
      have rows:=Lib.hid (ST.out.rows ((CB.out _ _).kp ST4.out.o) SX)
      replace XX:=Lib.hid XX
      replace SX:=Lib.hid SX
      clear t0 t1 t2 p0 p1 p2 p3 p4 p5 p6 p7 p8 p9 p10 p11 p12 cP
      unfold RcV.val
      obtain ⟨b8,hb8⟩:∃ b8,b8 = w4.heap.size:=⟨_,rfl⟩
      obtain ⟨w5,hw5⟩:∃ w5,w5 = w4.alloc (.cells #[.int .i64 x'.d,.slice x'.A x'.n x'.c,.slice x'.B x'.m x'.e] 30):=⟨_,rfl⟩
      have Kw5:Hid (Keep w4 w5):=by rw [hw5];exact Keep.one _ _
      have Bb8:Hid (w5.heap[b8]? = some (.cells #[.int .i64 x'.d,.slice x'.A x'.n x'.c,.slice x'.B x'.m x'.e] 30 (0,0))):=by rw [hw5,hb8];exact heap_alloc_new _ _
      have B8:Hid (w5.heap[b8]? = some (.cells x'.arr 30 (0,0))):=Bb8.out
      have ST5:=Lib.hid (ST4.out.keep (CB.out _ _) Kw5.out)
      have cSc:Hid (Calls Tryz.prog 21 #[x'.val,x.val] w5 fun e w'=>e = .returned (.bool (scB x' Q2 P2 x Q P'))∧Keep w5 w'):=rsamec_any x' x Q2 Q P2 P' w5 (ST5.out.rdc (CB.out _ _)) ((rows.out.1.rdc ((CB.out _ _).kp ST4.out.o)).keep Kw5.out) ST5.out.rl.rd (rows.out.2.rd.keep Kw5.out)
      obtain ⟨sb,hsb⟩:∃ sb,sb = scB x' Q2 P2 x Q P':=⟨_,rfl⟩
      rw [← hsb] at cSc
      have SO:Hid (sb = true→St (Bx CS b (.cells x.arr 30 (0,0))) w 2 q M L X2 w5 x Q P'):=fun h=>by
        obtain ⟨e1,e2⟩:=sc_same ST.out ST4.out ((CB.out _ _).ok ST.out.o) (by rw [← hsb];exact h)
        have h5:=ST5.out.o
        rw [e1,e2] at h5
        exact ⟨h5,ST.out.xd,(rows.out.1.less XX.out).keep Kw5.out,ST.out.em,ST.out.dn,(rows.out.2.less XX.out).keep Kw5.out,ST.out.el⟩
      replace hsb:=Lib.hid hsb
      unfold RcV.val at cSc
      obtain ⟨s0,s1,s2,_⟩:=rc_cells ST5.out.o.2.1
      rw [hw5] at s0 s1 s2
      go_wp2_with fail
      rw [← hw5]
      try rw [← hb8]
      replace hw5:=Lib.hid hw5
      replace hb8:=Lib.hid hb8
      refine cSc.out.mono ?_
      rintro e' w6 ⟨rfl,k6⟩
      have K6:=Lib.hid k6
      replace k6:=Lib.hid k6
      clear s0 s1 s2 cSc
      obtain ⟨t0,t1,t2,_⟩:=rc_cells (K6.out.block B8.out)
      obtain ⟨s0,s1,s2,_⟩:=rc_cells (ST5.out.keep (CB.out _ _) K6.out).o.2.1
      cases sb with
      | true =>
        have cS1:=Lib.hid (same_true (CB.out _ _) ((SO.out rfl).keep (CB.out _ _) K6.out) (by omega) (by omega) (by omega))
        unfold RcV.val at cS1
        go_wp2_with fail
        refine cS1.out.mono ?_
        rintro e' w7 ⟨rfl,k7⟩
        have K7:Hid (Keep w5 w7):=K6.out.trans k7
        replace k7:=Lib.hid k7
        clear t0 t1 t2 s0 s1 s2 cS1
        obtain ⟨t0,t1,t2,_⟩:=rc_cells (K7.out.block B8.out)
        have cS2:=Lib.hid (same_true (CB.out _ _) (ST5.out.keep (CB.out _ _) K7.out) (by omega) (by omega) (by omega))
        unfold RcV.val at cS2
        go_wp2_with fail
        refine cS2.out.mono ?_
        rintro e' w9 ⟨rfl,k9⟩
        go_wp2
        go_ret
        exact ⟨rfl,KZ.out.trans (((CB.out _ _).kp ST5.out.o).trans (K7.out.trans k9))⟩
      | false =>
        have cS2:=Lib.hid (same_true (CB.out _ _) (ST5.out.keep (CB.out _ _) K6.out) (by omega) (by omega) (by omega))
        unfold RcV.val at cS2
        go_wp2_with fail
        refine cS2.out.mono ?_
        rintro e' w9 ⟨rfl,k9⟩
        go_wp2
        go_ret
        exact ⟨rfl,KZ.out.trans (((CB.out _ _).kp ST5.out.o).trans (K6.out.trans k9))⟩
end Go.Proofs.YtnclkefddkgojaaGreatDoor.T14

