/-
  The reference's On and With. Condition: at most 1000 pods.
  The law's operations, its few, its code; the reference's list behind an operation. Conditions: errors.errorType holds its own; at most 1000 pods.
  The law's told. No condition but that errors.errorType's variable is as it was.
  The law's after. No condition.
  A dropped node's pods, one after another. No condition, no walk.
-/
import Derived.Test.YtnclkefddkgojaaGreatDoorB10
import Derived.Test.YtnclkefddkgojaaGreatDoorB5
import Derived.Test.YtnclkefddkgojaaGreatDoorB8
import Derived.Test.YtnclkefddkgojaaGreatDoorB7
namespace Go.Proofs.YtnclkefddkgojaaGreatDoor.T13
open Go.RowKit Go.Sort Go.Lib V12
theorem podCs_flat (P:Nat→PodV):∀ n,podCs P n = (lst P n).flatMap PodV.cells
  | 0=>rfl
  | n + 1=>by rw [podCs,podCs_flat P n,lst_succ,List.flatMap_append,List.flatMap_singleton]
theorem podCs_row (L:List PodV):podCs (row L) L.length = L.flatMap PodV.cells:=by rw [podCs_flat,lst_row]
theorem own_rd {w:World} {base n c:Nat} {B:Option Addr} {Q:Nat→PodV} (h:w.ownsRow base 35 9 (.slice B n c) n (podCs Q n)) (hn:n≤9223372036854775807) (hi:∀ j,j < n→PodIs w (Q j)):RdPods w B n Q :=
  ⟨hn,fun hp=>by
    obtain ⟨g,cap,e,_,_⟩:=h.form hp
    simp only [Value.slice.injEq] at e
    obtain ⟨rfl,_,rfl⟩:=e
    exact ⟨g,0,rfl,fun t ht=>row_cel h ht⟩,hi⟩
def FilPost (w:World) (n:Nat) (L:List PodV) (e:Ending) (w':World):Prop:=∃ B d,e = .returned (.slice B L.length d)∧Keep w w'∧RdPods w' B L.length (row L)∧L.length≤n
set_option maxRecDepth 100000 in
set_option maxHeartbeats 4000000 in
theorem ron_fn (A:Option Addr) (n c:Nat) (P:Nat→PodV) (v:Int) (w:World) (hR:RdPods w A n P) (hN:n≤1000) :
    Calls Tryz.prog 46 #[.slice A n c,.int .i64 v] w (FilPost w n ((lst P n).filter (onB v))):=by
  replace hR:=Lib.hid hR
  obtain ⟨L,hL⟩:∃ L,L = (lst P n).filter (onB v):=⟨_,rfl⟩
  rw [← hL]
  replace hL:=Lib.hid hL
  go_enter Tryz.func46,Tryz.ntmps46
  go_wp2
  go_loopg [5,6] n (fun gx s5 s6 wr=>∃ (j k:Nat) (B:Option Addr) (d:Nat) (M:List PodV),j≤n∧gx = n - j∧s6 = .int .i64 j∧s5 = .slice B k d∧k≤j∧Hid (Keep w wr)∧Hid (wr.ownsRow w.heap.size 35 9 (.slice B k d) k (M.flatMap PodV.cells))∧Hid (M = (lst P j).filter (onB v))∧Hid (M.length = k))
  case atStart=>exact ⟨0,0,none,0,[],Nat.zero_le _,rfl,rfl,rfl,Nat.le_refl _,Keep.refl _,World.ownsRow_nil _ _ _ _,rfl,rfl⟩
  case round =>
    obtain ⟨j,k,B,d,M,hj,rfl,rfl,rfl,hkj,G,RW,LT,LN⟩:=hrel
    by_cases hlt:j < n
    · have R2:=hR.out.keep G.out
      obtain ⟨b,off,hA,ca⟩:=R2.adr (by omega)
      subst hA
      have q1:=pods_at b off n c j hlt
      have X:=ca j hlt
      clear ca
      replace R2:=Lib.hid R2
      have hs:(lst P (j + 1)).filter (onB v) = (lst P j).filter (onB v) ++ if onB v (P j) = true then [P j] else []:=by
        rw [lst_succ,List.filter_append,List.filter_cons,List.filter_nil]
      obtain ⟨x,hx⟩:∃ x,x = P j:=⟨_,rfl⟩
      rw [← hx] at X hs
      replace hx:=Lib.hid hx
      have x0:=X.e0;have x1:=X.e1;have x2:=X.e2;have x3:=X.e3;have x4:=X.e4;have x5:=X.e5;have x6:=X.e6;have x7:=X.e7;have x8:=X.e8
      clear X
      have gsz:Hid (w.heap.size≤wr.heap.size):=G.out.size
      by_cases hk:onB v x = true
      · rw [if_pos hk] at hs
        have L2:Hid (M ++ [x] = (lst P (j + 1)).filter (onB v)):=by show _ = _;rw [hs,LT.out]
        have LN2:Hid ((M ++ [x]).length = k + 1):=by show _ = _;rw [List.length_append,LN.out];rfl
        have FM:Hid ((M ++ [x]).flatMap PodV.cells = M.flatMap PodV.cells ++ x.cells):=by show _ = _;rw [List.flatMap_append,List.flatMap_singleton]
        replace hs:=Lib.hid hs
        unfold onB at hk
        rw [decide_eq_true_eq] at hk
        have e7:(x.d == v) = true:=by simpa using hk.1
        have e61:decide (2≤x.h) = true:=decide_eq_true hk.2.1
        have e62:decide (x.h≤4) = true:=decide_eq_true hk.2.2
        have g61:2≤x.h:=hk.2.1
        have g62:x.h≤4:=hk.2.2
        replace hk:=Lib.hid hk
        go_wp2_with (at_builtin;refine wpl_own Tryz.tyP13 rfl _ _ rfl w.heap.size (.slice B k d) k (M.flatMap PodV.cells) (by simp [Act.eval]) (own_keep RW.out (Keep.one _ _)) (.slice (some ⟨wr.heap.size,0,none⟩) 1 1) 1 x.cells (by simp [Act.eval]) (src_one (heap_alloc_new _ _)) (cells_one _) (by omega) (by rw [World.size_alloc];have:=gsz.out;omega) (k + 1) rfl ?_;intro v3 w3 hr3 hg3)
        have K3:Hid (Keep w w3):=keep_grown (G.out.trans (Keep.one _ _)) hg3 (fun q hq=>(RW.out.lt q hq).1)
        obtain ⟨B4,d4,hB4,_⟩:=own_form hr3
        subst hB4
        rw [← FM.out] at hr3
        replace hr3:=Lib.hid hr3
        replace hg3:=Lib.hid hg3
        clear x0 x1 x2 x3 x4 x5 x6 x7 x8 q1
        go_wp2
        go_roundg (n - (j + 1))
        case measure=>omega
        case rel=>exact ⟨j + 1,k + 1,B4,d4,M ++ [x],hlt,rfl,by go_num,rfl,by omega,K3,hr3,L2,LN2⟩
      · rw [if_neg hk,List.append_nil] at hs
        have L2:Hid (M = (lst P (j + 1)).filter (onB v)):=by show _ = _;rw [hs,LT.out]
        replace hs:=Lib.hid hs
        unfold onB at hk
        rw [decide_eq_true_eq] at hk
        clear x0 x1 x2 x3 x4 x5 x8
        by_cases c7:x.d = v
        · have e7:(x.d == v) = true:=by simpa using c7
          by_cases c61:2≤x.h
          · have c62:¬ x.h≤4:=fun h=>hk ⟨c7,c61,h⟩
            replace hk:=Lib.hid hk
            replace c7:=Lib.hid c7
            go_wp2
            go_roundg (n - (j + 1))
            case measure=>omega
            case rel=>exact ⟨j + 1,k,B,d,M,hlt,rfl,by go_num,rfl,by omega,G,RW,L2,LN⟩
          · replace hk:=Lib.hid hk
            replace c7:=Lib.hid c7
            go_wp2
            go_roundg (n - (j + 1))
            case measure=>omega
            case rel=>exact ⟨j + 1,k,B,d,M,hlt,rfl,by go_num,rfl,by omega,G,RW,L2,LN⟩
        · have e7:(x.d == v) = false:=by simpa using c7
          replace hk:=Lib.hid hk
          replace c7:=Lib.hid c7
          go_wp2
          go_roundg (n - (j + 1))
          case measure=>omega
          case rel=>exact ⟨j + 1,k,B,d,M,hlt,rfl,by go_num,rfl,by omega,G,RW,L2,LN⟩
    · obtain rfl:j = n:=by omega
      obtain rfl:M = L:=by rw [hL.out,LT.out]
      have ln:=LN.out
      have mem:∀ t,t < M.length→PodIs wr (row M t):=fun t ht=>by
        have hm:row M t ∈ M:=by
          unfold row
          rw [List.getD_eq_getElem?_getD,List.getElem?_eq_getElem ht]
          exact List.getElem_mem _
        rw [LT.out,List.mem_filter] at hm
        obtain ⟨i,hi,e⟩:=lst_mem.1 hm.1
        rw [LT.out,← e]
        exact (hR.out.is i hi).keep G.out
      have fin:Hid (RdPods wr B M.length (row M)∧M.length≤j):=by
        have h2:=RW.out
        rw [← podCs_row,← ln] at h2
        exact ⟨own_rd h2 (by omega) mem,by omega⟩
      obtain rfl:M.length = k:=ln
      clear mem
      go_wp2
      go_ret
      exact ⟨B,d,rfl,G.out,fin.out.1,fin.out.2⟩
end Go.Proofs.YtnclkefddkgojaaGreatDoor.T13

namespace Go.Proofs.YtnclkefddkgojaaGreatDoor.T13
open Go.RowKit Go.Sort Go.Lib V12
structure OpV where
  ev:Int
  x:PodV
  nd:Int
  dl:Int
def OpV.val (o:OpV):Value:=.agg #[.int .i64 o.ev,.int .i64 o.x.k,.int .i64 o.x.p,.bool o.x.f,.int .i64 o.x.g,.slice o.x.A o.x.m o.x.c,.int .i64 o.x.a,.int .i64 o.x.h,.int .i64 o.x.d,.int .i64 o.x.t,.int .i64 o.nd,.int .i64 o.dl]
def OpV.arr (o:OpV):Array Value:=#[.int .i64 o.ev,.int .i64 o.x.k,.int .i64 o.x.p,.bool o.x.f,.int .i64 o.x.g,.slice o.x.A o.x.m o.x.c,.int .i64 o.x.a,.int .i64 o.x.h,.int .i64 o.x.d,.int .i64 o.x.t,.int .i64 o.nd,.int .i64 o.dl]
structure OpIs (w:World) (o:OpV):Prop where
  e:I64 o.ev
  x:PodIs w o.x
  n:I64 o.nd
  d:I64 o.dl
theorem OpIs.keep {w w':World} {o:OpV} (h:OpIs w o) (k:Keep w w'):OpIs w' o:=⟨h.e,h.x.keep k,h.n,h.d⟩
structure Cel12 (w:World) (b o:Nat) (v:OpV):Prop where
  e:w.cell? ⟨b,o,none⟩ = some (.int .i64 v.ev)
  x:Cel9 w b (o + 1) v.x
  n:w.cell? ⟨b,o + 10,none⟩ = some (.int .i64 v.nd)
  d:w.cell? ⟨b,o + 11,none⟩ = some (.int .i64 v.dl)
theorem Cel12.keep {w w':World} {b o:Nat} {v:OpV} (h:Cel12 w b o v) (k:Keep w w'):Cel12 w' b o v:=⟨k.cell h.e,h.x.keep k,k.cell h.n,k.cell h.d⟩
theorem Cel12.same {w w':World} {b o:Nat} {v:OpV} (h:Cel12 w b o v) (e:w'.heap[b]? = w.heap[b]?):Cel12 w' b o v:=⟨cell_same h.e e,h.x.same e,cell_same h.n e,cell_same h.d e⟩
structure RdO (w:World) (A:Option Addr) (n:Nat) (P:Nat→OpV):Prop where
  small:n≤9223372036854775807
  adr:0 < n→∃ b off,A = some ⟨b,off,none⟩∧∀ j,j < n→Cel12 w b (off + j * 12) (P j)
  is:∀ j,j < n→OpIs w (P j)
theorem RdO.keep {w w':World} {A:Option Addr} {n:Nat} {P:Nat→OpV} (h:RdO w A n P) (k:Keep w w'):RdO w' A n P :=
  ⟨h.small,fun hn=>by
    obtain ⟨b,off,e,c⟩:=h.adr hn
    exact ⟨b,off,e,fun j hj=>(c j hj).keep k⟩,fun j hj=>(h.is j hj).keep k⟩
def FewX (x:PodV):Prop:=FewP (fun _=>x) 1
theorem fewx_or (x:PodV):∃ b,b = true ↔ FewX x:=⟨@decide (FewX x) (Classical.propDecidable _),by simp⟩
theorem FewX.m {x:PodV} (h:FewX x):x.m≤20:=(h.2 0 (by omega)).2.2
theorem rd_single {w:World} {b:Nat} {x:PodV} {T:TypeId} (h:w.heap[b]? = some (.cells (podB x) T (0,0))) (hx:PodIs w x):RdPods w (some ⟨b,0,none⟩) 1 (fun _=>x):=by
  obtain ⟨e0,e1,e2,e3,e4,e5,e6,e7,e8,_⟩:=blk9 h
  refine ⟨by omega,fun _=>⟨b,0,rfl,fun j hj=>?_⟩,fun _ _=>hx⟩
  obtain rfl:j = 0:=by omega
  exact ⟨e0,e1,e2,e3,e4,e5,e6,e7,e8⟩
theorem at_nil (w:World):Calls Tryz.prog 57 #[.nilIface] w fun e w'=>e = .returned (.tuple #[.int .i64 0,.bool false])∧Keep w w':=by
  have h:=Lib.hid (findFault_nil w)
  go_enter Tryz.func57,Tryz.ntmps57
  go_wp2_with (go_at_call 89;refine h.out.mono ?_;rintro e w' ⟨rfl,hr⟩)
  go_ret2
  exact ⟨rfl,hr.alloc _⟩
theorem rl_sub {w:World} {X:Nat→Prop} {w1:World} {B:Option Addr} {c n:Nat} {P:Nat→PodV} {L:List PodV} (h:RL w X w1 B c n P) (hL:(lst P n).map nm = L) (s:Int) (x:PodV) (hx:PodIs w x) (k:Keep w w1) (hn:n≤1000) :
    Calls Tryz.prog 71 #[.slice B n c,.int .i64 s,x.val] w1 fun e w'=>∃ B' c' n' P',e = .returned (.tuple #[.slice B' n' c',.int .i64 (subC L s x)])∧Keep w1 w'∧RL w (fun i=>X i∨(w1.heap.size≤i∧i < w'.heap.size)) w' B' c' n' P'∧(lst P' n').map nm = subL L s x∧(subC L s x = 0→∃ t,t < n'∧findN P' x.k n' = (t:Int)∧nm (P' t) = subP x L.length):=by
  subst hL
  have hB:B = none→n = 0∧c = 0:=fun e=>by
    rcases h.pl with ⟨_,h0⟩ | ⟨g,eg,_⟩
    · exact h0
    · rw [e] at eg;cases eg
  refine (rsub_fn B c n P s x w1 h.rd hB hn).mono ?_
  rintro e w' ⟨B',c',n',P',he,kk,hp⟩
  have hl:((lst P n).map nm).length = n:=by rw [List.length_map,lst_len]
  rcases hp with ⟨h0,rfl,rfl,rfl,rfl⟩ | ⟨h0,rfl,rfl,ho⟩
  · refine ⟨B',c',n',P',he,kk,(h.keep kk).less fun i=>Or.inl,?_,fun h1=>absurd h1 h0⟩
    unfold subL
    rw [if_neg h0]
  · have hk:x.k ∉ keys ((lst P n).map nm):=fun hk=>by
      unfold subC at h0
      rw [if_pos hk] at h0
      exact absurd h0 (by decide)
    have no:∀ t,t < n→(P t).k≠x.k:=fun t ht e=>hk (by
      rw [keys_nm]
      unfold keys
      rw [← e]
      exact List.mem_map_of_mem (lst_mem.2 ⟨t,ht,rfl⟩))
    refine ⟨B',c',n + 1,put P n (subV x n),he,kk,⟨own_rd ho (by omega) fun j hj=>?_,own_cap ho,Or.inr ?_,fun j hj=>?_⟩,?_,fun _=>⟨n,by omega,find_at (by rw [put_at];rfl) (fun t ht=>by rw [put_ne _ _ _ (by omega)];exact no t ht) (by omega),by rw [put_at,hl];rfl⟩⟩
    · by_cases e:j = n
      · rw [e,put_at]
        exact ⟨(hx.keep (k.trans kk)).rd,hx.nil,hx.rng.1,hx.rng.2.1,hx.rng.2.2.1,by unfold I64;show _≤(n:Int)∧(n:Int)≤_;omega,by unfold I64;show _≤(1:Int)∧(1:Int)≤_;omega,by unfold I64;show _≤(-1:Int)∧(-1:Int)≤_;omega,by unfold I64;show _≤(-1:Int)∧(-1:Int)≤_;omega⟩
      · rw [put_ne _ _ _ e]
        exact (h.is j (by omega)).keep (k.trans kk)
    · obtain ⟨g,cap,e,_,hb⟩:=ho.form (by omega)
      simp only [Value.slice.injEq] at e
      exact ⟨g,e.1,Or.inr (ho.lt g (by rw [e.1];rfl))⟩
    · by_cases e:j = n
      · rw [e,put_at]
        exact ⟨hx.rd,hx.nil,hx.rng.1,hx.rng.2.1,hx.rng.2.2.1,by unfold I64;show _≤(n:Int)∧(n:Int)≤_;omega,by unfold I64;show _≤(1:Int)∧(1:Int)≤_;omega,by unfold I64;show _≤(-1:Int)∧(-1:Int)≤_;omega,by unfold I64;show _≤(-1:Int)∧(-1:Int)≤_;omega⟩
      · rw [put_ne _ _ _ e]
        exact h.is j (by omega)
    · unfold subL
      rw [if_pos h0,lst_put,List.map_append,List.map_singleton,hl]
      rfl
theorem lst_puti {P:Nat→PodV} {n i:Nat} {y:PodV} (hd:∀ t,t < n→t≠i→(P t).k≠(P i).k) (f:PodV→PodV) (hf:f (P i) = y):lst (put P i y) n = (lst P n).map fun z=>if z.k = (P i).k then f z else z:=by
  refine List.ext_getElem? fun j=>?_
  by_cases hj:j < n
  · rw [lst_get hj,List.getElem?_map,lst_get hj]
    show some _ = some (if (P j).k = (P i).k then f (P j) else P j)
    by_cases e:j = i
    · rw [e,put_at,if_pos rfl,hf]
    · rw [put_ne _ _ _ e,if_neg (hd j hj e)]
  · rw [List.getElem?_eq_none (by rw [lst_len];omega),List.getElem?_eq_none (by rw [List.length_map,lst_len];omega)]
theorem rl_app {w:World} {X:Nat→Prop} {w1:World} {B:Option Addr} {c n:Nat} {P:Nat→PodV} {L:List PodV} (h:RL w X w1 B c n P) (hL:(lst P n).map nm = L) (hok:LOk L) (id ev nd dl:Int) (hnd:I64 nd) (hdl:I64 dl) (hn:n≤1000) :
    Calls Tryz.prog 70 #[.slice B n c,.int .i64 id,.int .i64 ev,.int .i64 nd,.int .i64 dl] w1 fun e w'=>∃ B' c' n' P',e = .returned (.tuple #[.slice B' n' c',.int .i64 (appC L id ev)])∧Keep w1 w'∧RL w (fun i=>X i∨(w1.heap.size≤i∧i < w'.heap.size)) w' B' c' n' P'∧(lst P' n').map nm = appL L id ev nd dl∧(appC L id ev = 0→∃ t,t < n'∧findN P' id n' = (t:Int)∧nm (P' t) = appP (getL L id) ev nd dl):=by
  subst hL
  refine (rapp_fn B c n P id ev nd dl w1 h.rd hn hnd hdl).mono ?_
  rintro e w' ⟨B',c',P',he,kk,hp⟩
  rcases hp with ⟨h0,rfl,rfl,rfl⟩ | ⟨h0,hc,g,i,hi,hk,hm,rfl,hg,rfl,hr⟩
  · refine ⟨B',c',n,P',he,kk,(h.keep kk).less fun i=>Or.inl,?_,fun h1=>absurd h1 h0⟩
    unfold appL
    rw [if_neg h0]
  · have hin:id ∈ keys ((lst P n).map nm):=by
      rw [keys_nm]
      unfold keys
      rw [← hk]
      exact List.mem_map_of_mem (lst_mem.2 ⟨i,hi,rfl⟩)
    have hget:getL ((lst P n).map nm) id = nm (P i):=by rw [← get_nm,get_first hi hk hm]
    have hdis:∀ t,t < n→t≠i→(P t).k≠(P i).k:=fun t ht hne e=>by
      have hnd:=hok.nod
      rw [keys_nm] at hnd
      unfold keys at hnd
      refine hne ((List.getElem_inj (h₀:=by rw [List.length_map,lst_len];exact ht) (h₁:=by rw [List.length_map,lst_len];exact hi) hnd).1 ?_)
      rw [List.getElem_map,List.getElem_map]
      have a1:=lst_get (Q:=P) ht
      have a2:=lst_get (Q:=P) hi
      rw [List.getElem?_eq_getElem (by rw [lst_len];exact ht)] at a1
      rw [List.getElem?_eq_getElem (by rw [lst_len];exact hi)] at a2
      rw [Option.some.inj a1,Option.some.inj a2]
      exact e
    have his:∀ j,j < n→PodIs w (put P i (appP (P i) ev nd dl) j):=fun j hj=>by
      have h1:=hr.is j hj
      by_cases e:j = i
      · have h2:=h.is i hi
        rw [e,put_at] at h1 ⊢
        exact ⟨h2.rd,h2.nil,h1.rng⟩
      · rw [put_ne _ _ _ e]
        exact h.is j hj
    refine ⟨_,c',n,_,he,kk,⟨hr,hc,Or.inr ⟨g,rfl,Or.inr ⟨hg,?_⟩⟩,his⟩,?_,fun _=>⟨i,hi,find_at (by rw [put_at];exact hk) (fun t ht=>by rw [put_ne _ _ _ (by omega)];exact hm t ht) hi,by rw [put_at,nm_app,hget]⟩⟩
    · obtain ⟨b2,off2,e2,c2⟩:=hr.adr (by omega)
      have e3:=Option.some.inj e2
      simp only [Addr.mk.injEq,and_true] at e3
      rw [e3.1]
      exact cell_lt (c2 0 (by omega)).e0
    · unfold appL
      rw [if_pos h0,lst_puti hdis (fun z=>appP z ev nd dl) rfl,List.map_map,List.map_map]
      refine List.map_congr_left fun z _=>?_
      show nm (if z.k = (P i).k then appP z ev nd dl else z) = if (nm z).k = id then appP (nm z) ev nd dl else nm z
      rw [nm_k,← hk]
      split
      · exact nm_app _ _ _ _
      · rfl
end Go.Proofs.YtnclkefddkgojaaGreatDoor.T13

namespace Go.Proofs.YtnclkefddkgojaaGreatDoor.T14
open Go.RowKit Go.Sort Go.Lib V12 T13
set_option maxHeartbeats 2000000 in
theorem told_yes (c n:Int) (w:World) (hg:ErrT w):Calls Tryz.prog 24 #[fltA c n,.int .i64 c,.int .i64 n] w fun e w'=>e = .returned (.bool true)∧Keep w w':=by
  unfold fltA
  by_cases hc:c = 0
  · rw [if_pos hc]
    subst hc
    have h1:=Lib.hid (code_nil w)
    have h2:=Lib.hid (fun W=>at_nil W)
    clear hg
    go_enter Tryz.func24,Tryz.ntmps24
    go_wp2_with fail
    refine h1.out.mono ?_
    rintro e w1 ⟨rfl,k1⟩
    have k1:=Lib.hid k1
    go_wp2_with fail
    refine (h2.out _).mono ?_
    rintro e w2 ⟨rfl,k2⟩
    have k2:=Lib.hid k2
    go_wp2
    go_ret
    exact ⟨rfl,k1.out.trans k2.out⟩
  · rw [if_neg hc]
    have h1:=Lib.hid (code_yes c [] (.fault c n) _ w (.base _) (Or.inr ⟨_,rfl⟩) hg)
    have h2:Hid (∀ W,Keep w W→Calls Tryz.prog 57 #[(Base.fault c n).val] W fun e w'=>e = .returned (.tuple #[.int .i64 n,.bool true])∧Keep W w'):=fun W k=>at_yes c n [] _ W (.base _) (hg.keep k)
    clear hg
    unfold flt
    go_enter Tryz.func24,Tryz.ntmps24
    go_wp2_with fail
    refine h1.out.mono ?_
    rintro e w1 ⟨rfl,k1⟩
    have k1:=Lib.hid k1
    go_wp2_with fail
    refine (h2.out _ k1.out).mono ?_
    rintro e w2 ⟨rfl,k2⟩
    have k2:=Lib.hid k2
    go_wp2
    go_ret
    exact ⟨rfl,k1.out.trans k2.out⟩
end Go.Proofs.YtnclkefddkgojaaGreatDoor.T14

namespace Go.Proofs.YtnclkefddkgojaaGreatDoor.T14
open Go.RowKit Go.Sort Go.Lib V12 T13
def AfPost (w:World) (P:Nat→PodV) (m:Nat) (id code:Int) (e:Ending) (w':World):Prop :=
  ∃ z:PodV,e = .returned z.val∧Keep w w'∧(¬ code = 0∨findN P id m < 0→z = zpod)∧(code = 0→∀ j:Nat,j < m→findN P id m = (j:Int)→z = P j)
set_option maxRecDepth 100000 in
set_option maxHeartbeats 8000000 in
theorem after_none (d:Int) (A:Option Addr) (n c:Nat) (B:Option Addr) (m e:Nat) (P:Nat→PodV) (id code:Int) (w:World) (hP:RdPods w B m P) (hz:¬ code = 0∨findN P id m < 0) :
    Calls Tryz.prog 16 #[(⟨d,A,n,c,B,m,e⟩:RcV).val,.int .i64 id,.int .i64 code] w (AfPost w P m id code):=by
  obtain ⟨W0,hW0⟩:∃ W0,W0 = w.alloc (.cells (RcV.arr ⟨d,A,n,c,B,m,e⟩) 30):=⟨_,rfl⟩
  obtain ⟨W,hW⟩:∃ W,W = W0.alloc (.cells (podB zpod) 35):=⟨_,rfl⟩
  obtain ⟨bx,hbx⟩:∃ bx,bx = w.heap.size:=⟨_,rfl⟩
  obtain ⟨b,hb⟩:∃ b,b = w.heap.size + 1:=⟨_,rfl⟩
  have s0:W0.heap.size = b:=by rw [hW0,World.size_alloc,hb]
  have KW:Hid (Keep w W):=by rw [hW,hW0];exact (Keep.one _ _:Keep w _).alloc _
  have BX:Hid (W.heap[bx]? = some (.cells (RcV.arr ⟨d,A,n,c,B,m,e⟩) 30 (0,0))):=by show _ = _;rw [hW,hW0,hbx];exact (Keep.one _ _).block (heap_alloc_new _ _)
  have BZ:Hid (W.heap[b]? = some (.cells (podB zpod) 35 (0,0))):=by show _ = _;rw [hW,← s0];exact heap_alloc_new _ _
  have hR:=hP.keep KW.out
  have cF:=Lib.hid (rfind_fn B m e P id W hR)
  obtain ⟨c0,c1,c2,cf⟩:=rc_cells BX.out
  obtain ⟨z0,z1,z2,z3,z4,z5,z6,z7,z8,zf⟩:=blk9 BZ.out
  unfold zpod at z0 z1 z2 z3 z4 z5 z6 z7 z8
  simp only at c0 c1 c2 z0 z1 z2 z3 z4 z5 z6 z7 z8
  have fin:Hid (∀ z:PodV,(put9 W b z).heap[b]? = some (.cells (podB z) 35 (0,0))∧Keep w (put9 W b z)):=fun z=>⟨put9_heap _ zpod BZ.out,put9_keep _ KW.out (by omega)⟩
  simp only [RcV.arr] at hW0
  unfold podB zpod at hW
  have c2e:=c2
  rw [hW,hW0] at c2e
  simp only [RcV.val]
  clear hP hR
  have zero:Hid (¬ code = 0∨findN P id m < 0→(code = 0→∀ j:Nat,j < m→findN P id m = (j:Int)→zpod = P j)):=fun h hc j _ e=>by
    rcases h with h | h
    · exact absurd hc h
    · omega
  obtain ⟨r,hr⟩:∃ r,r = findN P id m:=⟨_,rfl⟩
  rw [← hr] at cF zero hz
  unfold AfPost
  rw [← hr]
  · have z':=Lib.hid (zero.out hz)
    have hb9:(¬ code = 0)∨(code = 0∧r < 0):=by
      by_cases h:code = 0
      · exact Or.inr ⟨h,hz.resolve_left (not_not_intro h)⟩
      · exact Or.inl h
    clear hz
    replace hr:=Lib.hid hr
    obtain ⟨F1,F2⟩:=fin.out zpod
    replace F1:=Lib.hid F1
    replace F2:=Lib.hid F2
    rcases hb9 with h1 | ⟨rfl,h1⟩
    · have e1:(code != 0) = true:=by simpa using h1
      go_enter Tryz.func16,Tryz.ntmps16
      go_wp2_with fail
      clear c2e
      rw [← hW0,← hW,← hb]
      try rw [← hbx]
      replace hW0:=Lib.hid hW0
      replace hW:=Lib.hid hW
      replace hb:=Lib.hid hb
      replace hbx:=Lib.hid hbx
      refine cF.out.mono ?_
      rintro e' w2 ⟨rfl,rfl⟩
      go_wp2
      obtain ⟨d0,d1,d2,d3,d4,d5,d6,d7,d8,_⟩:=blk9 F1.out
      unfold put9 zpod at *
      refine bodyPost_ret (v:=zpod.val) (by unfold PodV.val zpod;simp [results,Tryz.results16,go_sem,d0,d1,d2,d3,d4,d5,d6,d7,d8]) rfl ⟨zpod,rfl,F2.out,fun _=>rfl,z'.out⟩
    · go_enter Tryz.func16,Tryz.ntmps16
      go_wp2_with fail
      clear c2e
      rw [← hW0,← hW,← hb]
      try rw [← hbx]
      replace hW0:=Lib.hid hW0
      replace hW:=Lib.hid hW
      replace hb:=Lib.hid hb
      replace hbx:=Lib.hid hbx
      refine cF.out.mono ?_
      rintro e' w2 ⟨rfl,rfl⟩
      go_wp2
      obtain ⟨d0,d1,d2,d3,d4,d5,d6,d7,d8,_⟩:=blk9 F1.out
      unfold put9 zpod at *
      refine bodyPost_ret (v:=zpod.val) (by unfold PodV.val zpod;simp [results,Tryz.results16,go_sem,d0,d1,d2,d3,d4,d5,d6,d7,d8]) rfl ⟨zpod,rfl,F2.out,fun _=>rfl,z'.out⟩
set_option maxRecDepth 100000 in
set_option maxHeartbeats 8000000 in
theorem after_at (d:Int) (A:Option Addr) (n c:Nat) (B:Option Addr) (m e:Nat) (P:Nat→PodV) (id code:Int) (w:World) (hP:RdPods w B m P) (hc:code = 0) (j:Nat) (hj:j < m) (hf:findN P id m = (j:Int)) :
    Calls Tryz.prog 16 #[(⟨d,A,n,c,B,m,e⟩:RcV).val,.int .i64 id,.int .i64 code] w (AfPost w P m id code):=by
  obtain ⟨W0,hW0⟩:∃ W0,W0 = w.alloc (.cells (RcV.arr ⟨d,A,n,c,B,m,e⟩) 30):=⟨_,rfl⟩
  obtain ⟨W,hW⟩:∃ W,W = W0.alloc (.cells (podB zpod) 35):=⟨_,rfl⟩
  obtain ⟨bx,hbx⟩:∃ bx,bx = w.heap.size:=⟨_,rfl⟩
  obtain ⟨b,hb⟩:∃ b,b = w.heap.size + 1:=⟨_,rfl⟩
  have s0:W0.heap.size = b:=by rw [hW0,World.size_alloc,hb]
  have KW:Hid (Keep w W):=by rw [hW,hW0];exact (Keep.one _ _:Keep w _).alloc _
  have BX:Hid (W.heap[bx]? = some (.cells (RcV.arr ⟨d,A,n,c,B,m,e⟩) 30 (0,0))):=by show _ = _;rw [hW,hW0,hbx];exact (Keep.one _ _).block (heap_alloc_new _ _)
  have BZ:Hid (W.heap[b]? = some (.cells (podB zpod) 35 (0,0))):=by show _ = _;rw [hW,← s0];exact heap_alloc_new _ _
  have hR:=hP.keep KW.out
  have cF:=Lib.hid (rfind_fn B m e P id W hR)
  obtain ⟨c0,c1,c2,cf⟩:=rc_cells BX.out
  obtain ⟨z0,z1,z2,z3,z4,z5,z6,z7,z8,zf⟩:=blk9 BZ.out
  unfold zpod at z0 z1 z2 z3 z4 z5 z6 z7 z8
  simp only at c0 c1 c2 z0 z1 z2 z3 z4 z5 z6 z7 z8
  have fin:Hid (∀ z:PodV,(put9 W b z).heap[b]? = some (.cells (podB z) 35 (0,0))∧Keep w (put9 W b z)):=fun z=>⟨put9_heap _ zpod BZ.out,put9_keep _ KW.out (by omega)⟩
  simp only [RcV.arr] at hW0
  unfold podB zpod at hW
  have c2e:=c2
  rw [hW,hW0] at c2e
  simp only [RcV.val]
  subst hc
  have RB:=Lib.hid hR
  clear hP hR
  have hms:m≤9223372036854775807:=RB.out.small
  rw [hf] at cF
  obtain ⟨gp,off,hA,ca⟩:=RB.out.adr (by omega)
  subst hA
  have q1:=pods_at gp off m e j hj
  have Y:=ca j hj
  obtain ⟨y,hy⟩:∃ y,y = P j:=⟨_,rfl⟩
  rw [← hy] at Y
  have z':Hid ((¬ (0:Int) = 0∨findN P id m < 0→y = zpod)∧((0:Int) = 0→∀ t:Nat,t < m→findN P id m = (t:Int)→y = P t)):=by
    refine ⟨fun h=>?_,fun _ t ht e=>?_⟩
    · rcases h with h | h
      · exact absurd rfl h
      · omega
    · have:t = j:=by omega
      rw [this,hy]
  obtain ⟨F1,F2⟩:=fin.out y
  replace F1:=Lib.hid F1
  replace F2:=Lib.hid F2
  have y0:=Y.e0;have y1:=Y.e1;have y2:=Y.e2;have y3:=Y.e3;have y4:=Y.e4;have y5:=Y.e5;have y6:=Y.e6;have y7:=Y.e7;have y8:=Y.e8
  clear Y ca
  replace hy:=Lib.hid hy
  unfold AfPost
  replace hf:=Lib.hid hf
  obtain ⟨r,hr⟩:∃ r:Int,r = j:=⟨_,rfl⟩
  rw [← hr] at cF q1
  have hrn:decide (r < 0) = false:=decide_eq_false (by omega)
  replace hr:=Lib.hid hr
  go_enter Tryz.func16,Tryz.ntmps16
  go_wp2_with fail
  clear c2e
  rw [← hW0,← hW,← hb]
  try rw [← hbx]
  replace hW0:=Lib.hid hW0
  replace hW:=Lib.hid hW
  replace hb:=Lib.hid hb
  replace hbx:=Lib.hid hbx
  replace s0:=Lib.hid s0
  refine cF.out.mono ?_
  rintro e' w2 ⟨rfl,rfl⟩
  clear c0 c1
  go_wp2
  obtain ⟨d0,d1,d2,d3,d4,d5,d6,d7,d8,_⟩:=blk9 F1.out
  unfold put9 at *
  refine bodyPost_ret (v:=y.val) (by unfold PodV.val;simp [results,Tryz.results16,go_sem,d0,d1,d2,d3,d4,d5,d6,d7,d8]) rfl ⟨y,rfl,F2.out,z'.out.1,z'.out.2⟩
theorem after_fn (d:Int) (A:Option Addr) (n c:Nat) (B:Option Addr) (m e:Nat) (P:Nat→PodV) (id code:Int) (w:World) (hP:RdPods w B m P) :
    Calls Tryz.prog 16 #[(⟨d,A,n,c,B,m,e⟩:RcV).val,.int .i64 id,.int .i64 code] w (AfPost w P m id code):=by
  by_cases hz:¬ code = 0∨findN P id m < 0
  · exact after_none d A n c B m e P id code w hP hz
  · have h1:code = 0:=Classical.byContradiction fun h=>hz (Or.inl h)
    have h2:0≤findN P id m:=by
      have:¬ findN P id m < 0:=fun h=>hz (Or.inr h)
      omega
    obtain ⟨j,hj,e2,_⟩:=find_lt h2
    exact after_at d A n c B m e P id code w hP h1 j hj e2
end Go.Proofs.YtnclkefddkgojaaGreatDoor.T14

namespace Go.Proofs.YtnclkefddkgojaaGreatDoor.T14
open Go.RowKit Go.Sort Go.Lib V12 T13
def evD (y:PodV):Int:=if y.h = 2 then 3 else 5
def drT (L:List PodV) (id:Int) (t:Nat):List PodV:=L.map fun y=>if y.k ∈ keys ((L.filter (onB id)).take t) then drP y else y
theorem drT_zero (L:List PodV) (id:Int):drT L id 0 = L:=by
  unfold drT
  conv=>rhs;rw [← List.map_id L]
  refine List.map_congr_left fun y _=>?_
  rw [List.take_zero,if_neg (by unfold keys;simp)]
  rfl
theorem key_inj {L:List PodV} (h:LOk L) {x y:PodV} (hx:x ∈ L) (hy:y ∈ L) (e:x.k = y.k):x = y:=by
  rw [← get_mem h hx,e,get_mem h hy]
theorem drT_all {L:List PodV} (h:LOk L) (id:Int):drT L id (L.filter (onB id)).length = drL L id:=by
  unfold drT drL
  refine List.map_congr_left fun y hy=>?_
  rw [List.take_length]
  by_cases e:onB id y = true
  · rw [if_pos e,if_pos (show y.k ∈ keys _ from List.mem_map_of_mem (List.mem_filter.2 ⟨hy,e⟩))]
  · rw [if_neg e,if_neg]
    intro hk
    obtain ⟨z,hz,ez⟩:=List.mem_map.1 hk
    obtain ⟨hz1,hz2⟩:=List.mem_filter.1 hz
    rw [key_inj h hy hz1 ez.symm] at e
    exact e hz2
theorem drT_keys (L:List PodV) (id:Int) (t:Nat):keys (drT L id t) = keys L:=by
  unfold keys drT
  rw [List.map_map]
  refine List.map_congr_left fun y _=>?_
  show (if _ then drP y else y).k = y.k
  split <;> rfl
theorem drT_len (L:List PodV) (id:Int) (t:Nat):(drT L id t).length = L.length:=List.length_map _
theorem drT_ok {L:List PodV} (h:LOk L) (id:Int) (t:Nat):LOk (drT L id t):=by
  refine ⟨by rw [drT_keys];exact h.nod,fun j hj=>?_,fun y hy=>?_,fun y hy=>?_⟩
  · unfold drT at hj ⊢
    rw [List.getElem_map]
    have h1:=h.arr j (by rwa [List.length_map] at hj)
    split
    · exact h1
    · exact h1
  · obtain ⟨z,hz,rfl⟩:=List.mem_map.1 hy
    split
    · rename_i h1
      obtain ⟨z2,hz2,e2⟩:=List.mem_map.1 h1
      obtain ⟨h3,h4⟩:=List.mem_filter.1 (List.mem_of_mem_take hz2)
      rw [key_inj h h3 hz e2] at h4
      have:=(drP_h h4).2
      omega
    · exact h.ph z hz
  · obtain ⟨z,hz,rfl⟩:=List.mem_map.1 hy
    split
    · unfold drP
      rw [nm_app,h.nm z hz]
    · exact h.nm z hz
theorem drT_step {L:List PodV} (h:LOk L) {id:Int} {t:Nat} (ht:t < (L.filter (onB id)).length) {z:PodV} (hz:(L.filter (onB id))[t]? = some z) :
    onB id z = true∧getL (drT L id t) z.k = z∧appC (drT L id t) z.k (evD z) = 0∧appL (drT L id t) z.k (evD z) (-1) (-1) = drT L id (t + 1):=by
  have hm:=List.mem_of_getElem? hz
  obtain ⟨hzL,hon⟩:=List.mem_filter.1 hm
  have nodF:(keys (L.filter (onB id))).Nodup:=h.nod.sublist (List.filter_sublist.map _)
  have hno:z.k ∉ keys ((L.filter (onB id)).take t):=fun hk=>by
    obtain ⟨y,hy,e⟩:=List.mem_map.1 hk
    obtain ⟨i,hi,e2⟩:=List.mem_take_iff_getElem.1 hy
    have hi2:i < t:=by omega
    have hi3:i < (L.filter (onB id)).length:=by omega
    rw [List.getElem?_eq_getElem ht] at hz
    have ez:=Option.some.inj hz
    have:=(List.getElem_inj (h₀:=by unfold keys;rw [List.length_map];exact hi3) (h₁:=by unfold keys;rw [List.length_map];exact ht) nodF).1 (by
      unfold keys
      rw [List.getElem_map,List.getElem_map,ez,← e,← e2])
    omega
  have hmem:z ∈ drT L id t:=List.mem_map.2 ⟨z,hzL,if_neg hno⟩
  have hget:getL (drT L id t) z.k = z:=get_mem (drT_ok h id t) hmem
  have hkin:z.k ∈ keys (drT L id t):=by rw [drT_keys];exact List.mem_map_of_mem hzL
  have hnx:=(drP_h hon).1
  have hc:appC (drT L id t) z.k (evD z) = 0:=by
    unfold appC
    rw [if_neg (not_not_intro hkin),hget,if_neg (show ¬ nx z.h (evD z) = 0 from hnx)]
  refine ⟨hon,hget,hc,?_⟩
  unfold appL
  rw [if_pos hc]
  unfold drT
  rw [List.map_map]
  refine List.map_congr_left fun y hy=>?_
  have hts:(L.filter (onB id)).take (t + 1) = (L.filter (onB id)).take t ++ [z]:=by rw [List.take_add_one,hz];rfl
  show (if (if y.k ∈ keys ((L.filter (onB id)).take t) then drP y else y).k = z.k then appP (if y.k ∈ keys ((L.filter (onB id)).take t) then drP y else y) (evD z) (-1) (-1) else _) = if y.k ∈ keys ((L.filter (onB id)).take (t + 1)) then drP y else y
  have hk1:(if y.k ∈ keys ((L.filter (onB id)).take t) then drP y else y).k = y.k:=by split <;> rfl
  rw [hk1,hts]
  by_cases e:y.k = z.k
  · rw [if_pos e]
    have ey:=key_inj h hy hzL e
    rw [ey,if_neg hno,if_pos (by unfold keys;simp)]
    rfl
  · rw [if_neg e]
    by_cases h1:y.k ∈ keys ((L.filter (onB id)).take t)
    · rw [if_pos h1,if_pos (by unfold keys at h1 ⊢;rw [List.map_append];exact List.mem_append_left _ h1)]
    · rw [if_neg h1,if_neg]
      intro h2
      unfold keys at h1 h2
      rw [List.map_append] at h2
      rcases List.mem_append.1 h2 with h2 | h2
      · exact h1 h2
      · exact e (by simpa using h2)
end Go.Proofs.YtnclkefddkgojaaGreatDoor.T14

