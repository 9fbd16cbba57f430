/-
  The reference's AddNode, whatever it answers. Condition: at most 100 nodes, sorted.
  A region that draws its order and whose late operations (a list) need not leave what is held: as Ord14, for several late operations, of which those that read no memory may be taken at once. No program.
  What the walk of the reference's Drop wants: where a row of pods lies behind an append; the dropped pods as parts of a list. No condition.
-/
import Derived.Test.YtnclkefddkgojaaGreatDoorB14
import Derived.Test.YtnclkefddkgojaaGreatDoorB13
import Derived.Test.YtnclkefddkgojaaGreatDoorB11
namespace Go.Proofs.YtnclkefddkgojaaGreatDoor.C14
open Go.RowKit Go.Sort Go.Lib V12 T13 T14
theorem rc_add {w:World} {X:Nat→Prop} {w1:World} (d:Nat) (A:Option Addr) (N c:Nat) (B:Option Addr) (m e:Nat) {P:Nat→NdC} {M:List NV} (h:RN w X w1 A c N P) (hM:(lst P N).map nv = M) (hs:G.Srt NV.k M) (kd:Int) (A2:Option Addr) (n2 c2:Nat) (Z:Nat→Int) (hV:Rd w A2 n2 Z) (nilV:A2 = none→n2 = 0∧c2 = 0) (hk:I64 kd) (k:Keep w w1) (hn:N≤100) :
    Calls Tryz.prog 36 #[(⟨d,A,N,c,B,m,e⟩:RcV).val,.agg #[.int .i64 kd,.slice A2 n2 c2]] w1 fun e' w'=>∃ A' c' n' P',e' = .returned (.tuple #[(⟨d,A',n',c',B,m,e⟩:RcV).val,.int .i64 (adC M d kd n2 Z),.int .i64 (wrI d n2 Z)])∧Keep w1 w'∧RN w (fun i=>X i∨(w1.heap.size≤i∧i < w'.heap.size)) w' A' c' n' P'∧(lst P' n').map nv = adL M d kd n2 Z∧((∀ j,j < N→(P j).n = d)→∀ j,j < n'→(P' j).n = d):=by
  by_cases hc:adC M d kd n2 Z = 0
  · obtain ⟨h1,h2⟩:=adC_zero hc
    exact rc_add_new d A N c B m e h hM hs kd A2 n2 c2 Z hV nilV hk k hn h1 h2
  · exact rc_add_no d A N c B m e h hM hs kd A2 n2 c2 Z hV k hn hc
end Go.Proofs.YtnclkefddkgojaaGreatDoor.C14

namespace Go.Proofs.YtnclkefddkgojaaGreatDoor.OrdS
open Go OrdM
section
variable {P:Program} {ops:Array Oper} {Q:Exit→Act→World→Prop} {md:Region.Mode} {S:World→Prop} {zs:List Nat}
def Rest (P:Program) (md:Region.Mode) (ops:Array Oper) (Q:Exit→Act→World→Prop) (S:World→Prop) (zs:List Nat):Nat→Array Bool→Act→World→Prop
  | 0=>fun l a w=>Region.ready md ops l = []∧Q .normal a w
  | n + 1=>fun l a w=>(Region.ready md ops l = []→Q .normal a w)∧∀ i,i ∈ Region.ready md ops l→wpOp P ops Q i (fun b v=>(i ∉ zs→S v)∧Rest P md ops Q S zs n (l.setIfInBounds i true) b v) a w
theorem Rest.any:∀ {n:Nat} {l:Array Bool} {a:Act} {w:World},Rest P md ops Q S zs n l a w→wpAny P md ops Q n l a w
  | 0,_,_,_,h=>h
  | _ + 1,_,_,_,h=>⟨h.1,fun i hi=>wpOp_mono (fun _ _ k=>k.2.any) (h.2 i hi)⟩
theorem rest_start {id:Nat} {a:Act} {w:World} (S:World→Prop) (zs:List Nat) (hm:P.follows .mixedOrders = true) (hS:S w.drew) (h:S w.drew→Rest P .any ops Q S zs ops.size (Array.replicate ops.size false) a w.drew):(Code.region id ops true).wp P Q a w :=
  wp_region_any hm (h hS).any
theorem rest_first {i m:Nat} {oi:Oper} {v:Value} (hi:ops[i]? = some oi) (hsel:∀ (j:Nat) (o:Oper) cs b,ops[j]? = some o→o.op≠.select cs b) (hQ:∀ c a w,Q (.panic c) (a.put oi.dst v) w→Q (.panic c) a w) (hz:∀ z,z ∈ zs→waits md ops i m z = true) :
    ∀ (n:Nat) (l:Array Bool) (a:Act) (w:World),Closed md ops l→Apart md ops l i oi→i ∈ Region.ready md ops l→YieldsIf P ops S oi v a→S w→Rest P md ops Q S zs n (l.setIfInBounds i true) (a.put oi.dst v) w→Rest P md ops Q S zs (n + 1) l a w:=by
  intro n
  induction n with
  | zero =>
    intro l a w _ _ hr hy hS H
    refine ⟨fun h=>absurd (h ▸ hr) (by simp),fun j hj=>?_⟩
    by_cases e:j = i
    · rw [e]
      exact hy.wpOp hi hS ⟨fun _=>hS,H⟩
    · exact absurd (H.1 ▸ ready_mono hj e) (by simp)
  | succ n ih =>
    intro l a w hc hap hr hy hS H
    refine ⟨fun h=>absurd (h ▸ hr) (by simp),fun j hj=>?_⟩
    by_cases e:j = i
    · rw [e]
      exact hy.wpOp hi hS ⟨fun _=>hS,H⟩
    · have hjz:j ∉ zs:=fun ez=>waits_not hc (hz j ez) hr hj
      obtain ⟨hun,oj,hoj,hall⟩:=mem_ready.1 hj
      have h2:=wpOp_putIf hoj (hap j oj hoj e hun (not_on hr hall)) (fun cs b=>hsel i oi cs b hi) (fun cs b=>hsel j oj cs b hoj) hQ hy (H.2 j (ready_mono hj e))
      refine wpOp_mono (fun b u h3=>?_) h2
      refine ⟨h3.2.1,ih _ b u (hc.set hoj hall) (hap.set hun) (ready_mono hr fun x=>e x.symm) h3.1 (h3.2.1 hjz) ?_⟩
      rw [Array.setIfInBounds_comm _ _ e]
      exact h3.2.2
theorem rest_firstP {i:Nat} {oi:Oper} {v:Value} (hi:ops[i]? = some oi) (hsel:∀ (j:Nat) (o:Oper) cs b,ops[j]? = some o→o.op≠.select cs b) (hQ:∀ c a w,Q (.panic c) (a.put oi.dst v) w→Q (.panic c) a w) (hz:i ∈ zs) :
    ∀ (n:Nat) (l:Array Bool) (a:Act) (w:World),Apart md ops l i oi→i ∈ Region.ready md ops l→YieldsIf P ops (fun _=>True) oi v a→Rest P md ops Q S zs n (l.setIfInBounds i true) (a.put oi.dst v) w→Rest P md ops Q S zs (n + 1) l a w:=by
  intro n
  induction n with
  | zero =>
    intro l a w _ hr hy H
    refine ⟨fun h=>absurd (h ▸ hr) (by simp),fun j hj=>?_⟩
    by_cases e:j = i
    · rw [e]
      exact hy.wpOp hi trivial ⟨fun hn=>absurd hz hn,H⟩
    · exact absurd (H.1 ▸ ready_mono hj e) (by simp)
  | succ n ih =>
    intro l a w hap hr hy H
    refine ⟨fun h=>absurd (h ▸ hr) (by simp),fun j hj=>?_⟩
    by_cases e:j = i
    · rw [e]
      exact hy.wpOp hi trivial ⟨fun hn=>absurd hz hn,H⟩
    · obtain ⟨hun,oj,hoj,hall⟩:=mem_ready.1 hj
      have h2:=wpOp_putIf hoj (hap j oj hoj e hun (not_on hr hall)) (fun cs b=>hsel i oi cs b hi) (fun cs b=>hsel j oj cs b hoj) hQ hy (H.2 j (ready_mono hj e))
      refine wpOp_mono (fun b u h3=>?_) h2
      refine ⟨h3.2.1,ih _ b u (hap.set hun) (ready_mono hr fun x=>e x.symm) h3.1 ?_⟩
      rw [Array.setIfInBounds_comm _ _ e]
      exact h3.2.2
theorem rest_take {i:Nat} {oi:Oper} {v:Value} {n:Nat} {l:Array Bool} {a:Act} {w:World} (hi:ops[i]? = some oi) (hs:Region.noSelect ops = true) (hf:Region.free md ops l i = true) (hr:(Region.ready md ops l).contains i = true) (hz:(zs.all fun z=>waits md ops i ops.size z) = true) (hc:closed md ops l = true)
    (hQ:∀ c a w,Q (.panic c) (a.put oi.dst v) w→Q (.panic c) a w) (hy:YieldsIf P ops S oi v a) (hS:S w)
    (h:Rest P md ops Q S zs n (l.setIfInBounds i true) (a.put oi.dst v) w):Rest P md ops Q S zs (n + 1) l a w :=
  rest_first hi (Region.noSelect_spec hs) hQ (fun z hzs=>List.all_eq_true.1 hz z hzs) n l a w (closed_spec hc) (Region.free_spec hi hf) (by simpa using hr) hy hS h
theorem rest_takeP {i:Nat} {oi:Oper} {v:Value} {n:Nat} {l:Array Bool} {a:Act} {w:World} (hi:ops[i]? = some oi) (hs:Region.noSelect ops = true) (hf:Region.free md ops l i = true) (hr:(Region.ready md ops l).contains i = true) (hz:zs.contains i = true)
    (hQ:∀ c a w,Q (.panic c) (a.put oi.dst v) w→Q (.panic c) a w) (hy:YieldsIf P ops (fun _=>True) oi v a)
    (h:Rest P md ops Q S zs n (l.setIfInBounds i true) (a.put oi.dst v) w):Rest P md ops Q S zs (n + 1) l a w :=
  rest_firstP hi (Region.noSelect_spec hs) hQ (by simpa using hz) n l a w (Region.free_spec hi hf) (by simpa using hr) hy h
def Each (P:Program) (md:Region.Mode) (ops:Array Oper) (Q:Exit→Act→World→Prop) (S:World→Prop) (zs:List Nat) (n:Nat) (l:Array Bool) (a:Act) (w:World) (rs:List Nat):Prop :=
  ∀ i,i ∈ rs→wpOp P ops Q i (fun b v=>(i ∉ zs→S v)∧Rest P md ops Q S zs n (l.setIfInBounds i true) b v) a w
theorem Each.nil {n:Nat} {l:Array Bool} {a:Act} {w:World}:Each P md ops Q S zs n l a w []:=fun _ h=>by cases h
theorem Each.cons {n:Nat} {l:Array Bool} {a:Act} {w:World} {i:Nat} {o:Oper} {rs:List Nat} (ho:ops[i]? = some o)
    (h:∀ K:Act→World→Prop,Shut (∀ b v,(i ∉ zs→S v)→Rest P md ops Q S zs n (l.setIfInBounds i true) b v→K b v)→if Region.wanted o (yielded ops a.tmps) = true then Oper.wp P o a w K Q else K (a.put o.dst undef) w)
    (hs:Each P md ops Q S zs n l a w rs):Each P md ops Q S zs n l a w (i :: rs):=fun j hj=>by
  rcases List.mem_cons.1 hj with e | hj
  · rw [e]
    exact wpOp_step ho fun K hK=>h K fun b v h1 h2=>hK b v ⟨h1,h2⟩
  · exact hs j hj
theorem rest_ready {rs:List Nat} {n:Nat} {l:Array Bool} {a:Act} {w:World} (hr:Region.ready md ops l = rs) (hne:rs≠[]) (h:Each P md ops Q S zs n l a w rs):Rest P md ops Q S zs (n + 1) l a w :=
  ⟨fun h0=>absurd (hr.symm.trans h0) hne,fun i hi=>h i (hr ▸ hi)⟩
theorem rest_done {l:Array Bool} {a:Act} {w:World} (hr:Region.ready md ops l = []) (h:Q .normal a w):∀ n,Rest P md ops Q S zs n l a w
  | 0=>⟨hr,h⟩
  | _ + 1=>⟨fun _=>h,fun i hi=>absurd (hr ▸ hi) (by simp)⟩
end
end Go.Proofs.YtnclkefddkgojaaGreatDoor.OrdS

namespace Go.Proofs.YtnclkefddkgojaaGreatDoor.T14
open Go.RowKit Go.Sort Go.Lib V12 T13
section
variable {o:Oper} {a:Act} {w:World} {K:Act→World→Prop} {Q:Exit→Act→World→Prop}
theorem pod_block {ty:TypeId} {base n:Nat} {v v':Value} {w':World} {xs:List Value} (hown:w.ownsRow base 35 9 v n xs) (ad:Addr) (c:Nat) (news:List Value) (hl:news.length = 1 * 9) (hnews:∀ j u,news[j]? = some u→w.cell? (ad.add j) = some u) (h1:∀ u ∈ news,u.oneCell' = true) (hlim:n + 1≤1048577)
    (hr:(Builtin.append_ #[28,28] ty #[v,.slice (some ad) 1 c]).run Tryz.prog w = .ok v' w'):∀ g,v'.ownBlock = some g→v.ownBlock = some g∨w.heap.size≤g:=by
  obtain ⟨i0,hi0,hz0,hz1,hz2⟩:=info_parts Tryz.infoPod
  intro g hg
  rcases hown.2 with ⟨rfl,rfl⟩ | ⟨g0,cap,cur,rfl,hbg,hb0,hnc,hcm,hcs,htake⟩
  · obtain ⟨v2,w2,hr2,h2,_,_⟩:=run_append_own (P:=Tryz.prog) (w:=w) w.heap.size 28 ty 35 i0 _ 9 88 Tryz.underlying28 hi0 hz0 hz1 hz2 rfl (by decide) (.slice none 0 0) 0 [] (World.ownsRow_nil _ _ _ _) ad 1 c news hl hnews h1 (by unfold maxLen;omega) (by omega) (Nat.le_refl _)
    rw [hr] at hr2
    simp only [Result.ok.injEq] at hr2
    rw [← hr2.1] at h2
    exact Or.inr (h2.lt g hg).1
  · by_cases hroom:n + 1≤cap
    · obtain ⟨w2,hr2,_,_⟩:=run_append_fits (P:=Tryz.prog) w base 28 ty 35 i0 9 Tryz.underlying28 hi0 hz1 g0 n cap xs hown ad 1 c news hl hnews h1 hroom
      rw [hr] at hr2
      simp only [Result.ok.injEq] at hr2
      rw [hr2.1] at hg
      exact Or.inl hg
    · have holds:∀ j u,xs[j]? = some u→w.cell? ((⟨g0,0,none⟩:Addr).add j) = some u:=hown.cells (g:=g0) rfl
      have hr2:=run_append_grow (P:=Tryz.prog) w 28 ty 35 i0 _ Tryz.underlying28 hi0 hz0 ⟨g0,0,none⟩ n cap xs (by rw [hz1];exact hown.1) holds ad 1 c news (by rw [hz1];exact hl) hnews (by omega) (by omega) (growslice_fits (by omega) (by rw [hz2];omega))
      rw [hr] at hr2
      simp only [Result.ok.injEq] at hr2
      rw [hr2.1] at hg
      refine Or.inr ?_
      have:w.heap.size = g:=by simpa [Value.ownBlock] using hg
      omega
theorem wp_ownB (s x:Operand) (ho:o.op = .call { callee:=.builtin .append,args:=#[s,x],argTypes:=#[28,28] })
    (base:Nat) (v:Value) (n:Nat) (xs:List Value) (hs:a.eval s = v) (hown:w.ownsRow base 35 9 v n xs) (kb c:Nat) (p:PodV) (hx:a.eval x = .slice (some ⟨kb,0,none⟩) 1 c) (hb:w.heap[kb]? = some (.cells (podB p) 35 (0,0)))
    (hlim:n + 1≤1048577) (hbase:base≤w.heap.size) (N:Nat) (hN:n + 1 = N)
    (h:∀ v' w',w'.ownsRow base 35 9 v' N (xs ++ p.cells)→w.grownBy w' v.ownBlock→(∀ g,v'.ownBlock = some g→v.ownBlock = some g∨w.heap.size≤g)→K (a.put o.dst v') w'):Oper.wp Tryz.prog o a w K Q:=by
  subst hN
  obtain ⟨i0,hi0,hz0,hz1,hz2⟩:=info_parts Tryz.infoPod
  have hnews:∀ j u,p.cells[j]? = some u→w.cell? ((⟨kb,0,none⟩:Addr).add j) = some u:=fun j u hu=>by
    rw [WideShapes.add_plain,Nat.zero_add,cell_of_row w kb j _ _ _ hb]
    unfold podB
    rw [List.getElem?_toArray]
    exact hu
  obtain ⟨v',w',hr,h2,h3,_⟩:=run_append_own (P:=Tryz.prog) (w:=w) base 28 o.type 35 i0 _ 9 88 Tryz.underlying28 hi0 hz0 hz1 hz2 rfl (by decide) v n xs hown ⟨kb,0,none⟩ 1 c p.cells rfl hnews (cells_one p) (by unfold maxLen;omega) (by omega) hbase
  have hbl:=pod_block hown ⟨kb,0,none⟩ c p.cells rfl hnews (cells_one p) hlim hr
  unfold Oper.wp execOp
  simp only [ho,resolve,invoke,builtin,Sem.run_bind,Sem.run_pure,Result.andThen_ok,List.map_toArray,List.map_cons,List.map_nil,hs,hx,hr]
  exact h v' w' h2 h3 hbl
end
theorem not_three {w:World} {bx g o:Nat} {x:PodV} {u0 u1 u2:Value} {T:TypeId} (h:w.heap[bx]? = some (.cells #[u0,u1,u2] T (0,0))) (c:Cel9 w g o x):g≠bx:=fun e=>by
  subst e
  have h8:=c.e8
  rw [cell_of_row w g _ _ _ _ h] at h8
  rw [Array.getElem?_eq_none (show (#[u0,u1,u2]:Array Value).size≤o + 8 by show 3≤o + 8;omega)] at h8
  cases h8
theorem filter_nm (L:List PodV) (id:Int):(L.filter (onB id)).map nm = (L.map nm).filter (onB id):=by
  induction L with
  | nil=>rfl
  | cons y L ih =>
    rw [List.map_cons,List.filter_cons,List.filter_cons]
    have e:onB id (nm y) = onB id y:=rfl
    rw [e]
    split
    · rw [List.map_cons,ih]
    · exact ih
theorem drO_take {L:List PodV} {id:Int} {t:Nat} {z:PodV} (hz:(L.filter (onB id))[t]? = some z):(drO L id).take (t + 1) = (drO L id).take t ++ [drP z]:=by
  unfold drO
  rw [List.take_add_one,List.getElem?_map,hz]
  rfl
theorem drO_len (L:List PodV) (id:Int):(drO L id).length = (L.filter (onB id)).length:=List.length_map _
theorem drP_ev (z:PodV):drP z = appP z (evD z) (-1) (-1):=rfl
theorem own_pods {w0 w:World} {base n c:Nat} {B:Option Addr} {M:List PodV} (h:w.ownsRow base 35 9 (.slice B n c) n (M.flatMap PodV.cells)) (hl:M.length = n) (hn:n≤9223372036854775807) (k:Keep w0 w) (hi:∀ x ∈ M,PodIs w0 x):RdPods w B n (row M):=by
  subst hl
  refine own_rd (by rw [podCs_row];exact h) hn fun j hj=>?_
  have:row M j ∈ M:=by
    unfold row
    rw [List.getD_eq_getElem?_getD,List.getElem?_eq_getElem hj]
    exact List.getElem_mem _
  exact (hi _ this).keep k
def DrPost (w w1:World) (X:Nat→Prop) (d:Nat) (M:List NV) (L:List PodV) (id:Int) (e':Ending) (w':World):Prop :=
  ∃ A' c' n' Q' B' e2 m' P' O k ko S,e' = .returned (.tuple #[(⟨d,A',n',c',B',m',e2⟩:RcV).val,.slice O k ko])∧Keep w1 w' ∧
    C14.RN w (fun i=>X i∨(w1.heap.size≤i∧i < w'.heap.size)) w' A' c' n' Q'∧(C14.lst Q' n').map nv = drM M id∧(∀ j,j < n'→(Q' j).n = d) ∧
    RL w (fun i=>X i∨(w1.heap.size≤i∧i < w'.heap.size)) w' B' e2 m' P'∧(lst P' m').map nm = drL L id∧RdPods w' O k S∧(lst S k).map nm = drO L id∧(drO L id).length = k
end Go.Proofs.YtnclkefddkgojaaGreatDoor.T14

