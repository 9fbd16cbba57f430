/-
  Nodes as values, and rows of them of the call's own. No condition.
  Where a node stands in a list of nodes. No condition, no walk.
  Lists sorted by a key: insertion, removal, replacement, look-up. No condition, no program.
-/
import Derived.Test.YtinndaolcaehiaaGreatDoorD5
import Derived.Laws.AppendOwnNone
import Derived.Laws.OwnMore
import Derived.Laws.Rows
import Derived.OwnWalk
import Derived.Deep.AppendLies
import Derived.Deep.DeepAppendRoom
import Derived.Deep.RegionLaw
import Derived.Deep.RegionWith
import Derived.Test.YtinndaolcaehiaaGreatDoorD2
namespace Go.Proofs.YtinndaolcaehiaaGreatDoor.C14
open Go.RowKit Go.Lib V12
abbrev I64:=T13.I64
structure NdC where
  k:Int
  A:Option Addr
  n:Nat
  c:Nat
  C:Nat→Int
def NdC.cells (x:NdC):List Value:=[.int .i64 x.k,.slice x.A x.n x.c]
def NdC.val (x:NdC):Value:=.agg #[.int .i64 x.k,.slice x.A x.n x.c]
def zp:NdC:=⟨0,none,0,0,fun _=>0⟩
structure NdOk (x:NdC):Prop where
  k:I64 x.k
  t:True
structure CelN (w:World) (b o:Nat) (x:NdC):Prop where
  e0:w.cell? ⟨b,o,none⟩ = some (.int .i64 x.k)
  e1:w.cell? ⟨b,o + 1,none⟩ = some (.slice x.A x.n x.c)
theorem CelN.keep {w w':World} {b o:Nat} {x:NdC} (h:CelN w b o x) (k:Keep w w'):CelN w' b o x:=⟨k.cell h.e0,k.cell h.e1⟩
theorem cel_of {w:World} {g o:Nat} {x:NdC} (h:∀ i u,x.cells[i]? = some u→w.cell? ⟨g,o + i,none⟩ = some u):CelN w g o x:=⟨h 0 _ rfl,h 1 _ rfl⟩
theorem CelN.all {w:World} {g o:Nat} {x:NdC} (h:CelN w g o x):∀ i u,x.cells[i]? = some u→w.cell? ⟨g,o + i,none⟩ = some u:=by
  intro i u hu
  match i,hu with
  | 0,hu=>rw [← Option.some.inj hu];exact h.e0
  | 1,hu=>rw [← Option.some.inj hu];exact h.e1
  | i + 2,hu=>cases hu
structure RdN (w:World) (A:Option Addr) (n:Nat) (P:Nat→NdC):Prop where
  small:n≤9223372036854775807
  adr:0 < n→∃ b off,A = some ⟨b,off,none⟩∧∀ j,j < n→CelN w b (off + j * 2) (P j)
  ok:∀ j,j < n→NdOk (P j)
theorem RdN.nil (w:World) (A:Option Addr) (P:Nat→NdC):RdN w A 0 P:=⟨by omega,fun h=>absurd h (Nat.lt_irrefl _),fun _ h=>absurd h (Nat.not_lt_zero _)⟩
theorem RdN.keep {w w':World} {A:Option Addr} {n:Nat} {P:Nat→NdC} (h:RdN w A n P) (k:Keep w w'):RdN w' A n P :=
  ⟨h.small,fun hn=>by
    obtain ⟨b,off,e,c⟩:=h.adr hn
    exact ⟨b,off,e,fun j hj=>(c j hj).keep k⟩,h.ok⟩
theorem RdN.congr {w:World} {A:Option Addr} {n:Nat} {P R:Nat→NdC} (h:RdN w A n P) (e:∀ j,j < n→P j = R j):RdN w A n R :=
  ⟨h.small,fun hn=>by
    obtain ⟨b,off,e',c⟩:=h.adr hn
    exact ⟨b,off,e',fun j hj=>by rw [← e j hj];exact c j hj⟩,fun j hj=>by rw [← e j hj];exact h.ok j hj⟩
theorem cells2 (x:NdC):x.cells.length = 2:=rfl
theorem cells_one (x:NdC):∀ u ∈ x.cells,u.oneCell' = true:=by
  intro u hu
  simp only [NdC.cells,List.mem_cons,List.not_mem_nil,or_false] at hu
  rcases hu with rfl | rfl <;> rfl
def rnCs (Q:Nat→NdC):Nat→List Value
  | 0=>[]
  | n + 1=>rnCs Q n ++ (Q n).cells
theorem rnCs_len (Q:Nat→NdC):∀ n,(rnCs Q n).length = n * 2
  | 0=>rfl
  | n + 1=>by rw [rnCs,List.length_append,rnCs_len Q n,cells2];omega
theorem rnCs_one (Q:Nat→NdC):∀ n,∀ u ∈ rnCs Q n,u.oneCell' = true
  | 0,u,h=>by cases h
  | n + 1,u,h=>by
    rcases List.mem_append.1 h with h | h
    · exact rnCs_one Q n u h
    · exact cells_one _ u h
theorem rnCs_congr {Q R:Nat→NdC}:∀ n,(∀ j,j < n→Q j = R j)→rnCs Q n = rnCs R n
  | 0,_=>rfl
  | n + 1,h=>by rw [rnCs,rnCs,rnCs_congr n (fun j hj=>h j (by omega)),h n (by omega)]
theorem rnCs_get (Q:Nat→NdC):∀ (n j i:Nat),j < n→i < 2→(rnCs Q n)[j * 2 + i]? = (Q j).cells[i]?
  | 0,j,i,h,_=>absurd h (Nat.not_lt_zero _)
  | n + 1,j,i,h,hi=>by
    rw [rnCs]
    by_cases e:j = n
    · subst e
      rw [List.getElem?_append_right (by rw [rnCs_len];omega),rnCs_len]
      congr 1
      omega
    · rw [List.getElem?_append_left (by rw [rnCs_len];omega)]
      exact rnCs_get Q n j i (by omega) hi
def put (Q:Nat→NdC) (n:Nat) (x:NdC):Nat→NdC:=fun j=>if j = n then x else Q j
theorem put_at (Q:Nat→NdC) (n:Nat) (x:NdC):put Q n x n = x:=if_pos rfl
theorem put_ne (Q:Nat→NdC) (n:Nat) (x:NdC) {j:Nat} (h:j≠n):put Q n x j = Q j:=if_neg h
def lst (Q:Nat→NdC) (n:Nat):List NdC:=(List.range n).map Q
theorem lst_len (Q:Nat→NdC) (n:Nat):(lst Q n).length = n:=by simp [lst]
theorem lst_get {Q:Nat→NdC} {n j:Nat} (h:j < n):(lst Q n)[j]? = some (Q j):=by simp [lst,h]
theorem lst_mem {Q:Nat→NdC} {n:Nat} {x:NdC}:x ∈ lst Q n ↔ ∃ j,j < n∧Q j = x:=by simp [lst]
theorem lst_succ (Q:Nat→NdC) (n:Nat):lst Q (n + 1) = lst Q n ++ [Q n]:=by simp [lst,List.range_succ]
theorem lst_congr {Q R:Nat→NdC} {n:Nat} (h:∀ j,j < n→Q j = R j):lst Q n = lst R n:=List.map_congr_left fun j hj=>h j (List.mem_range.1 hj)
theorem lst_put (Q:Nat→NdC) (n:Nat) (x:NdC):lst (put Q n x) (n + 1) = lst Q n ++ [x]:=by
  rw [lst_succ,put_at,lst_congr fun j hj=>put_ne Q n x (by omega)]
def row (L:List NdC):Nat→NdC:=fun j=>L.getD j zp
theorem lst_row (L:List NdC):lst (row L) L.length = L:=by
  refine List.ext_getElem? fun j=>?_
  by_cases h:j < L.length
  · rw [lst_get h,List.getElem?_eq_getElem h]
    unfold row
    rw [List.getD_eq_getElem?_getD,List.getElem?_eq_getElem h]
    rfl
  · rw [List.getElem?_eq_none (by rw [lst_len];omega),List.getElem?_eq_none (by omega)]
theorem own_form {w:World} {base n z:Nat} {e:TypeId} {v:Value} {xs:List Value} (h:w.ownsRow base e z v n xs):∃ A cap,v = .slice A n cap∧(A = none→n = 0∧cap = 0):=by
  rcases h.2 with ⟨rfl,rfl⟩ | ⟨g,cap,cur,rfl,_⟩
  · exact ⟨none,0,rfl,fun _=>⟨rfl,rfl⟩⟩
  · exact ⟨_,cap,rfl,fun h=>by cases h⟩
theorem own_keep {w w':World} {base n:Nat} {e:TypeId} {z:Nat} {v:Value} {xs:List Value} (h:w.ownsRow base e z v n xs) (k:Keep w w'):w'.ownsRow base e z v n xs :=
  h.kept k.grown (Classical.em (v.ownBlock = none))
theorem own_base {w:World} {base base':Nat} {e:TypeId} {size:Nat} {v:Value} {n:Nat} {xs:List Value} (h:w.ownsRow base e size v n xs) (hb:base'≤base):w.ownsRow base' e size v n xs:=by
  rcases h with ⟨h1,h2 | ⟨g,cap,cur,h3,h4,h5⟩⟩
  · exact ⟨h1,.inl h2⟩
  · exact ⟨h1,.inr ⟨g,cap,cur,h3,by omega,h5⟩⟩
theorem own_cap {w:World} {base n z c:Nat} {e:TypeId} {A:Option Addr} {xs:List Value} (h:w.ownsRow base e z (.slice A n c) n xs):n≤c:=by
  rcases h.2 with ⟨hv,h0⟩ | ⟨_,_,_,hv,_,_,hc,_⟩
  · omega
  · simp only [Value.slice.injEq] at hv
    omega
theorem own_blocks1 {w w':World} {base n z:Nat} {e:TypeId} {v:Value} {xs:List Value} (h:w.ownsRow base e z v n xs) (hs:∀ g,v.ownBlock = some g→w'.heap[g]? = w.heap[g]?):w'.ownsRow base e z v n xs:=by
  rcases h with ⟨h1,h2 | ⟨g,cap,cur,rfl,h4,h5,h6⟩⟩
  · exact ⟨h1,.inl h2⟩
  · exact ⟨h1,.inr ⟨g,cap,cur,rfl,h4,(hs g rfl).trans h5,h6⟩⟩
theorem keep_grown {w a b:World} (k:Keep w a) {row:Option Nat} (hg:a.grownBy b row) (hrow:∀ g,row = some g→w.heap.size≤g):Keep w b :=
  Below.grown k hg k.size hrow
theorem own_empty {W:World} {base k:Nat} {e:TypeId} (hb:base≤k) (h:W.heap[k]? = some (.cells #[] e (0,0))):W.ownsRow base e 2 (.slice (some ⟨k,0,none⟩) 0 0) 0 [] :=
  ⟨rfl,.inr ⟨k,0,#[],rfl,hb,h,Nat.le_refl _,Nat.zero_le _,rfl,rfl⟩⟩
theorem row_cel {w:World} {base n g cap:Nat} {e:TypeId} {Q:Nat→NdC} (h:w.ownsRow base e 2 (.slice (some ⟨g,0,none⟩) n cap) n (rnCs Q n)) {j:Nat} (hj:j < n):CelN w g (0 + j * 2) (Q j):=by
  refine cel_of fun i u hu=>?_
  have hi:i < 2:=(List.getElem?_eq_some_iff.1 hu).1
  rw [Nat.zero_add,h.cellAt (j * 2 + i) (by omega),rnCs_get Q n j i hj hi,hu]
theorem rows_rd {w:World} {base n:Nat} {e:TypeId} {B:Option Addr} {d:Nat} {Q:Nat→NdC} (h:w.ownsRow base e 2 (.slice B n d) n (rnCs Q n)) (hn:n≤9223372036854775807) (hi:∀ j,j < n→NdOk (Q j)):RdN w B n Q :=
  ⟨hn,fun hp=>by
    obtain ⟨g,cap,e,_,_⟩:=h.form hp
    have e':=e
    simp only [Value.slice.injEq] at e'
    obtain ⟨rfl,_,rfl⟩:=e'
    exact ⟨g,0,rfl,fun t ht=>row_cel h ht⟩,hi⟩
def SrcC (w:World) (X:Value) (m:Nat) (news:List Value):Prop :=
  (X = .slice none 0 0∧m = 0∧news = [])∨∃ ad c,X = .slice (some ad) m c∧news.length = m * 2∧∀ j u,news[j]? = some u→w.cell? (ad.add j) = some u
theorem src_one {W:World} {k:Nat} {e:TypeId} {x:NdC} (h:W.heap[k]? = some (.cells #[.int .i64 x.k,.slice x.A x.n x.c] e (0,0))):SrcC W (.slice (some ⟨k,0,none⟩) 1 1) 1 x.cells:=by
  refine .inr ⟨_,_,rfl,rfl,fun j u hu=>?_⟩
  rw [WideShapes.add_plain,Nat.zero_add,cell_of_row W k j _ _ _ h,List.getElem?_toArray]
  exact hu
theorem src_part {w:World} {b off i n c:Nat} {Q:Nat→NdC} (h:∀ j,j < n→CelN w b (off + (i + j) * 2) (Q j)) (o:Nat) (ho:n = 0∨o = off + i * 2):SrcC w (.slice (some ⟨b,o,none⟩) n c) n (rnCs Q n):=by
  refine .inr ⟨_,_,rfl,rnCs_len _ _,fun j u hu=>?_⟩
  have hj:j < n * 2:=by have:=(List.getElem?_eq_some_iff.1 hu).1;rwa [rnCs_len] at this
  rcases ho with rfl | rfl
  · omega
  rw [WideShapes.add_plain]
  have h1:j / 2 < n:=by omega
  have h2:j % 2 < 2:=Nat.mod_lt _ (by omega)
  have hg:=rnCs_get Q n (j / 2) (j % 2) h1 h2
  rw [show j / 2 * 2 + j % 2 = j by omega,hu] at hg
  have:=(h (j / 2) h1).all (j % 2) u hg.symm
  rwa [show off + (i + j / 2) * 2 + j % 2 = off + i * 2 + j by omega] at this
theorem src_rd {w:World} {A:Option Addr} {n c:Nat} {P:Nat→NdC} (h:RdN w A n P) (h0:A = none→n = 0∧c = 0):SrcC w (.slice A n c) n (rnCs P n):=by
  cases A with
  | none =>
    obtain ⟨rfl,rfl⟩:=h0 rfl
    exact .inl ⟨rfl,rfl,rfl⟩
  | some a =>
    by_cases hn:0 < n
    · obtain ⟨b,off,e,hc⟩:=h.adr hn
      obtain rfl:=Option.some.inj e
      exact src_part (off:=off) (i:=0) (fun j hj=>by rw [Nat.zero_add];exact hc j hj) off (Or.inr (by omega))
    · obtain rfl:n = 0:=by omega
      exact .inr ⟨a,c,rfl,rfl,fun j u hu=>by cases hu⟩
structure TyP (e es:TypeId):Prop where
  info:(Tryz.prog.info? e).map (fun i=>(i.zero,i.size,i.bytes)) = some (some (.agg #[.int .i64 0,.slice none 0 0]),2,32)
  und:Tryz.prog.underlying es = some (.slice e)
theorem Tryz.tyC14:TyP 48 27:=⟨by kernel_rfl,Tryz.underlying27⟩
theorem atN (b off n cp j:Nat) (hj:j < n) (W:World):(Instr.indexAt 27 (.slice (some ⟨b,off,none⟩) n cp) (.int .i64 j)).run Tryz.prog W = .ok (.pointer (some ⟨b,off + j * 2,none⟩)) W:=by
  go_simp
section
variable {ops:Array Oper} {rest:List Oper} {o:Oper} {a:Act} {w:World} {K:Act→World→Prop} {Q:Exit→Act→World→Prop} {E:Prop} {e es:TypeId}
theorem wpl_own (T:TyP e es) (hgd:o.guard = none) (s x:Operand) (ho:o.op = .call { callee:=.builtin .append,args:=#[s,x],argTypes:=#[es,es] })
    (base:Nat) (v:Value) (n:Nat) (xs:List Value) (hs:a.eval s = v) (hown:w.ownsRow base e 2 v n xs) (X:Value) (m:Nat) (news:List Value) (hx:a.eval x = X) (hsrc:SrcC w X m news) (h1:∀ u ∈ news,u.oneCell' = true)
    (hlim:n + m≤1048577) (hbase:base≤w.heap.size) (N:Nat) (hN:n + m = N)
    (h:∀ v' w',w'.ownsRow base e 2 v' N (xs ++ news)→w.grownBy w' v.ownBlock→wpList Tryz.prog ops Q rest (a.put o.dst v') w'):wpList Tryz.prog ops Q (o :: rest) a w:=by
  subst hN
  obtain ⟨i0,hi0,hz0,hz1,hz2⟩:=info_parts T.info
  rcases hsrc with ⟨rfl,rfl,rfl⟩ | ⟨ad,c,rfl,hl,hc⟩
  · exact wpList_append_own_none hgd s x es ho base e i0 2 T.und hi0 v n xs hs hown hx (h v w (by rw [List.append_nil];exact hown) ⟨rfl,rfl,rfl,Nat.le_refl _,fun _ _ _=>rfl⟩)
  · exact wpList_append_own (P:=Tryz.prog) w hgd s x es ho base e i0 _ 2 32 T.und hi0 hz0 hz1 hz2 rfl (by decide) v n xs hs hown ad m c news hx hl hc h1 (by unfold maxLen;omega) (by omega) hbase fun v' w' h2 h3 _=>h v' w' h2 h3
theorem step_own (T:TyP e es) (hgd:o.guard = none) (s x:Operand) (ho:o.op = .call { callee:=.builtin .append,args:=#[s,x],argTypes:=#[es,es] })
    (base:Nat) (v:Value) (n:Nat) (xs:List Value) (hs:a.eval s = v) (hown:w.ownsRow base e 2 v n xs) (X:Value) (m:Nat) (news:List Value) (hx:a.eval x = X) (hsrc:SrcC w X m news) (h1:∀ u ∈ news,u.oneCell' = true)
    (hlim:n + m≤1048577) (hbase:base≤w.heap.size) (N:Nat) (hN:n + m = N)
    (h:∀ v' w',w'.ownsRow base e 2 v' N (xs ++ news)→w.grownBy w' v.ownBlock→K (a.put o.dst v') w') :
    if Region.wanted o (yielded ops a.tmps) = true then Oper.wp Tryz.prog o a w K Q else E:=by
  have hw:Region.wanted o (yielded ops a.tmps) = true:=by simp [Region.wanted,hgd]
  rw [if_pos hw]
  subst hN
  obtain ⟨i0,hi0,hz0,hz1,hz2⟩:=info_parts T.info
  rcases hsrc with ⟨rfl,rfl,rfl⟩ | ⟨ad,c,rfl,hl,hc⟩
  · have hrun:=run_append_owned_none (P:=Tryz.prog) (w:=w) base es o.type e i0 2 T.und hi0 v n xs hown
    have hg:w.grownBy w v.ownBlock:=⟨rfl,rfl,rfl,Nat.le_refl _,fun _ _ _=>rfl⟩
    have:=h v w (by rw [List.append_nil];exact hown) hg
    unfold Oper.wp
    simp [execOp,ho,resolve,invoke,builtin,hs,hx,hrun,Result.andThen]
    exact this
  · exact wp_append_own (P:=Tryz.prog) w s x es ho base e i0 _ 2 32 T.und hi0 hz0 hz1 hz2 rfl (by decide) v n xs hs hown ad m c news hx hl hc h1 (by unfold maxLen;omega) (by omega) hbase fun v' w' h2 h3 _=>h v' w' h2 h3
end
structure RdC (w:World) (A:Option Addr) (n:Nat) (P:Nat→NdC):Prop where
  row:RdN w A n P
  rd:∀ j,j < n→Rd w (P j).A (P j).n (P j).C
  nil:∀ j,j < n→(P j).A = none→(P j).n = 0∧(P j).c = 0
theorem RdC.keep {w w':World} {A:Option Addr} {n:Nat} {P:Nat→NdC} (h:RdC w A n P) (k:Keep w w'):RdC w' A n P:=⟨h.row.keep k,fun j hj=>(h.rd j hj).keep k,h.nil⟩
theorem RdC.none (w:World) (A:Option Addr) (P:Nat→NdC):RdC w A 0 P:=⟨RdN.nil _ _ _,fun _ h=>absurd h (Nat.not_lt_zero _),fun _ h=>absurd h (Nat.not_lt_zero _)⟩
end Go.Proofs.YtinndaolcaehiaaGreatDoor.C14

namespace Go.Proofs.YtinndaolcaehiaaGreatDoor.C14
open Go.RowKit Go.Lib V12
def keys (L:List NdC):List Int:=L.map (·.k)
def getL (L:List NdC) (id:Int):NdC:=(L.find? fun y=>decide (y.k = id)).getD zp
def findN (P:Nat→NdC) (id:Int):Nat→Int
  | 0=>-1
  | n + 1=>if 0≤findN P id n then findN P id n else if (P n).k = id then (n:Int) else -1
theorem find_no {P:Nat→NdC} {id:Int}:∀ {n},(∀ t,t < n→(P t).k≠id)→findN P id n = -1
  | 0,_=>rfl
  | n + 1,h=>by
    rw [findN,find_no (fun t ht=>h t (by omega)),if_neg (by omega),if_neg (h n (by omega))]
theorem find_at {P:Nat→NdC} {id:Int} {j:Nat} (hj:(P j).k = id) (h:∀ t,t < j→(P t).k≠id):∀ {n},j < n→findN P id n = (j:Int)
  | n + 1,hn=>by
    by_cases e:j = n
    · subst e
      rw [findN,find_no h,if_neg (by omega),if_pos hj]
    · rw [findN,find_at hj h (n:=n) (by omega),if_pos (by omega)]
theorem find_cases (P:Nat→NdC) (id:Int) (n:Nat):(findN P id n = -1∧id ∉ keys (lst P n))∨∃ j,j < n∧findN P id n = (j:Int)∧(P j).k = id∧id ∈ keys (lst P n)∧getL (lst P n) id = P j:=by
  by_cases h:∃ j,j < n∧(P j).k = id
  · right
    obtain ⟨j,hj,hk,hm⟩:∃ j,j < n∧(P j).k = id∧∀ t,t < j→(P t).k≠id:=by
      induction n with
      | zero=>obtain ⟨j,hj,_⟩:=h;exact absurd hj (Nat.not_lt_zero _)
      | succ n ih =>
        by_cases h2:∃ j,j < n∧(P j).k = id
        · obtain ⟨j,a,b,c⟩:=ih h2
          exact ⟨j,by omega,b,c⟩
        · obtain ⟨j,hj,hk⟩:=h
          refine ⟨j,hj,hk,fun t ht e=>h2 ⟨t,by omega,e⟩⟩
    refine ⟨j,hj,find_at hk hm hj,hk,?_,?_⟩
    · unfold keys
      rw [← hk]
      exact List.mem_map_of_mem (lst_mem.2 ⟨j,hj,rfl⟩)
    · unfold getL
      have e:(lst P n).find? (fun y=>decide (y.k = id)) = some (P j):=by
        rw [List.find?_eq_some_iff_getElem]
        refine ⟨by simpa using hk,j,by rw [lst_len];exact hj,?_,fun t ht=>?_⟩
        · have:=lst_get (Q:=P) hj
          rw [List.getElem?_eq_getElem (by rw [lst_len];exact hj)] at this
          exact Option.some.inj this
        · have h1:=lst_get (Q:=P) (n:=n) (j:=t) (by omega)
          rw [List.getElem?_eq_getElem (by rw [lst_len];omega)] at h1
          rw [Option.some.inj h1]
          simpa using hm t ht
      rw [e]
      rfl
  · left
    refine ⟨find_no fun t ht e=>h ⟨t,ht,e⟩,fun hk=>?_⟩
    obtain ⟨y,hy,e⟩:=List.mem_map.1 hk
    obtain ⟨j,hj,rfl⟩:=lst_mem.1 hy
    exact h ⟨j,hj,e⟩
theorem find_iff {P:Nat→NdC} {id:Int} {n:Nat}:0≤findN P id n ↔ id ∈ keys (lst P n):=by
  rcases find_cases P id n with ⟨h1,h2⟩ | ⟨j,_,h1,_,h2,_⟩
  · rw [h1];exact ⟨fun h=>absurd h (by decide),fun h=>absurd h h2⟩
  · rw [h1];exact ⟨fun _=>h2,fun _=>by omega⟩
end Go.Proofs.YtinndaolcaehiaaGreatDoor.C14

namespace Go.Proofs.YtinndaolcaehiaaGreatDoor.G
section
variable {α:Type} (key:α→Int)
def Srt (L:List α):Prop:=L.Pairwise fun x y=>key x < key y
def keys (L:List α):List Int:=L.map key
def ins (x:α):List α→List α
  | []=>[x]
  | y :: L=>if key x < key y then x :: y :: L else y :: ins x L
def wo (L:List α) (id:Int):List α:=L.filter fun y=>decide (key y≠id)
def get (z:α) (L:List α) (id:Int):α:=(L.find? fun y=>decide (key y = id)).getD z
def rep (L:List α) (x:α):List α:=L.map fun y=>if key y = key x then x else y
variable {key}
theorem ins_perm (x:α):∀ L,(ins key x L).Perm (x :: L)
  | []=>List.Perm.refl _
  | y :: L=>by
    unfold ins
    split
    · exact List.Perm.refl _
    · exact ((ins_perm x L).cons y).trans (List.Perm.swap x y L)
theorem ins_mem {x y:α} {L:List α}:y ∈ ins key x L ↔ y = x∨y ∈ L:=by rw [(ins_perm x L).mem_iff,List.mem_cons]
theorem ins_len (x:α) (L:List α):(ins key x L).length = L.length + 1:=by rw [(ins_perm x L).length_eq];rfl
theorem ins_keys {x:α} {L:List α} {id:Int}:id ∈ keys key (ins key x L) ↔ id = key x∨id ∈ keys key L:=by
  have:=(ins_perm (key:=key) x L).map key
  unfold keys
  rw [this.mem_iff,List.map_cons,List.mem_cons]
theorem ins_sorted {x:α}:∀ {L},Srt key L→key x ∉ keys key L→Srt key (ins key x L)
  | [],_,_=>List.pairwise_singleton _ _
  | y :: L,h,hk=>by
    have h':=h
    unfold Srt at h'
    rw [List.pairwise_cons] at h'
    have hk2:key x≠key y∧key x ∉ keys key L:=by unfold keys at hk ⊢;rw [List.map_cons,List.mem_cons,not_or] at hk;exact hk
    unfold ins
    split
    · rename_i hb
      unfold Srt
      rw [List.pairwise_cons]
      refine ⟨fun z hz=>?_,h⟩
      rcases List.mem_cons.1 hz with rfl | hz
      · exact hb
      · have:=h'.1 z hz;omega
    · rename_i hb
      unfold Srt
      rw [List.pairwise_cons]
      refine ⟨fun z hz=>?_,ins_sorted h'.2 hk2.2⟩
      rcases ins_mem.1 hz with rfl | hz
      · omega
      · exact h'.1 z hz
theorem get_none {z:α} {L:List α} {id:Int} (h:id ∉ keys key L):get key z L id = z:=by
  unfold get
  rw [List.find?_eq_none.2 fun y hy=>by simpa using fun e=>h (by rw [← e];exact List.mem_map_of_mem hy)]
  rfl
theorem get_some {z:α} {L:List α} {id:Int} (h:id ∈ keys key L):get key z L id ∈ L∧key (get key z L id) = id:=by
  obtain ⟨y,hy,e⟩:=List.mem_map.1 h
  unfold get
  cases hf:L.find? fun y=>decide (key y = id) with
  | none=>exact absurd (List.find?_eq_none.1 hf y hy) (by simpa using e)
  | some z=>exact ⟨List.mem_of_find?_eq_some hf,by simpa using List.find?_some hf⟩
theorem keys_nodup {L:List α} (h:Srt key L):(keys key L).Nodup:=by
  unfold keys
  refine List.Pairwise.map (S:=fun a b:Int=>a≠b) key (fun a b hab=>?_) h
  exact Int.ne_of_lt hab
theorem get_at {z:α} {L:List α} (h:Srt key L) {x:α} (hx:x ∈ L):get key z L (key x) = x:=by
  obtain ⟨h1,h2⟩:=get_some (z:=z) (List.mem_map_of_mem hx:key x ∈ keys key L)
  obtain ⟨i,hi,e1⟩:=List.getElem_of_mem h1
  obtain ⟨j,hj,e2⟩:=List.getElem_of_mem hx
  have hp:=List.pairwise_iff_getElem.1 h
  rcases Nat.lt_trichotomy i j with hij | hij | hij
  · have:=hp i j hi hj hij
    rw [e1,e2,h2] at this
    omega
  · subst hij
    rw [← e1,← e2]
  · have:=hp j i hj hi hij
    rw [e1,e2,h2] at this
    omega
theorem rep_keys (L:List α) (x:α):keys key (rep key L x) = keys key L:=by
  unfold keys rep
  rw [List.map_map]
  refine List.map_congr_left fun y _=>?_
  show key (if key y = key x then x else y) = key y
  split
  · exact Eq.symm (by assumption)
  · rfl
theorem rep_mem {L:List α} {x y:α} (h:y ∈ rep key L x):y ∈ L∨y = x:=by
  unfold rep at h
  obtain ⟨z,hz,rfl⟩:=List.mem_map.1 h
  split
  · exact Or.inr rfl
  · exact Or.inl hz
theorem srt_keys {L:List α}:Srt key L ↔ (keys key L).Pairwise (· < ·):=by unfold Srt keys;rw [List.pairwise_map]
theorem rep_sorted {L:List α} {x:α} (h:Srt key L):Srt key (rep key L x):=by rw [srt_keys,rep_keys,← srt_keys];exact h
end
section
variable {α β:Type} {ka:α→Int} {kb:β→Int} {f:α→β} (hf:∀ x,kb (f x) = ka x)
include hf
theorem map_keys (L:List α):keys kb (L.map f) = keys ka L:=by
  unfold keys
  rw [List.map_map]
  exact List.map_congr_left fun x _=>hf x
theorem map_ins (x:α):∀ L,(ins ka x L).map f = ins kb (f x) (L.map f)
  | []=>rfl
  | y :: L=>by
    simp only [ins,List.map_cons,hf]
    split
    · rfl
    · rw [List.map_cons,map_ins x L]
theorem map_get (z:α) (L:List α) (id:Int):f (get ka z L id) = get kb (f z) (L.map f) id:=by
  unfold get
  rw [List.find?_map]
  have e:((fun y=>decide (kb y = id)) ∘ f) = fun y=>decide (ka y = id):=by
    funext y
    simp [hf]
  rw [e]
  cases L.find? fun y=>decide (ka y = id) <;> rfl
theorem map_srt {L:List α}:Srt kb (L.map f) ↔ Srt ka L:=by rw [srt_keys,srt_keys,map_keys hf]
theorem map_rep (L:List α) (x:α):(rep ka L x).map f = rep kb (L.map f) (f x):=by
  unfold rep
  rw [List.map_map,List.map_map]
  refine List.map_congr_left fun y _=>?_
  show f (if ka y = ka x then x else y) = if kb (f y) = kb (f x) then f x else f y
  rw [hf,hf]
  split <;> rfl
end
end Go.Proofs.YtinndaolcaehiaaGreatDoor.G

