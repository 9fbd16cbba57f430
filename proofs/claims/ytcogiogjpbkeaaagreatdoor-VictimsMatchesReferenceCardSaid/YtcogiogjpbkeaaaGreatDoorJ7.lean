/-
  The reference's On and With. Condition: at most 1000 pods.
  A region that draws its order and whose last operation stores into a cell that the others read: what is held need not hold behind that store. No program.
  A region that draws its order and whose late operations (a list) need not leave what is held: as Ord14, for several late operations, of which those that read no memory may be taken at once. No program.
  As OrdS14: an operation taken first, with one check for all that is asked of the order. No program.
-/
import Derived.Test.YtcogiogjpbkeaaaGreatDoorJ0
import Derived.Test.YtcogiogjpbkeaaaGreatDoorJ6
import Derived.Deep.RegionHeld
namespace Go.Proofs.YtcogiogjpbkeaaaGreatDoor.T13
open Go.RowKit Go.Sort Go.Lib V12
theorem zfl(P:Nat->zaa):∀ n,zaj P n=(lst P n).flatMap zaa.cells
 | 0=>rfl
 | n+1=>by rw[zaj,zfl P n,lst_succ,List.flatMap_append,List.flatMap_singleton]
theorem podCs_row(L:List zaa):zaj (row L) L.length=L.flatMap zaa.cells:=by rw[zfl,lst_row]
theorem zix{w:World}{base n c:Nat}{B:Option Addr}{Q:Nat->zaa}(h:w.ownsRow base 26 9 (.slice B n c) n (zaj Q n))(hn:n<=9223372036854775807)(hi:∀ j,j<n->zah w (Q j)):zai w B n Q :=
 ⟨hn,fun hp=>by
  obtain⟨g,cap,e,_,_⟩:=h.form hp;simp only[Value.slice.injEq] at e;obtain⟨rfl,_,rfl⟩:=e
  exact⟨g,0,rfl,fun t ht=>zcg h ht⟩,hi⟩
def zjd(w:World)(n:Nat)(L:List zaa)(e:Ending)(w':World):Prop:=∃ B d,e=.returned (.slice B L.length d)/\Keep w w'/\zai w' B L.length (row L)/\L.length<=n
set_option maxRecDepth 100000 in
set_option maxHeartbeats 4000000 in
theorem adl(A:Option Addr)(n c:Nat)(P:Nat->zaa)(v:Int)(w:World)(hR:zai w A n P)(hN:n<=1000):
  Calls Tryz.prog 40 #[.slice A n c,.int .i64 v] w (zjd w n ((lst P n).filter (zdm v))):=by
 replace hR:=Zq hR;obtain⟨L,hL⟩:=Zn ((lst P n).filter (zdm v));rw[<- hL];replace hL:=Zq hL
 go_enter Tryz.func40,Tryz.ntmps40
 go_wp2
 go_loopg [5,6] n (fun gx s5 s6 wr=>∃ (j k:Nat) (B:Option Addr) (d:Nat) (M:List zaa),j<=n/\gx=n - j/\s6=.int .i64 j/\s5=.slice B k d/\k<=j/\Hid (Keep w wr)/\Hid (wr.ownsRow w.heap.size 26 9 (.slice B k d) k (M.flatMap zaa.cells))/\Hid (M=(lst P j).filter (zdm v))/\Hid (M.length=k))
 case atStart=>exact⟨0,0,none,0,[],Nat.zero_le _,rfl,rfl,rfl,Nat.le_refl _,Keep.refl _,World.ownsRow_nil _ _ _ _,rfl,rfl⟩
 case round =>
  obtain⟨j,k,B,d,M,hj,rfl,rfl,rfl,hkj,G,RW,LT,LN⟩:=hrel
  by_cases hlt:j<n
  ·have R2:=hR.out.keep G.out
   obtain⟨b,off,hA,ca⟩:=R2.adr (by omega)
   subst hA;have q1:=zar b off n c j hlt;have X:=ca j hlt;clear ca;replace R2:=Zq R2;have hs:(lst P (j+1)).filter (zdm v)=(lst P j).filter (zdm v)++if zdm v (P j)=true then[P j] else[]:=by
    rw[lst_succ,List.filter_append,List.filter_cons,List.filter_nil]
   obtain⟨x,hx⟩:=Zn (P j);rw[<- hx] at X hs;replace hx:=Zq hx;have x0:=X.e0;have x1:=X.e1;have x2:=X.e2;have x3:=X.e3;have x4:=X.e4;have x5:=X.e5;have x6:=X.e6;have x7:=X.e7;have x8:=X.e8;clear X;have gsz:Hid (w.heap.size<=wr.heap.size):=G.out.size
   by_cases hk:zdm v x=true
   ·rw[if_pos hk] at hs
    have L2:Hid (M++[x]=(lst P (j+1)).filter (zdm v)):=by show _=_;rw[hs,LT.out]
    have LN2:Hid ((M++[x]).length=k+1):=by show _=_;rw[List.length_append,LN.out];rfl
    have FM:Hid ((M++[x]).flatMap zaa.cells=M.flatMap zaa.cells++x.cells):=by show _=_;rw[List.flatMap_append,List.flatMap_singleton]
    replace hs:=Zq hs;unfold zdm at hk;rw[decide_eq_true_eq] at hk;have e6:(x.h == v)=true:=by simpa using hk
    replace hk:=Zq hk;go_wp2_with (at_builtin;refine zdz Tryz.tyP13 rfl _ _ rfl w.heap.size (.slice B k d) k (M.flatMap zaa.cells) (by simp[Act.eval]) (zal RW.out (Keep.one _ _)) (.slice (some ⟨wr.heap.size,0,none⟩) 1 1) 1 x.cells (by simp[Act.eval]) (zbh (heap_alloc_new _ _)) (cells_one _) (by omega) (by rw[World.size_alloc];have:=gsz.out;omega) (k+1) rfl ?_;intro v3 w3 hr3 hg3)
    have K3:Hid (Keep w w3):=zad (G.out.trans (Keep.one _ _)) hg3 (fun q hq=>(RW.out.lt q hq).1)
    obtain⟨B4,d4,hB4,_⟩:=zan hr3;subst hB4;rw[<- FM.out] at hr3;replace hr3:=Zq hr3;replace hg3:=Zq hg3;clear x0 x1 x2 x3 x4 x5 x6 x7 x8 q1;go_wp2;go_roundg (n - (j+1))
    case measure=>omega
    case rel=>exact⟨j+1,k+1,B4,d4,M++[x],hlt,rfl,by go_num,rfl,by omega,K3,hr3,L2,LN2⟩
   ·rw[if_neg hk,List.append_nil] at hs
    have L2:Hid (M=(lst P (j+1)).filter (zdm v)):=by show _=_;rw[hs,LT.out]
    replace hs:=Zq hs;unfold zdm at hk;rw[decide_eq_true_eq] at hk;clear x0 x1 x2 x3 x4 x5 x8;have e6:(x.h == v)=false:=by simpa using hk
    replace hk:=Zq hk;clear x7;go_wp2;go_roundg (n - (j+1))
    case measure=>omega
    case rel=>exact⟨j+1,k,B,d,M,hlt,rfl,by go_num,rfl,by omega,G,RW,L2,LN⟩
  ·obtain rfl:j=n:=by omega
   obtain rfl:M=L:=by rw[hL.out,LT.out]
   have ln:=LN.out;have mem:∀ t,t<M.length->zah wr (row M t):=fun t ht=>by
    have hm:row M t∈M:=by
     unfold row;rw[List.getD_eq_getElem?_getD,List.getElem?_eq_getElem ht];exact List.getElem_mem _
    rw[LT.out,List.mem_filter] at hm;obtain⟨i,hi,e⟩:=lst_mem.1 hm.1;rw[LT.out,<- e];exact(hR.out.is i hi).keep G.out
   have fin:Hid (zai wr B M.length (row M)/\M.length<=j):=by
    have h2:=RW.out;rw[<- podCs_row,<- ln] at h2;exact⟨zix h2 (by omega) mem,by omega⟩
   obtain rfl:M.length=k:=ln;clear mem;go_wp2;go_ret
   exact⟨B,d,rfl,G.out,fin.out.1,fin.out.2⟩
set_option maxRecDepth 100000 in
set_option maxHeartbeats 4000000 in
theorem alf(A:Option Addr)(n c:Nat)(P:Nat->zaa)(v:Int)(w:World)(hR:zai w A n P)(hN:n<=1000):
  Calls Tryz.prog 41 #[.slice A n c,.int .i64 v] w (zjd w n ((lst P n).filter (onB v))):=by
 replace hR:=Zq hR;obtain⟨L,hL⟩:=Zn ((lst P n).filter (onB v));rw[<- hL];replace hL:=Zq hL
 go_enter Tryz.func41,Tryz.ntmps41
 go_wp2
 go_loopg [5,6] n (fun gx s5 s6 wr=>∃ (j k:Nat) (B:Option Addr) (d:Nat) (M:List zaa),j<=n/\gx=n - j/\s6=.int .i64 j/\s5=.slice B k d/\k<=j/\Hid (Keep w wr)/\Hid (wr.ownsRow w.heap.size 26 9 (.slice B k d) k (M.flatMap zaa.cells))/\Hid (M=(lst P j).filter (onB v))/\Hid (M.length=k))
 case atStart=>exact⟨0,0,none,0,[],Nat.zero_le _,rfl,rfl,rfl,Nat.le_refl _,Keep.refl _,World.ownsRow_nil _ _ _ _,rfl,rfl⟩
 case round =>
  obtain⟨j,k,B,d,M,hj,rfl,rfl,rfl,hkj,G,RW,LT,LN⟩:=hrel
  by_cases hlt:j<n
  ·have R2:=hR.out.keep G.out
   obtain⟨b,off,hA,ca⟩:=R2.adr (by omega)
   subst hA;have q1:=zar b off n c j hlt;have X:=ca j hlt;clear ca;replace R2:=Zq R2;have hs:(lst P (j+1)).filter (onB v)=(lst P j).filter (onB v)++if onB v (P j)=true then[P j] else[]:=by
    rw[lst_succ,List.filter_append,List.filter_cons,List.filter_nil]
   obtain⟨x,hx⟩:=Zn (P j);rw[<- hx] at X hs;replace hx:=Zq hx;have x0:=X.e0;have x1:=X.e1;have x2:=X.e2;have x3:=X.e3;have x4:=X.e4;have x5:=X.e5;have x6:=X.e6;have x7:=X.e7;have x8:=X.e8;clear X;have gsz:Hid (w.heap.size<=wr.heap.size):=G.out.size
   by_cases hk:onB v x=true
   ·rw[if_pos hk] at hs
    have L2:Hid (M++[x]=(lst P (j+1)).filter (onB v)):=by show _=_;rw[hs,LT.out]
    have LN2:Hid ((M++[x]).length=k+1):=by show _=_;rw[List.length_append,LN.out];rfl
    have FM:Hid ((M++[x]).flatMap zaa.cells=M.flatMap zaa.cells++x.cells):=by show _=_;rw[List.flatMap_append,List.flatMap_singleton]
    replace hs:=Zq hs;unfold onB at hk;rw[decide_eq_true_eq] at hk;have e7:(x.d == v)=true:=by simpa using hk.1
    have e61:decide (2<=x.h)=true:=decide_eq_true hk.2.1;have e62:decide (x.h<=4)=true:=decide_eq_true hk.2.2;have g61:2<=x.h:=hk.2.1;have g62:x.h<=4:=hk.2.2;replace hk:=Zq hk;go_wp2_with (at_builtin;refine zdz Tryz.tyP13 rfl _ _ rfl w.heap.size (.slice B k d) k (M.flatMap zaa.cells) (by simp[Act.eval]) (zal RW.out (Keep.one _ _)) (.slice (some ⟨wr.heap.size,0,none⟩) 1 1) 1 x.cells (by simp[Act.eval]) (zbh (heap_alloc_new _ _)) (cells_one _) (by omega) (by rw[World.size_alloc];have:=gsz.out;omega) (k+1) rfl ?_;intro v3 w3 hr3 hg3)
    have K3:Hid (Keep w w3):=zad (G.out.trans (Keep.one _ _)) hg3 (fun q hq=>(RW.out.lt q hq).1)
    obtain⟨B4,d4,hB4,_⟩:=zan hr3;subst hB4;rw[<- FM.out] at hr3;replace hr3:=Zq hr3;replace hg3:=Zq hg3;clear x0 x1 x2 x3 x4 x5 x6 x7 x8 q1;go_wp2;go_roundg (n - (j+1))
    case measure=>omega
    case rel=>exact⟨j+1,k+1,B4,d4,M++[x],hlt,rfl,by go_num,rfl,by omega,K3,hr3,L2,LN2⟩
   ·rw[if_neg hk,List.append_nil] at hs
    have L2:Hid (M=(lst P (j+1)).filter (onB v)):=by show _=_;rw[hs,LT.out]
    replace hs:=Zq hs;unfold onB at hk;rw[decide_eq_true_eq] at hk;clear x0 x1 x2 x3 x4 x5 x8
    by_cases c7:x.d=v
    ·have e7:(x.d == v)=true:=by simpa using c7
     by_cases c61:2<=x.h
     ·have c62:¬x.h<=4:=fun h=>hk ⟨c7,c61,h⟩
      replace hk:=Zq hk;replace c7:=Zq c7;go_wp2;go_roundg (n - (j+1))
      case measure=>omega
      case rel=>exact⟨j+1,k,B,d,M,hlt,rfl,by go_num,rfl,by omega,G,RW,L2,LN⟩
     ·replace hk:=Zq hk
      replace c7:=Zq c7;go_wp2;go_roundg (n - (j+1))
      case measure=>omega
      case rel=>exact⟨j+1,k,B,d,M,hlt,rfl,by go_num,rfl,by omega,G,RW,L2,LN⟩
    ·have e7:(x.d == v)=false:=by simpa using c7
     replace hk:=Zq hk;replace c7:=Zq c7;go_wp2;go_roundg (n - (j+1))
     case measure=>omega
     case rel=>exact⟨j+1,k,B,d,M,hlt,rfl,by go_num,rfl,by omega,G,RW,L2,LN⟩
  ·obtain rfl:j=n:=by omega
   obtain rfl:M=L:=by rw[hL.out,LT.out]
   have ln:=LN.out;have mem:∀ t,t<M.length->zah wr (row M t):=fun t ht=>by
    have hm:row M t∈M:=by
     unfold row;rw[List.getD_eq_getElem?_getD,List.getElem?_eq_getElem ht];exact List.getElem_mem _
    rw[LT.out,List.mem_filter] at hm;obtain⟨i,hi,e⟩:=lst_mem.1 hm.1;rw[LT.out,<- e];exact(hR.out.is i hi).keep G.out
   have fin:Hid (zai wr B M.length (row M)/\M.length<=j):=by
    have h2:=RW.out;rw[<- podCs_row,<- ln] at h2;exact⟨zix h2 (by omega) mem,by omega⟩
   obtain rfl:M.length=k:=ln;clear mem;go_wp2;go_ret
   exact⟨B,d,rfl,G.out,fin.out.1,fin.out.2⟩
end Go.Proofs.YtcogiogjpbkeaaaGreatDoor.T13
namespace Go.Proofs.YtcogiogjpbkeaaaGreatDoor.OrdM
open Go
section
variable{P:Program}{ops:Array Oper}{Q:Exit->Act->World->Prop}{md:Region.Mode}{S:World->Prop}{z:Nat}
def Rest(P:Program)(md:Region.Mode)(ops:Array Oper)(Q:Exit->Act->World->Prop)(S:World->Prop)(z:Nat):Nat->Array Bool->Act->World->Prop
 | 0=>fun l a w=>Region.ready md ops l=[]/\Q .normal a w
 | n+1=>fun l a w=>(Region.ready md ops l=[]->Q .normal a w)/\∀ i,i∈Region.ready md ops l->wpOp P ops Q i (fun b v=>(i≠z->S v)/\Rest P md ops Q S z n (l.setIfInBounds i true) b v) a w
theorem Rest.any:∀ {n:Nat} {l:Array Bool} {a:Act} {w:World},Rest P md ops Q S z n l a w->wpAny P md ops Q n l a w
 | 0,_,_,_,h=>h
 | _+1,_,_,_,h=>⟨h.1,fun i hi=>wpOp_mono (fun _ _ k=>k.2.any) (h.2 i hi)⟩
theorem rest_start{id:Nat}{a:Act}{w:World}(S:World->Prop)(z:Nat)(hm:P.follows .mixedOrders=true)(hS:S w.drew)(h:S w.drew->Rest P .any ops Q S z ops.size (Array.replicate ops.size false) a w.drew):(Code.region id ops true).wp P Q a w :=
 wp_region_any hm (h hS).any
def waits(md:Region.Mode)(ops:Array Oper)(i:Nat):Nat->Nat->Bool
 | 0,_=>false
 | n+1,j=>match ops[j]? with
   | some o=>o.after.toList.any fun e=>Region.binds md e&&(decide (e.on=i)||waits md ops i n e.on)
   | none=>false
def Closed(md:Region.Mode)(ops:Array Oper)(l:Array Bool):Prop:=∀ j o,ops[j]?=some o->l.getD j false=true->∀ e∈o.after,Region.binds md e=true->l.getD e.on false=true
def closed(md:Region.Mode)(ops:Array Oper)(l:Array Bool):Bool:=(List.range ops.size).all fun j=>match ops[j]? with
 | some o=>!l.getD j false||o.after.toList.all fun e=>!Region.binds md e||l.getD e.on false
 | none=>true
theorem zle{l:Array Bool}(h:closed md ops l=true):Closed md ops l:=fun j o ho hl e he hb=>by
 unfold closed at h;rw[List.all_eq_true] at h;have h1:=h j (List.mem_range.2 (Array.getElem?_eq_some_iff.1 ho).1);rw[ho] at h1;simp only[hl,Bool.not_true,Bool.false_or,List.all_eq_true] at h1;have h2:=h1 e (by simpa using he)
 rw[hb] at h2
 simpa using h2
theorem Closed.set{l:Array Bool}{j:Nat}{oj:Oper}(h:Closed md ops l)(hj:ops[j]?=some oj)(hall:∀ e∈oj.after,Region.binds md e=true->l.getD e.on false=true):Closed md ops (l.setIfInBounds j true):=fun k ok hk hl e he hb=>by
 refine getD_set_true ?_
 by_cases ek:j=k
 ·subst ek
  rw[hj] at hk;obtain rfl:=Option.some.inj hk;exact hall e he hb
 ·rw[getD_set_ne false ek] at hl
  exact h k ok hk hl e he hb
theorem zkd{i:Nat}{l:Array Bool}(hc:Closed md ops l):∀ (n j:Nat) (o:Oper),ops[j]?=some o->(∀ e∈o.after,Region.binds md e=true->l.getD e.on false=true)->waits md ops i n j=true->l.getD i false=true
 | 0,_,_,_,_,h=>by cases h
 | n+1,j,o,ho,hall,h=>by
   unfold waits at h;rw[ho] at h;simp only[List.any_eq_true,Bool.and_eq_true,Bool.or_eq_true,decide_eq_true_eq] at h;obtain⟨t,ht,hb,he | he⟩:=h
   ·rw[<- he]
    exact hall _ (by simpa using ht) hb
   ·have hl:=hall _ (by simpa using ht) hb
    cases ho2:ops[t.on]? with
    | none =>
      cases n with
      | zero=>cases he
      | succ n=>unfold waits at he;rw[ho2] at he;cases he
    | some o2=>exact zkd hc n _ o2 ho2 (hc _ o2 ho2 hl) he
theorem zpl{i n:Nat}{l:Array Bool}(hc:Closed md ops l)(h:waits md ops i n z=true)(hi:i∈Region.ready md ops l):z∉Region.ready md ops l:=fun hz=>by
 obtain⟨_,o,ho,hall⟩:=mem_ready.1 hz;have h1:=zkd hc n z o ho hall h;have h0:=(mem_ready.1 hi).1
 by_cases hs:i<l.size
 ·simp[hs] at h0 h1
  rw[h0] at h1;cases h1
 ·simp[Array.getElem?_eq_none (Nat.le_of_not_lt hs)] at h1
theorem zuv{i:Nat}{o:Oper}{l:Array Bool}(hi:i∈Region.ready md ops l)(hall:∀ e∈o.after,Region.binds md e=true->l.getD e.on false=true):∀ e∈o.after,Region.binds md e=true->e.on≠i:=fun e he hb heq=>by
 have h1:=hall e he hb;have h0:=(mem_ready.1 hi).1;rw[heq] at h1
 by_cases hs:i<l.size
 ·simp[hs] at h0 h1
  rw[h0] at h1;cases h1
 ·simp[Array.getElem?_eq_none (Nat.le_of_not_lt hs)] at h1
def Apart(md:Region.Mode)(ops:Array Oper)(l:Array Bool)(i:Nat)(oi:Oper):Prop:=∀ j oj,ops[j]?=some oj->j≠i->l.getD j true=false->(∀ e∈oj.after,Region.binds md e=true->e.on≠i)->oi.apart ops oj=true
theorem Apart.set{l:Array Bool}{i j:Nat}{oi:Oper}(h:Apart md ops l i oi)(hj:l.getD j true=false):Apart md ops (l.setIfInBounds j true) i oi:=fun k ok hk hne hun hno=>by
 refine h k ok hk hne ?_ hno
 by_cases e:j=k
 ·rw[<- e];exact hj
 ·rwa [getD_set_ne true e] at hun
theorem ziz{i m:Nat}{oi:Oper}{v:Value}(hi:ops[i]?=some oi)(hsel:∀ (j:Nat) (o:Oper) cs b,ops[j]?=some o->o.op≠.select cs b)(hQ:∀ c a w,Q (.panic c) (a.put oi.dst v) w->Q (.panic c) a w)(hz:waits md ops i m z=true):
  ∀ (n:Nat) (l:Array Bool) (a:Act) (w:World),Closed md ops l->Apart md ops l i oi->i∈Region.ready md ops l->YieldsIf P ops S oi v a->S w->Rest P md ops Q S z n (l.setIfInBounds i true) (a.put oi.dst v) w->Rest P md ops Q S z (n+1) l a w:=by
 intro n
 induction n with
 | zero =>
   intro l a w _ _ hr hy hS H;refine⟨fun h=>absurd (h▸hr) (by simp),fun j hj=>?_⟩
   by_cases e:j=i
   ·rw[e]
    exact hy.wpOp hi hS ⟨fun _=>hS,H⟩
   ·exact absurd (H.1▸ready_mono hj e) (by simp)
 | succ n ih =>
   intro l a w hc hap hr hy hS H;refine⟨fun h=>absurd (h▸hr) (by simp),fun j hj=>?_⟩
   by_cases e:j=i
   ·rw[e]
    exact hy.wpOp hi hS ⟨fun _=>hS,H⟩
   ·have hjz:j≠z:=fun ez=>zpl hc hz hr (ez▸hj)
    obtain⟨hun,oj,hoj,hall⟩:=mem_ready.1 hj;have h2:=wpOp_putIf hoj (hap j oj hoj e hun (zuv hr hall)) (fun cs b=>hsel i oi cs b hi) (fun cs b=>hsel j oj cs b hoj) hQ hy (H.2 j (ready_mono hj e))
    refine wpOp_mono (fun b u h3=>?_) h2
    refine⟨h3.2.1,ih _ b u (hc.set hoj hall) (hap.set hun) (ready_mono hr fun x=>e x.symm) h3.1 (h3.2.1 hjz) ?_⟩
    rw[Array.setIfInBounds_comm _ _ e];exact h3.2.2
theorem rest_take{i:Nat}{oi:Oper}{v:Value}{n:Nat}{l:Array Bool}{a:Act}{w:World}(hi:ops[i]?=some oi)(hs:Region.noSelect ops=true)(hf:Region.free md ops l i=true)(hr:(Region.ready md ops l).contains i=true)(hz:waits md ops i ops.size z=true)(hc:closed md ops l=true)
  (hQ:∀ c a w,Q (.panic c) (a.put oi.dst v) w->Q (.panic c) a w) (hy:YieldsIf P ops S oi v a) (hS:S w)
  (h:Rest P md ops Q S z n (l.setIfInBounds i true) (a.put oi.dst v) w):Rest P md ops Q S z (n+1) l a w :=
 ziz hi (Region.noSelect_spec hs) hQ hz n l a w (zle hc) (Region.free_spec hi hf) (by simpa using hr) hy hS h
theorem rt(i:Nat)(v:Value){oi:Oper}{n:Nat}{l:Array Bool}{a:Act}{w:World}(hS:S w)(h:Rest P md ops Q S z n (l.setIfInBounds i true) (a.put oi.dst v) w)(hi:ops[i]?=some oi:=by rfl)(hs:Region.noSelect ops=true:=by kernel_rfl)(hf:Region.free md ops l i=true:=by kernel_rfl)(hr:(Region.ready md ops l).contains i=true:=by kernel_rfl)(hz:waits md ops i ops.size z=true:=by kernel_rfl)(hc:closed md ops l=true:=by kernel_rfl)(hw:Region.wanted oi (yielded ops a.tmps)=true:=by rfl)(hy:∀ w,S w -> (execOp a.eval oi).run P w=.ok (.value v) w:=by intros;go_simp)(hQ:∀ c a w,Q (.panic c) (a.put oi.dst v) w -> Q (.panic c) a w:=by exact fun _ _ _ h=>h):Rest P md ops Q S z (n+1) l a w:=rest_take hi hs hf hr hz hc hQ (Or.inl ⟨hw,hy⟩) hS h
def Each(P:Program)(md:Region.Mode)(ops:Array Oper)(Q:Exit->Act->World->Prop)(S:World->Prop)(z:Nat)(n:Nat)(l:Array Bool)(a:Act)(w:World)(rs:List Nat):Prop :=
 ∀ i,i∈rs->wpOp P ops Q i (fun b v=>(i≠z->S v)/\Rest P md ops Q S z n (l.setIfInBounds i true) b v) a w
theorem Each.nil{n:Nat}{l:Array Bool}{a:Act}{w:World}:Each P md ops Q S z n l a w []:=fun _ h=>by cases h
theorem Each.cons{n:Nat}{l:Array Bool}{a:Act}{w:World}{i:Nat}{o:Oper}{rs:List Nat}(ho:ops[i]?=some o)
  (h:∀ K:Act->World->Prop,Shut (∀ b v,(i≠z->S v)->Rest P md ops Q S z n (l.setIfInBounds i true) b v->K b v)->if Region.wanted o (yielded ops a.tmps)=true then Oper.wp P o a w K Q else K (a.put o.dst undef) w)
  (hs:Each P md ops Q S z n l a w rs):Each P md ops Q S z n l a w (i :: rs):=fun j hj=>by
 rcases List.mem_cons.1 hj with e | hj
 ·rw[e]
  exact wpOp_step ho fun K hK=>h K fun b v h1 h2=>hK b v ⟨h1,h2⟩
 ·exact hs j hj
theorem rest_ready{rs:List Nat}{n:Nat}{l:Array Bool}{a:Act}{w:World}(hr:Region.ready md ops l=rs)(hne:rs≠[])(h:Each P md ops Q S z n l a w rs):Rest P md ops Q S z (n+1) l a w :=
 ⟨fun h0=>absurd (hr.symm.trans h0) hne,fun i hi=>h i (hr▸hi)⟩
theorem rest_done{l:Array Bool}{a:Act}{w:World}(hr:Region.ready md ops l=[])(h:Q .normal a w):∀ n,Rest P md ops Q S z n l a w
 | 0=>⟨hr,h⟩
 | _+1=>⟨fun _=>h,fun i hi=>absurd (hr▸hi) (by simp)⟩
end
end Go.Proofs.YtcogiogjpbkeaaaGreatDoor.OrdM
namespace Go.Proofs.YtcogiogjpbkeaaaGreatDoor.OrdS
open Go OrdM
section
variable{P:Program}{ops:Array Oper}{Q:Exit->Act->World->Prop}{md:Region.Mode}{S:World->Prop}{zs:List Nat}
def Rest(P:Program)(md:Region.Mode)(ops:Array Oper)(Q:Exit->Act->World->Prop)(S:World->Prop)(zs:List Nat):Nat->Array Bool->Act->World->Prop
 | 0=>fun l a w=>Region.ready md ops l=[]/\Q .normal a w
 | n+1=>fun l a w=>(Region.ready md ops l=[]->Q .normal a w)/\∀ i,i∈Region.ready md ops l->wpOp P ops Q i (fun b v=>(i∉zs->S v)/\Rest P md ops Q S zs n (l.setIfInBounds i true) b v) a w
theorem Rest.any:∀ {n:Nat} {l:Array Bool} {a:Act} {w:World},Rest P md ops Q S zs n l a w->wpAny P md ops Q n l a w
 | 0,_,_,_,h=>h
 | _+1,_,_,_,h=>⟨h.1,fun i hi=>wpOp_mono (fun _ _ k=>k.2.any) (h.2 i hi)⟩
theorem rest_start{id:Nat}{a:Act}{w:World}(S:World->Prop)(zs:List Nat)(hm:P.follows .mixedOrders=true)(hS:S w.drew)(h:S w.drew->Rest P .any ops Q S zs ops.size (Array.replicate ops.size false) a w.drew):(Code.region id ops true).wp P Q a w :=
 wp_region_any hm (h hS).any
theorem ziz{i m:Nat}{oi:Oper}{v:Value}(hi:ops[i]?=some oi)(hsel:∀ (j:Nat) (o:Oper) cs b,ops[j]?=some o->o.op≠.select cs b)(hQ:∀ c a w,Q (.panic c) (a.put oi.dst v) w->Q (.panic c) a w)(hz:∀ z,z∈zs->waits md ops i m z=true):
  ∀ (n:Nat) (l:Array Bool) (a:Act) (w:World),Closed md ops l->Apart md ops l i oi->i∈Region.ready md ops l->YieldsIf P ops S oi v a->S w->Rest P md ops Q S zs n (l.setIfInBounds i true) (a.put oi.dst v) w->Rest P md ops Q S zs (n+1) l a w:=by
 intro n
 induction n with
 | zero =>
   intro l a w _ _ hr hy hS H;refine⟨fun h=>absurd (h▸hr) (by simp),fun j hj=>?_⟩
   by_cases e:j=i
   ·rw[e]
    exact hy.wpOp hi hS ⟨fun _=>hS,H⟩
   ·exact absurd (H.1▸ready_mono hj e) (by simp)
 | succ n ih =>
   intro l a w hc hap hr hy hS H;refine⟨fun h=>absurd (h▸hr) (by simp),fun j hj=>?_⟩
   by_cases e:j=i
   ·rw[e]
    exact hy.wpOp hi hS ⟨fun _=>hS,H⟩
   ·have hjz:j∉zs:=fun ez=>zpl hc (hz j ez) hr hj
    obtain⟨hun,oj,hoj,hall⟩:=mem_ready.1 hj;have h2:=wpOp_putIf hoj (hap j oj hoj e hun (zuv hr hall)) (fun cs b=>hsel i oi cs b hi) (fun cs b=>hsel j oj cs b hoj) hQ hy (H.2 j (ready_mono hj e))
    refine wpOp_mono (fun b u h3=>?_) h2
    refine⟨h3.2.1,ih _ b u (hc.set hoj hall) (hap.set hun) (ready_mono hr fun x=>e x.symm) h3.1 (h3.2.1 hjz) ?_⟩
    rw[Array.setIfInBounds_comm _ _ e];exact h3.2.2
theorem zsw{i:Nat}{oi:Oper}{v:Value}(hi:ops[i]?=some oi)(hsel:∀ (j:Nat) (o:Oper) cs b,ops[j]?=some o->o.op≠.select cs b)(hQ:∀ c a w,Q (.panic c) (a.put oi.dst v) w->Q (.panic c) a w)(hz:i∈zs):
  ∀ (n:Nat) (l:Array Bool) (a:Act) (w:World),Apart md ops l i oi->i∈Region.ready md ops l->YieldsIf P ops (fun _=>True) oi v a->Rest P md ops Q S zs n (l.setIfInBounds i true) (a.put oi.dst v) w->Rest P md ops Q S zs (n+1) l a w:=by
 intro n
 induction n with
 | zero =>
   intro l a w _ hr hy H;refine⟨fun h=>absurd (h▸hr) (by simp),fun j hj=>?_⟩
   by_cases e:j=i
   ·rw[e]
    exact hy.wpOp hi trivial ⟨fun hn=>absurd hz hn,H⟩
   ·exact absurd (H.1▸ready_mono hj e) (by simp)
 | succ n ih =>
   intro l a w hap hr hy H;refine⟨fun h=>absurd (h▸hr) (by simp),fun j hj=>?_⟩
   by_cases e:j=i
   ·rw[e]
    exact hy.wpOp hi trivial ⟨fun hn=>absurd hz hn,H⟩
   ·obtain⟨hun,oj,hoj,hall⟩:=mem_ready.1 hj
    have h2:=wpOp_putIf hoj (hap j oj hoj e hun (zuv hr hall)) (fun cs b=>hsel i oi cs b hi) (fun cs b=>hsel j oj cs b hoj) hQ hy (H.2 j (ready_mono hj e))
    refine wpOp_mono (fun b u h3=>?_) h2
    refine⟨h3.2.1,ih _ b u (hap.set hun) (ready_mono hr fun x=>e x.symm) h3.1 ?_⟩
    rw[Array.setIfInBounds_comm _ _ e];exact h3.2.2
theorem rest_take{i:Nat}{oi:Oper}{v:Value}{n:Nat}{l:Array Bool}{a:Act}{w:World}(hi:ops[i]?=some oi)(hs:Region.noSelect ops=true)(hf:Region.free md ops l i=true)(hr:(Region.ready md ops l).contains i=true)(hz:(zs.all fun z=>waits md ops i ops.size z)=true)(hc:closed md ops l=true)
  (hQ:∀ c a w,Q (.panic c) (a.put oi.dst v) w->Q (.panic c) a w) (hy:YieldsIf P ops S oi v a) (hS:S w)
  (h:Rest P md ops Q S zs n (l.setIfInBounds i true) (a.put oi.dst v) w):Rest P md ops Q S zs (n+1) l a w :=
 ziz hi (Region.noSelect_spec hs) hQ (fun z hzs=>List.all_eq_true.1 hz z hzs) n l a w (zle hc) (Region.free_spec hi hf) (by simpa using hr) hy hS h
theorem rt(i:Nat)(v:Value){oi:Oper}{n:Nat}{l:Array Bool}{a:Act}{w:World}(hS:S w)(h:Rest P md ops Q S zs n (l.setIfInBounds i true) (a.put oi.dst v) w)(hi:ops[i]?=some oi:=by rfl)(hs:Region.noSelect ops=true:=by kernel_rfl)(hf:Region.free md ops l i=true:=by kernel_rfl)(hr:(Region.ready md ops l).contains i=true:=by kernel_rfl)(hz:(zs.all fun z=>waits md ops i ops.size z)=true:=by kernel_rfl)(hc:closed md ops l=true:=by kernel_rfl)(hw:Region.wanted oi (yielded ops a.tmps)=true:=by rfl)(hy:∀ w,S w -> (execOp a.eval oi).run P w=.ok (.value v) w:=by intros;go_simp)(hQ:∀ c a w,Q (.panic c) (a.put oi.dst v) w -> Q (.panic c) a w:=by exact fun _ _ _ h=>h):Rest P md ops Q S zs (n+1) l a w:=rest_take hi hs hf hr hz hc hQ (Or.inl ⟨hw,hy⟩) hS h
theorem rest_takeP{i:Nat}{oi:Oper}{v:Value}{n:Nat}{l:Array Bool}{a:Act}{w:World}(hi:ops[i]?=some oi)(hs:Region.noSelect ops=true)(hf:Region.free md ops l i=true)(hr:(Region.ready md ops l).contains i=true)(hz:zs.contains i=true)
  (hQ:∀ c a w,Q (.panic c) (a.put oi.dst v) w->Q (.panic c) a w) (hy:YieldsIf P ops (fun _=>True) oi v a)
  (h:Rest P md ops Q S zs n (l.setIfInBounds i true) (a.put oi.dst v) w):Rest P md ops Q S zs (n+1) l a w :=
 zsw hi (Region.noSelect_spec hs) hQ (by simpa using hz) n l a w (Region.free_spec hi hf) (by simpa using hr) hy h
def Each(P:Program)(md:Region.Mode)(ops:Array Oper)(Q:Exit->Act->World->Prop)(S:World->Prop)(zs:List Nat)(n:Nat)(l:Array Bool)(a:Act)(w:World)(rs:List Nat):Prop :=
 ∀ i,i∈rs->wpOp P ops Q i (fun b v=>(i∉zs->S v)/\Rest P md ops Q S zs n (l.setIfInBounds i true) b v) a w
theorem Each.nil{n:Nat}{l:Array Bool}{a:Act}{w:World}:Each P md ops Q S zs n l a w []:=fun _ h=>by cases h
theorem Each.cons{n:Nat}{l:Array Bool}{a:Act}{w:World}{i:Nat}{o:Oper}{rs:List Nat}(ho:ops[i]?=some o)
  (h:∀ K:Act->World->Prop,Shut (∀ b v,(i∉zs->S v)->Rest P md ops Q S zs n (l.setIfInBounds i true) b v->K b v)->if Region.wanted o (yielded ops a.tmps)=true then Oper.wp P o a w K Q else K (a.put o.dst undef) w)
  (hs:Each P md ops Q S zs n l a w rs):Each P md ops Q S zs n l a w (i :: rs):=fun j hj=>by
 rcases List.mem_cons.1 hj with e | hj
 ·rw[e]
  exact wpOp_step ho fun K hK=>h K fun b v h1 h2=>hK b v ⟨h1,h2⟩
 ·exact hs j hj
theorem rest_ready{rs:List Nat}{n:Nat}{l:Array Bool}{a:Act}{w:World}(hr:Region.ready md ops l=rs)(hne:rs≠[])(h:Each P md ops Q S zs n l a w rs):Rest P md ops Q S zs (n+1) l a w :=
 ⟨fun h0=>absurd (hr.symm.trans h0) hne,fun i hi=>h i (hr▸hi)⟩
theorem rest_done{l:Array Bool}{a:Act}{w:World}(hr:Region.ready md ops l=[])(h:Q .normal a w):∀ n,Rest P md ops Q S zs n l a w
 | 0=>⟨hr,h⟩
 | _+1=>⟨fun _=>h,fun i hi=>absurd (hr▸hi) (by simp)⟩
end
end Go.Proofs.YtcogiogjpbkeaaaGreatDoor.OrdS
namespace Go.Proofs.YtcogiogjpbkeaaaGreatDoor.OrdS
open Go OrdM
section
variable{P:Program}{ops:Array Oper}{Q:Exit->Act->World->Prop}{md:Region.Mode}{S:World->Prop}{zs:List Nat}
def okT(md:Region.Mode)(ops:Array Oper)(l:Array Bool)(i:Nat)(zs:List Nat):Bool :=
 Region.noSelect ops&&Region.free md ops l i&&(Region.ready md ops l).contains i&&(zs.all fun z=>waits md ops i ops.size z)&&closed md ops l
theorem tk{i:Nat}{oi:Oper}{v:Value}{n:Nat}{l:Array Bool}{a:Act}{w:World}(hi:ops[i]?=some oi)(hb:okT md ops l i zs=true)
  (hQ:∀ c a w,Q (.panic c) (a.put oi.dst v) w->Q (.panic c) a w) (hw:Region.wanted oi (yielded ops a.tmps)=true) (hy:∀ w,S w->(execOp a.eval oi).run P w=.ok (.value v) w) (hS:S w)
  (h:Rest P md ops Q S zs n (l.setIfInBounds i true) (a.put oi.dst v) w):Rest P md ops Q S zs (n+1) l a w:=by
 unfold okT at hb;simp only[Bool.and_eq_true] at hb;exact rest_take hi hb.1.1.1.1 hb.1.1.1.2 hb.1.1.2 hb.1.2 hb.2 hQ (Or.inl ⟨hw,hy⟩) hS h
end
end Go.Proofs.YtcogiogjpbkeaaaGreatDoor.OrdS
