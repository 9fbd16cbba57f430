/-
  The reference's AddNode, whatever it answers. Condition: at most 100 nodes, sorted.
  The cluster beside the reference's (as PlayM14, without the law's play). No condition, no walk.
  A cluster beside blocks of the law's own, which it leaves as they are. No condition, no walk.
  The law's step: an event applied to a pod in both clusters. Conditions: errors.errorType holds its own; at most 100 nodes and pods; the dimension is at most 64.
-/
import Derived.Test.YtcogiogjpbkeaaaGreatDoorJ0
import Derived.Test.YtcogiogjpbkeaaaGreatDoorJ14
namespace Go.Proofs.YtcogiogjpbkeaaaGreatDoor.C14
open Go.RowKit Go.Sort Go.Lib V12 T13 T14
theorem rc_add{w:World}{X:Nat->Prop}{w1:World}(d:Nat)(A:Option Addr)(N c:Nat)(B:Option Addr)(m e:Nat){P:Nat->NdC}{M:List NV}(h:RN w X w1 A c N P)(hM:(lst P N).map nv=M)(hs:G.Srt NV.k M)(kd:Int)(A2:Option Addr)(n2 c2:Nat)(Z:Nat->Int)(hV:Rd w A2 n2 Z)(nilV:A2=none->n2=0/\c2=0)(hk:I64 kd)(k:Keep w w1)(hn:N<=100):
  Calls Tryz.prog 27 #[(⟨d,A,N,c,B,m,e⟩:RcV).val,.agg #[.int .i64 kd,.slice A2 n2 c2]] w1 fun e' w'=>∃ A' c' n' P',e'=.returned (.tuple #[(⟨d,A',n',c',B,m,e⟩:RcV).val,.int .i64 (adC M d kd n2 Z),.int .i64 (wrI d n2 Z)])/\Keep w1 w'/\RN w (fun i=>X i\/(w1.heap.size<=i/\i<w'.heap.size)) w' A' c' n' P'/\(lst P' n').map nv=adL M d kd n2 Z/\((∀ j,j<N->(P j).n=d)->∀ j,j<n'->(P' j).n=d):=by
 by_cases hc:adC M d kd n2 Z=0
 ·obtain⟨h1,h2⟩:=zmj hc
  exact zvc d A N c B m e h hM hs kd A2 n2 c2 Z hV nilV hk k hn h1 h2
 ·exact zyv d A N c B m e h hM hs kd A2 n2 c2 Z hV k hn hc
end Go.Proofs.YtcogiogjpbkeaaaGreatDoor.C14
namespace Go.Proofs.YtcogiogjpbkeaaaGreatDoor.T14
open Go.RowKit Go.Sort Go.Lib V12 T13
theorem afh{M:List NV}{d:Nat}{k:Int}{n:Nat}{Z:Nat->Int}:(adL M d k n Z).length<=M.length+1:=by
 unfold adL
 split
 ·rw[G.ins_len];exact Nat.le_refl _
 ·omega
theorem zwv{M:List NV}{L:List zaa}{d:Nat}{id nd e:Int}:(plL M L d id nd e).length=L.length:=by
 unfold plL
 split
 ·exact zeg
 ·rfl
theorem afp{L:List zaa}{id e dl:Int}:(cgL L id e dl).length=L.length:=by
 unfold cgL
 split
 ·exact zeg
 ·rfl
theorem aid{L:List zaa}{d:Nat}{x:zaa}:(sbL L d x).length<=L.length+1:=by
 unfold sbL
 split
 ·omega
 ·exact ady _ _ _
structure St(CS:zbn)(w:World)(d q:Nat)(M:List NV)(L:List zaa)(X:Nat->Prop)(w1:World)(x:RcV)(Q:Nat->C14.NdC)(P:Nat->zaa):Prop where
 o:CS w d q M L X w1
 xd:x.d=d
 rn:C14.RN w X w1 x.A x.c x.n Q
 em:(C14.lst Q x.n).map nv=M
 dn:∀ j,j<x.n->(Q j).n=d
 rl:RL w X w1 x.B x.e x.m P
 el:(lst P x.m).map nm=L
section
variable{CS:zbn}{w:World}{d q:Nat}{M:List NV}{L:List zaa}{X:Nat->Prop}{w1 w2:World}{x:RcV}{Q:Nat->C14.NdC}{P:Nat->zaa}
theorem St.keep(C:Con CS)(h:St CS w d q M L X w1 x Q P)(k:Keep w1 w2):St CS w d q M L X w2 x Q P:=⟨C.keep h.o k,h.xd,h.rn.keep k,h.em,h.dn,h.rl.keep k,h.el⟩
theorem St.lenM(h:St CS w d q M L X w1 x Q P):M.length=x.n:=by rw[<- h.em,List.length_map,C14.lst_len]
theorem St.lenL(h:St CS w d q M L X w1 x Q P):L.length=x.m:=by rw[<- h.el,List.length_map,lst_len]
theorem St.rdc(C:Con CS)(h:St CS w d q M L X w1 x Q P):C14.RdC w1 x.A x.n Q:=h.rn.rdc (C.kp h.o)
theorem St.rows(h:St CS w d q M L X w1 x Q P){w2:World}(k:Keep w w2)(f:zbe X w1 w2):C14.RN w X w2 x.A x.c x.n Q/\RL w X w2 x.B x.e x.m P:=⟨h.rn.same f,h.rl.same k f⟩
theorem St.new(h:CS w d q [] [] X w1)(x:RcV)(e:x=⟨d,none,0,0,none,0,0⟩):St CS w d q [] [] X w1 x (fun _=>C14.zp) (fun _=>zaf):=by
 subst e;exact⟨h,rfl,C14.RN.nil _ _ _,rfl,(fun _ h=>absurd h (Nat.not_lt_zero _)),RL.nil _ _ _,rfl⟩
theorem St.more(C:Con CS)(h:St CS w d q M L X w1 x Q P)(k:Keep w1 w2){Z:Nat->Prop}(hZ:∀ i,Z i->w1.heap.size<=i/\i<w2.heap.size):St CS w d q M L (fun i=>X i\/Z i) w2 x Q P :=
 ⟨C.more h.o k hZ,h.xd,(h.rn.keep k).less fun _=>Or.inl,h.em,h.dn,(h.rl.keep k).less fun _=>Or.inl,h.el⟩
end
theorem zzb{P Q:Nat->zaa}{m:Nat}(h:(lst P m).map nm=(lst Q m).map nm):∀ j,j<m->zec (P j) (Q j):=fun j hj=>aib (by
 have e:=congrArg (fun l=>l[j]?) h
 simp only[List.getElem?_map,zaw hj,Option.map_some] at e
 exact Option.some.inj e)
end Go.Proofs.YtcogiogjpbkeaaaGreatDoor.T14
namespace Go.Proofs.YtcogiogjpbkeaaaGreatDoor.T15
open Go.RowKit Go.Sort Go.Lib V12 T13 T14
theorem zdy{w w':World}{k:Nat}(h:Keep w w')(hk:k<w.heap.size):w'.heap[k]?=w.heap[k]?:=Below.block h k hk
theorem in0{α:Type}{a:α}{l:List α}:a∈a :: l:=List.mem_cons_self
theorem in1{α:Type}{a b:α}{l:List α}:a∈b :: a :: l:=List.mem_cons_of_mem _ in0
theorem in2{α:Type}{a b c:α}{l:List α}:a∈b :: c :: a :: l:=List.mem_cons_of_mem _ in1
def Bf(CS:zbn)(F:List (Nat × Obj)):zbn:=fun w d q M L X w1=>CS w d q M L (fun i=>X i\/∃ o,(i,o)∈F) w1/\∀ i o,(i,o)∈F->w1.heap[i]?=some o/\¬X i/\w.heap.size<=i
section
variable{CS:zbn}{F G:List (Nat × Obj)}
theorem zeq{w:World}{d q:Nat}{M M2:List NV}{L L2:List zaa}{X:Nat->Prop}{w1 w':World}(h:Bf CS F w d q M L X w1)(k:CS w d q M2 L2 (fun i=>X i\/∃ o,(i,o)∈F) w')(f:zbe (fun i=>X i\/∃ o,(i,o)∈F) w1 w'):Bf CS F w d q M2 L2 X w'/\zbe X w1 w' :=
 ⟨⟨k,fun i o hi=>⟨(f i (Or.inr ⟨o,hi⟩)).trans (h.2 i o hi).1,(h.2 i o hi).2⟩⟩,fun i hi=>f i (Or.inl hi)⟩
theorem zel(C:Con CS):Con (Bf CS F) where
 kp h:=C.kp h.1
 keep h k:=⟨C.keep h.1 k,fun i o hi=>⟨(zdy k (lt_of_block (h.2 i o hi).1)).trans (h.2 i o hi).1,(h.2 i o hi).2⟩⟩
 more h k hz:=⟨C.less (C.more h.1 k hz) fun i hi=>by
   rcases hi with (hi | hi) | hi
   ·exact Or.inl (Or.inl hi)
   ·exact Or.inr hi
   ·exact Or.inl (Or.inr hi),fun i o hi=>⟨(zdy k (lt_of_block (h.2 i o hi).1)).trans (h.2 i o hi).1,fun e=>by
   rcases e with e | e
   ·exact(h.2 i o hi).2.1 e
   ·have:=(hz _ e).1
    have:=lt_of_block (h.2 i o hi).1
    omega,(h.2 i o hi).2.2⟩⟩
 less h hz:=⟨C.less h.1 fun i hi=>hi.imp (hz i) fun e=>e,fun i o hi=>⟨(h.2 i o hi).1,fun e=>(h.2 i o hi).2.1 (hz _ e),(h.2 i o hi).2.2⟩⟩
 write h k hs f:=⟨C.write h.1 k hs fun i hi hn=>f i hi fun e=>hn (Or.inl e),fun i o hi=>⟨(f i (lt_of_block (h.2 i o hi).1) (h.2 i o hi).2.1).trans (h.2 i o hi).1,(h.2 i o hi).2⟩⟩
 lt h i hi:=C.lt h.1 i (Or.inl hi)
 ok h:=C.ok h.1
 addNode k A n c Z h hg hr h0 hk hn hm:=(C.addNode k A n c Z h.1 hg hr h0 hk hn hm).mono fun _ _ ⟨h1,h2,h3⟩=>⟨h1,(zeq h h2 h3).1,(zeq h h2 h3).2⟩
 submit x h hg hx hm hl:=(C.submit x h.1 hg hx hm hl).mono fun _ _ ⟨r,e1,e2,e3,e4,e5,e6,e7⟩=>⟨r,e1,e2,e3,e4,e5,(zeq h e6 e7).1,(zeq h e6 e7).2⟩
 bind id nd h hg hi hd hm hl:=(C.bind id nd h.1 hg hi hd hm hl).mono fun _ _ ⟨r,e1,e2,e3,e4,e5,e6,e7⟩=>⟨r,e1,e2,e3,e4,e5,(zeq h e6 e7).1,(zeq h e6 e7).2⟩
 claim id nd h hg hi hd hm hl:=(C.claim id nd h.1 hg hi hd hm hl).mono fun _ _ ⟨r,e1,e2,e3,e4,e5,e6,e7⟩=>⟨r,e1,e2,e3,e4,e5,(zeq h e6 e7).1,(zeq h e6 e7).2⟩
 change id ev dl h hg hi he hd hm hl:=(C.change id ev dl h.1 hg hi he hd hm hl).mono fun _ _ ⟨r,e1,e2,e3,e4,e5,e6,e7⟩=>⟨r,e1,e2,e3,e4,e5,(zeq h e6 e7).1,(zeq h e6 e7).2⟩
 node id h hi hm:=C.node id h.1 hi hm
 on nd h hi hl:=C.on nd h.1 hi hl
 dims h:=C.dims h.1
section
variable{w:World}{d q:Nat}{M:List NV}{L:List zaa}{X:Nat->Prop}{w1 w2:World}{x:RcV}{Q:Nat->C14.NdC}{P:Nat->zaa}
theorem adu(C:Con CS)(h:St CS w d q M L X w1 x Q P):St (Bf CS []) w d q M L X w1 x Q P :=
 ⟨⟨C.less h.o fun i hi=>hi.elim (fun e=>e) fun ⟨_,e⟩=>(by cases e),fun _ _ e=>(by cases e)⟩,h.xd,h.rn,h.em,h.dn,h.rl,h.el⟩
theorem ajf(h:St (Bf CS F) w d q M L X w1 x Q P):St CS w d q M L (fun i=>X i\/∃ o,(i,o)∈F) w1 x Q P:=⟨h.o.1,h.xd,h.rn.less fun _=>Or.inl,h.em,h.dn,h.rl.less fun _=>Or.inl,h.el⟩
theorem zev(C:Con CS)(h:St (Bf CS F) w d q M L X w1 x Q P)(o:Obj):St (Bf CS ((w1.heap.size,o) :: F)) w d q M L X (w1.alloc o) x Q P:=by
 have k:=Keep.one w1 o;refine⟨⟨C.less (C.more h.o.1 k (Z:=fun i=>i=w1.heap.size) fun i hi=>by rw[World.size_alloc];omega) ?_,?_⟩,h.xd,h.rn.keep k,h.em,h.dn,h.rl.keep k,h.el⟩
 ·rintro i (hi | ⟨o',hi⟩)
  ·exact Or.inl (Or.inl hi)
  ·rcases List.mem_cons.1 hi with e | e
   ·exact Or.inr (by cases e;rfl)
   ·exact Or.inl (Or.inr ⟨o',e⟩)
 ·intro i o' hi
  rcases List.mem_cons.1 hi with e | e
  ·cases e
   exact⟨heap_alloc_new _ _,fun hx=>absurd (C.lt h.o.1 _ (Or.inl hx)) (Nat.lt_irrefl _),(C.kp h.o.1).size⟩
  ·exact⟨(zdy k (lt_of_block (h.o.2 i o' e).1)).trans (h.o.2 i o' e).1,(h.o.2 i o' e).2⟩
theorem zjy(C:Con CS)(h:St (Bf CS F) w d q M L X w1 x Q P)(kw:Keep w w2)(hs:w1.heap.size<=w2.heap.size)(hf:∀ k,(∀ o,(k,o)∉F)->w2.heap[k]?=w1.heap[k]?)(hG:∀ i o,(i,o)∈G->w2.heap[i]?=some o/\∃ o',(i,o')∈F):St (Bf CS G) w d q M L X w2 x Q P:=by
 have fx:∀ i,X i->w2.heap[i]?=w1.heap[i]?:=fun i hi=>hf i fun o ho=>(h.o.2 i o ho).2.1 hi
 refine⟨⟨C.less (C.write h.o.1 kw hs fun k _ hk=>hf k fun o ho=>hk (Or.inr ⟨o,ho⟩)) ?_,?_⟩,h.xd,h.rn.same fx,h.em,h.dn,h.rl.same kw fx,h.el⟩
 ·rintro i (hi | ⟨o,hi⟩)
  ·exact Or.inl hi
  ·exact Or.inr (hG i o hi).2
 ·intro i o hi
  obtain⟨h1,o',h2⟩:=hG i o hi;exact⟨h1,(h.o.2 i o' h2).2⟩
theorem aik{b:Nat}{o:Obj}(C:Con CS)(h:St (Bf CS ((b,o) :: F)) w d q M L X w1 x Q P)(hF:∀ o',(b,o')∉F):St (Bf CS F) w d q M L (fun i=>X i\/i=b) w1 x Q P:=by
 refine⟨⟨C.less h.o.1 ?_,fun i o' hi=>?_⟩,h.xd,h.rn.less fun _=>Or.inl,h.em,h.dn,h.rl.less fun _=>Or.inl,h.el⟩
 ·rintro i ((hi | hi) | ⟨o',hi⟩)
  ·exact Or.inl hi
  ·exact Or.inr ⟨o,by rw[hi];exact List.mem_cons_self⟩
  ·exact Or.inr ⟨o',List.mem_cons_of_mem _ hi⟩
 ·have h1:=h.o.2 i o' (List.mem_cons_of_mem _ hi)
  exact⟨h1.1,fun e=>e.elim h1.2.1 fun e=>hF o' (e▸hi),h1.2.2⟩
end
end
end Go.Proofs.YtcogiogjpbkeaaaGreatDoor.T15
namespace Go.Proofs.YtcogiogjpbkeaaaGreatDoor.T15
open Go.RowKit Go.Sort Go.Lib V12 T13 T14
def stL(d:Nat)(M:List NV)(L:List zaa)(id nd ev:Int):List zaa:=if ev=1 then plL M L d id nd 1 else if ev=2 then plL M L d id nd 2 else cgL L id ev 7
theorem aij{d:Nat}{M:List NV}{L:List zaa}{id nd ev:Int}:(stL d M L id nd ev).length=L.length:=by
 unfold stL
 split
 ·exact zwv
 ·split
  ·exact zwv
  ·exact afp
def zhk(CS:zbn)(w:World)(d q:Nat)(M:List NV)(L:List zaa)(X:Nat->Prop)(w1:World)(Q:Nat->C14.NdC)(e:Ending)(w':World):Prop :=
 ∃ x' P' X',e=.returned (x':RcV).val/\St CS w d q M L X' w' x' Q P'/\(∀ i,X i->X' i)/\zbe X w1 w'
set_option maxHeartbeats 1000000 in
theorem step_end{CS:zbn}(C:Con CS){w:World}{d q:Nat}{M:List NV}{L L2:List zaa}{X:Nat->Prop}{w1 W w2 w3:World}{x x':RcV}{Q:Nat->C14.NdC}{P P':Nat->zaa}{b6 b10:Nat}{z:RcV}(h:St CS w d q M L X w1 x Q P)(kW:Keep w1 W)(o2:Bf CS [(b10,.cells z.arr 30 (0,0)),(b6,.cells x.arr 30 (0,0))] w d q M L2 X w2)(sx:zbe X W w2)(hne:b10≠b6)(k3:Keep w2 w3)
  (xd:x'.d=d) (xn:x'.A=x.A/\x'.n=x.n/\x'.c=x.c) (rl:RL w (fun i=>X i\/(w2.heap.size<=i/\i<w3.heap.size)) w3 x'.B x'.e x'.m P') (el:(T13.lst P' x'.m).map nm=L2) :
  zhk CS w d q M L2 X w1 Q (.returned x'.val) (zav (zav w3 b6 x') b10 x')/\(zav (zav w3 b6 x') b10 x').heap[b10]?=some (.cells x'.arr 30 (0,0))/\(zav w3 b6 x').heap[b6]?=some (.cells x'.arr 30 (0,0))/\w3.heap[b6]?=some (.cells x.arr 30 (0,0))/\(zav w3 b6 x').heap[b10]?=some (.cells z.arr 30 (0,0)):=by
 have CF:Con (Bf CS [(b10,.cells z.arr 30 (0,0)),(b6,.cells x.arr 30 (0,0))]):=zel C;have kx:∀ i,X i->W.heap[i]?=w1.heap[i]?:=fun i hi=>zdy kW (C.lt h.o i hi)
 have s1:zbe X w1 w2:=fun i hi=>(sx i hi).trans (kx i hi)
 obtain⟨r1,_⟩:=h.rows (CF.kp o2) s1;have lt2:∀ i,X i->i<w2.heap.size:=CF.lt o2;have S3:St (Bf CS [(b10,.cells z.arr 30 (0,0)),(b6,.cells x.arr 30 (0,0))]) w d q M L2 (fun i=>X i\/(w2.heap.size<=i/\i<w3.heap.size)) w3 x' Q P':=by
  refine⟨CF.more o2 k3 fun i hi=>hi,xd,?_,?_,?_,rl,el⟩
  ·rw[xn.1,xn.2.1,xn.2.2]
   exact(r1.keep k3).less fun _=>Or.inl
  ·rw[xn.2.1];exact h.em
  ·rw[xn.2.1];exact h.dn
 have B6:=S3.o.2 b6 _ in1;have B10:=S3.o.2 b10 _ in0;have E6:(zav w3 b6 x').heap[b6]?=some (.cells x'.arr 30 (0,0)):=zce _ _ B6.1;have E10:(zav w3 b6 x').heap[b10]?=some (.cells z.arr 30 (0,0)):=(zbd _ hne).trans B10.1;have S4:St (Bf CS [(b10,.cells z.arr 30 (0,0)),(b6,.cells x'.arr 30 (0,0))]) w d q M L2 (fun i=>X i\/(w2.heap.size<=i/\i<w3.heap.size)) (zav w3 b6 x') x' Q P':=by
  refine zjy C S3 (zbz _ (C.kp S3.o.1) B6.2.2) (Nat.le_of_eq (zdu _ _ _).symm) (fun k hk=>zbd _ fun e=>hk (.cells x.arr 30 (0,0)) (by rw[e];exact in1)) fun i o hi=>?_
  simp only[List.mem_cons,Prod.mk.injEq,List.not_mem_nil,or_false] at hi;rcases hi with ⟨rfl,rfl⟩ | ⟨rfl,rfl⟩
  ·exact⟨E10,_,in0⟩
  ·exact⟨E6,_,in1⟩
 have F10:(zav (zav w3 b6 x') b10 x').heap[b10]?=some (.cells x'.arr 30 (0,0)):=zce _ _ E10;have S5:St (Bf CS [(b10,.cells x'.arr 30 (0,0)),(b6,.cells x'.arr 30 (0,0))]) w d q M L2 (fun i=>X i\/(w2.heap.size<=i/\i<w3.heap.size)) (zav (zav w3 b6 x') b10 x') x' Q P':=by
  refine zjy C S4 (zbz _ (C.kp S4.o.1) B10.2.2) (Nat.le_of_eq (zdu _ _ _).symm) (fun k hk=>zbd _ fun e=>hk (.cells z.arr 30 (0,0)) (by rw[e];exact in0)) fun i o hi=>?_
  simp only[List.mem_cons,Prod.mk.injEq,List.not_mem_nil,or_false] at hi;rcases hi with ⟨rfl,rfl⟩ | ⟨rfl,rfl⟩
  ·exact⟨F10,.cells z.arr 30 (0,0),in0⟩
  ·exact⟨(zbd _ (Ne.symm hne)).trans E6,.cells x'.arr 30 (0,0),in1⟩
 refine⟨⟨x',P',_,rfl,ajf S5,fun i hi=>Or.inl (Or.inl hi),fun i hi=>?_⟩,F10,E6,B6.1,E10⟩
 have n6:i≠b6:=fun e=>B6.2.1 (Or.inl (e▸hi))
 have n10:i≠b10:=fun e=>B10.2.1 (Or.inl (e▸hi))
 rw[zbd _ n10,zbd _ n6,zdy k3 (lt2 i hi),s1 i hi]
set_option maxRecDepth 100000 in
set_option maxHeartbeats 8000000 in
theorem zzg{CS:zbn}(C:Con CS){w:World}{d q:Nat}{M:List NV}{L:List zaa}{X:Nat->Prop}{w1:World}{x:RcV}{Q:Nat->C14.NdC}{P:Nat->zaa}(h:St CS w d q M L X w1 x Q P)(hg:zbk w)(hd:d<=64)(id nd:Int)(hid:I64 id)(hnd:I64 nd)(hmn:x.n<=100)(hmm:x.m<=100):
  Calls Tryz.prog 31 #[.pointer (some ⟨q,0,none⟩),x.val,.int .i64 id,.int .i64 nd,.int .i64 1] w1 (zhk CS w d q M (plL M L d id nd 1) X w1 Q):=by
 obtain⟨xd,A,n,c,B,m,e⟩:=x;obtain rfl:xd=(d:Int):=h.xd;simp only at hmn hmm;have lM:=h.lenM;have lL:=h.lenL;simp only at lM lL;have S1:=zev C (zev C (adu C h) (.cells (⟨d,A,n,c,B,m,e⟩:RcV).arr 30)) (.cells zrc.arr 30);rw[World.size_alloc] at S1;obtain⟨W,hW⟩:=Zn ((w1.alloc (.cells (⟨d,A,n,c,B,m,e⟩:RcV).arr 30)).alloc (.cells zrc.arr 30));have kW:Hid (Keep w1 W):=by rw[hW];exact(Keep.one _ _).alloc _
 rw[<- hW] at S1;obtain⟨b6,hb6⟩:=Zn (w1.heap.size);obtain⟨b10,hb10⟩:=Zn (w1.heap.size+1);rw[<- hb10,<- hb6] at S1;have hne:Hid (b10≠b6):=by show _≠_;omega
 have CF:Con (Bf CS [(b10,.cells zrc.arr 30 (0,0)),(b6,.cells (⟨d,A,n,c,B,m,e⟩:RcV).arr 30 (0,0))]):=zel C;have cB:=Zq (CF.bind id nd S1.o (hg.keep (CF.kp S1.o)) hid hnd (by omega) (by omega))
 have h':=Zq h;have S1':=Zq S1;have ok:=Zq (C.ok h.o);have CFh:=Zq CF;clear S1 CF;replace hid:=Zq hid;replace hnd:=Zq hnd;replace lM:=Zq lM;replace lL:=Zq lL;obtain⟨L2,hL2⟩:=Zn (plL M L d id nd 1);rw[<- hL2] at cB ⊢;replace hL2:=Zq hL2;unfold RcV.val at *;unfold zaa.val at cB;unfold RcV.arr at hW;unfold zrc at hW;simp only at *
 go_enter Tryz.func31,Tryz.ntmps31
 go_wp2_with fail;rw[<- hW,<- hb10,<- hb6];refine cB.out.mono ?_;rintro e' w2 ⟨r,rfl,_,_,_,_,o2,sx⟩;replace hW:=Zq hW;replace hb10:=Zq hb10;replace hb6:=Zq hb6;obtain⟨B',RD⟩:=h'.out.rows (CFh.out.kp o2) (fun i hi=>(sx i hi).trans (zdy kW.out (C.lt h'.out.o i hi)))
 have cR:=Zq (zss d A n c B m e RD h'.out.el (B'.rdc (CFh.out.kp o2)) h'.out.em h'.out.dn ok.out hd id nd 1 (Or.inl rfl) hnd.out (CFh.out.kp o2) (CFh.out.lt o2) hmm);rw[<- hL2.out] at cR;unfold zis at cR;have k6:=(o2.2 b6 _ in1).1;obtain⟨x0,x1,x2,xf⟩:=zab k6;simp only at x0 x1 x2;replace k6:=Zq k6;replace o2:=Zq o2;replace sx:=Zq sx;clear cB B' RD;unfold RcV.val at cR;simp only at cR;go_wp2_with fail;refine cR.out.mono ?_;rintro e' w3 ⟨B',c',n',P',rfl,k3,rl,el,_⟩;obtain⟨f1,f2,f3,f4,f5⟩:=step_end C h'.out kW.out o2.out sx.out hne.out k3 (x':=⟨d,A,n,c,B',n',c'⟩) rfl ⟨rfl,rfl,rfl⟩ rl el;have f1:=Zq f1;have f2:=Zq f2;obtain⟨y0,y1,y2,yf⟩:=zab f4;obtain⟨t0,t1,t2,tf⟩:=zab f3;obtain⟨z0,z1,z2,zf⟩:=zab f5;simp only[zav] at t0 t1 t2 tf z0 z1 z2 zf y0 y1 y2;unfold zrc at z0 z1 z2;simp only at z0 z1 z2;clear f3 f4 f5 x0 x1 x2 xf rl el cR;replace k3:=Zq k3;go_wp2;obtain⟨e0,e1,e2,_⟩:=zab f2.out;have f1:=f1.out;unfold RcV.val at f1;simp only[zav] at e0 e1 e2 f1;refine bodyPost_ret (v:=.agg #[.int .i64 d,.slice A n c,.slice B' n' c']) (by simp[results,Tryz.results31,go_sem,e0,e1,e2]) rfl f1
set_option maxRecDepth 100000 in
set_option maxHeartbeats 8000000 in
theorem zvm{CS:zbn}(C:Con CS){w:World}{d q:Nat}{M:List NV}{L:List zaa}{X:Nat->Prop}{w1:World}{x:RcV}{Q:Nat->C14.NdC}{P:Nat->zaa}(h:St CS w d q M L X w1 x Q P)(hg:zbk w)(hd:d<=64)(id nd:Int)(hid:I64 id)(hnd:I64 nd)(hmn:x.n<=100)(hmm:x.m<=100):
  Calls Tryz.prog 31 #[.pointer (some ⟨q,0,none⟩),x.val,.int .i64 id,.int .i64 nd,.int .i64 2] w1 (zhk CS w d q M (plL M L d id nd 2) X w1 Q):=by
 obtain⟨xd,A,n,c,B,m,e⟩:=x;obtain rfl:xd=(d:Int):=h.xd;simp only at hmn hmm;have lM:=h.lenM;have lL:=h.lenL;simp only at lM lL;have S1:=zev C (zev C (adu C h) (.cells (⟨d,A,n,c,B,m,e⟩:RcV).arr 30)) (.cells zrc.arr 30);rw[World.size_alloc] at S1;obtain⟨W,hW⟩:=Zn ((w1.alloc (.cells (⟨d,A,n,c,B,m,e⟩:RcV).arr 30)).alloc (.cells zrc.arr 30));have kW:Hid (Keep w1 W):=by rw[hW];exact(Keep.one _ _).alloc _
 rw[<- hW] at S1;obtain⟨b6,hb6⟩:=Zn (w1.heap.size);obtain⟨b10,hb10⟩:=Zn (w1.heap.size+1);rw[<- hb10,<- hb6] at S1;have hne:Hid (b10≠b6):=by show _≠_;omega
 have CF:Con (Bf CS [(b10,.cells zrc.arr 30 (0,0)),(b6,.cells (⟨d,A,n,c,B,m,e⟩:RcV).arr 30 (0,0))]):=zel C;have cB:=Zq (CF.claim id nd S1.o (hg.keep (CF.kp S1.o)) hid hnd (by omega) (by omega))
 have h':=Zq h;have S1':=Zq S1;have ok:=Zq (C.ok h.o);have CFh:=Zq CF;clear S1 CF;replace hid:=Zq hid;replace hnd:=Zq hnd;replace lM:=Zq lM;replace lL:=Zq lL;obtain⟨L2,hL2⟩:=Zn (plL M L d id nd 2);rw[<- hL2] at cB ⊢;replace hL2:=Zq hL2;unfold RcV.val at *;unfold zaa.val at cB;unfold RcV.arr at hW;unfold zrc at hW;simp only at *
 go_enter Tryz.func31,Tryz.ntmps31
 go_wp2_with fail;rw[<- hW,<- hb10,<- hb6];refine cB.out.mono ?_;rintro e' w2 ⟨r,rfl,_,_,_,_,o2,sx⟩;replace hW:=Zq hW;replace hb10:=Zq hb10;replace hb6:=Zq hb6;obtain⟨B',RD⟩:=h'.out.rows (CFh.out.kp o2) (fun i hi=>(sx i hi).trans (zdy kW.out (C.lt h'.out.o i hi)))
 have cR:=Zq (zss d A n c B m e RD h'.out.el (B'.rdc (CFh.out.kp o2)) h'.out.em h'.out.dn ok.out hd id nd 2 (Or.inr rfl) hnd.out (CFh.out.kp o2) (CFh.out.lt o2) hmm);rw[<- hL2.out] at cR;unfold zis at cR;have k6:=(o2.2 b6 _ in1).1;obtain⟨x0,x1,x2,xf⟩:=zab k6;simp only at x0 x1 x2;replace k6:=Zq k6;replace o2:=Zq o2;replace sx:=Zq sx;clear cB B' RD;unfold RcV.val at cR;simp only at cR;go_wp2_with fail;refine cR.out.mono ?_;rintro e' w3 ⟨B',c',n',P',rfl,k3,rl,el,_⟩;obtain⟨f1,f2,f3,f4,f5⟩:=step_end C h'.out kW.out o2.out sx.out hne.out k3 (x':=⟨d,A,n,c,B',n',c'⟩) rfl ⟨rfl,rfl,rfl⟩ rl el;have f1:=Zq f1;have f2:=Zq f2;obtain⟨y0,y1,y2,yf⟩:=zab f4;obtain⟨t0,t1,t2,tf⟩:=zab f3;obtain⟨z0,z1,z2,zf⟩:=zab f5;simp only[zav] at t0 t1 t2 tf z0 z1 z2 zf y0 y1 y2;unfold zrc at z0 z1 z2;simp only at z0 z1 z2;clear f3 f4 f5 x0 x1 x2 xf rl el cR;replace k3:=Zq k3;go_wp2;obtain⟨e0,e1,e2,_⟩:=zab f2.out;have f1:=f1.out;unfold RcV.val at f1;simp only[zav] at e0 e1 e2 f1;refine bodyPost_ret (v:=.agg #[.int .i64 d,.slice A n c,.slice B' n' c']) (by simp[results,Tryz.results31,go_sem,e0,e1,e2]) rfl f1
set_option maxRecDepth 100000 in
set_option maxHeartbeats 8000000 in
theorem adx{CS:zbn}(C:Con CS){w:World}{d q:Nat}{M:List NV}{L:List zaa}{X:Nat->Prop}{w1:World}{x:RcV}{Q:Nat->C14.NdC}{P:Nat->zaa}(h:St CS w d q M L X w1 x Q P)(hg:zbk w)(_:d<=64)(id nd ev:Int)(hid:I64 id)(hnd:I64 nd)(hev:I64 ev)(h1:ev≠1)(h2:ev≠2)(hmn:x.n<=100)(hmm:x.m<=100):
  Calls Tryz.prog 31 #[.pointer (some ⟨q,0,none⟩),x.val,.int .i64 id,.int .i64 nd,.int .i64 ev] w1 (zhk CS w d q M (cgL L id ev 7) X w1 Q):=by
 obtain⟨xd,A,n,c,B,m,e⟩:=x;obtain rfl:xd=(d:Int):=h.xd;simp only at hmn hmm;have lM:=h.lenM;have lL:=h.lenL;simp only at lM lL;have S1:=zev C (zev C (adu C h) (.cells (⟨d,A,n,c,B,m,e⟩:RcV).arr 30)) (.cells zrc.arr 30);rw[World.size_alloc] at S1;obtain⟨W,hW⟩:=Zn ((w1.alloc (.cells (⟨d,A,n,c,B,m,e⟩:RcV).arr 30)).alloc (.cells zrc.arr 30));have kW:Hid (Keep w1 W):=by rw[hW];exact(Keep.one _ _).alloc _
 rw[<- hW] at S1;obtain⟨b6,hb6⟩:=Zn (w1.heap.size);obtain⟨b10,hb10⟩:=Zn (w1.heap.size+1);rw[<- hb10,<- hb6] at S1;have hne:Hid (b10≠b6):=by show _≠_;omega
 have CF:Con (Bf CS [(b10,.cells zrc.arr 30 (0,0)),(b6,.cells (⟨d,A,n,c,B,m,e⟩:RcV).arr 30 (0,0))]):=zel C;have cB:=Zq (CF.change id ev 7 S1.o (hg.keep (CF.kp S1.o)) hid hev (by unfold I64;omega) (by omega) (by omega))
 have h':=Zq h;have S1':=Zq S1;have ok:=Zq (C.ok h.o);have CFh:=Zq CF;clear S1 CF;replace hid:=Zq hid;replace hnd:=Zq hnd;have n1:(ev == 1)=false:=beq_eq_false_iff_ne.2 h1;have n2:(ev == 2)=false:=beq_eq_false_iff_ne.2 h2;replace h1:=Zq h1;replace h2:=Zq h2;replace hev:=Zq hev;replace lM:=Zq lM;replace lL:=Zq lL;obtain⟨L2,hL2⟩:=Zn (cgL L id ev 7);rw[<- hL2] at cB ⊢;replace hL2:=Zq hL2;unfold RcV.val at *;unfold zaa.val at cB;unfold RcV.arr at hW;unfold zrc at hW;simp only at *
 go_enter Tryz.func31,Tryz.ntmps31
 go_wp2_with fail;rw[<- hW,<- hb10,<- hb6];refine cB.out.mono ?_;rintro e' w2 ⟨r,rfl,_,_,_,_,o2,sx⟩;replace hW:=Zq hW;replace hb10:=Zq hb10;replace hb6:=Zq hb6;obtain⟨B',RD⟩:=h'.out.rows (CFh.out.kp o2) (fun i hi=>(sx i hi).trans (zdy kW.out (C.lt h'.out.o i hi)))
 have cR:=Zq (zyw d A n c B m e RD h'.out.el ok.out.lok id ev 7 (by unfold I64;omega) (CFh.out.kp o2) (CFh.out.lt o2) (by omega))
 rw[<- hL2.out] at cR;unfold zis at cR;have k6:=(o2.2 b6 _ in1).1;obtain⟨x0,x1,x2,xf⟩:=zab k6;simp only at x0 x1 x2;replace k6:=Zq k6;replace o2:=Zq o2;replace sx:=Zq sx;clear cB B' RD;unfold RcV.val at cR;simp only at cR;go_wp2_with fail;refine cR.out.mono ?_;rintro e' w3 ⟨B',c',n',P',rfl,k3,rl,el,_⟩;obtain⟨f1,f2,f3,f4,f5⟩:=step_end C h'.out kW.out o2.out sx.out hne.out k3 (x':=⟨d,A,n,c,B',n',c'⟩) rfl ⟨rfl,rfl,rfl⟩ rl el;have f1:=Zq f1;have f2:=Zq f2;obtain⟨y0,y1,y2,yf⟩:=zab f4;obtain⟨t0,t1,t2,tf⟩:=zab f3;obtain⟨z0,z1,z2,zf⟩:=zab f5;simp only[zav] at t0 t1 t2 tf z0 z1 z2 zf y0 y1 y2;unfold zrc at z0 z1 z2;simp only at z0 z1 z2;clear f3 f4 f5 x0 x1 x2 xf rl el cR;replace k3:=Zq k3;go_wp2;obtain⟨e0,e1,e2,_⟩:=zab f2.out;have f1:=f1.out;unfold RcV.val at f1;simp only[zav] at e0 e1 e2 f1;refine bodyPost_ret (v:=.agg #[.int .i64 d,.slice A n c,.slice B' n' c']) (by simp[results,Tryz.results31,go_sem,e0,e1,e2]) rfl f1
theorem ail{CS:zbn}(C:Con CS){w:World}{d q:Nat}{M:List NV}{L:List zaa}{X:Nat->Prop}{w1:World}{x:RcV}{Q:Nat->C14.NdC}{P:Nat->zaa}(h:St CS w d q M L X w1 x Q P)(hg:zbk w)(hd:d<=64)(id nd ev:Int)(hid:I64 id)(hnd:I64 nd)(hev:I64 ev)(hmn:x.n<=100)(hmm:x.m<=100):
  Calls Tryz.prog 31 #[.pointer (some ⟨q,0,none⟩),x.val,.int .i64 id,.int .i64 nd,.int .i64 ev] w1 (zhk CS w d q M (stL d M L id nd ev) X w1 Q):=by
 unfold stL
 by_cases h1:ev=1
 ·rw[if_pos h1,h1]
  exact zzg C h hg hd id nd hid hnd hmn hmm
 ·rw[if_neg h1]
  by_cases h2:ev=2
  ·rw[if_pos h2,h2]
   exact zvm C h hg hd id nd hid hnd hmn hmm
  ·rw[if_neg h2]
   exact adx C h hg hd id nd ev hid hnd hev h1 h2 hmn hmm
end Go.Proofs.YtcogiogjpbkeaaaGreatDoor.T15
