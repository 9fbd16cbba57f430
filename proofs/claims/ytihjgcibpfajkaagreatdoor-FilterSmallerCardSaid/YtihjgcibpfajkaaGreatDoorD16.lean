/-
  What the law's Build is about: places; a new cluster beside blocks of others; nodes and pods added to both clusters. No condition, no walk of Build.
-/
import Derived.Test.YtihjgcibpfajkaaGreatDoorD15
namespace Go.Proofs.YtihjgcibpfajkaaGreatDoor.T15
open Go.RowKit Go.Sort Go.Lib V12 T13 T14
structure PlV where
 x:zaa
 nd:Int
 A:Option Addr
 n:Nat
 c:Nat
 V:Nat→Int
def PlV.arr(o:PlV):Array Value:=#[.int .i64 o.x.k,.int .i64 o.x.p,.bool o.x.f,.int .i64 o.x.g,.slice o.x.A o.x.m o.x.c,.int .i64 o.x.a,.int .i64 o.x.h,.int .i64 o.x.d,.int .i64 o.x.t,.int .i64 o.nd,.slice o.A o.n o.c]
structure zmj(w:World)(o:PlV):Prop where
 x:zaf w o.x
 n:I64 o.nd
 v:Rd w o.A o.n o.V
 nil:o.A=none→o.n=0∧o.c=0
theorem zmj.keep{w w':World}{o:PlV}(h:zmj w o)(k:Keep w w'):zmj w' o:=⟨h.x.keep k,h.n,h.v.keep k,h.nil⟩
structure zix(w:World)(b o:Nat)(v:PlV):Prop where
 x:zcf w b o v.x
 n:w.cell? ⟨b,o+9,none⟩=some (.int .i64 v.nd)
 v:w.cell? ⟨b,o+10,none⟩=some (.slice v.A v.n v.c)
theorem zix.keep{w w':World}{b o:Nat}{v:PlV}(h:zix w b o v)(k:Keep w w'):zix w' b o v:=⟨h.x.keep k,k.cell h.n,k.cell h.v⟩
theorem zew{w:World}{b:Nat}{v:PlV}{T:TypeId}(h:w.heap[b]?=some (.cells v.arr T (0,0))):zix w b 0 v:=by
 have c:∀ i u,v.arr[i]?=some u→w.cell? ⟨b,i,none⟩=some u:=fun i u hu=>by rw[cell_of_row w b i _ _ _ h];exact hu
 exact⟨⟨c 0 _ rfl,c 1 _ rfl,c 2 _ rfl,c 3 _ rfl,c 4 _ rfl,c 5 _ rfl,c 6 _ rfl,c 7 _ rfl,c 8 _ rfl⟩,c 9 _ rfl,c 10 _ rfl⟩
structure zkz(w:World)(A:Option Addr)(n:Nat)(P:Nat→PlV):Prop where
 small:n≤9223372036854775807
 adr:0<n→∃ b off,A=some ⟨b,off,none⟩∧∀ j,j<n→zix w b (off+j * 11) (P j)
 is:∀ j,j<n→zmj w (P j)
theorem zkz.keep{w w':World}{A:Option Addr}{n:Nat}{P:Nat→PlV}(h:zkz w A n P)(k:Keep w w'):zkz w' A n P :=
 ⟨h.small,fun hn=>by
  obtain⟨b,off,e,c⟩:=h.adr hn
  exact⟨b,off,e,fun j hj=>(c j hj).keep k⟩,fun j hj=>(h.is j hj).keep k⟩
theorem aff(b off n cp j:Nat)(hj:j<n)(W:World):(Instr.indexAt 23 (.slice (some ⟨b,off,none⟩) n cp) (.int .i64 j)).run Tryz.prog W=.ok (.pointer (some ⟨b,off+j * 11,none⟩)) W:=by
 go_simp
theorem aew(b off n cp j:Nat)(hj:j<n)(W:World):(Instr.indexAt 36 (.slice (some ⟨b,off,none⟩) n cp) (.int .i64 j)).run Tryz.prog W=.ok (.pointer (some ⟨b,off+j,none⟩)) W:=by
 go_simp
def zga(CS:zba):Prop:=∀ (d:Nat) (w w0:World) (X:Nat→Prop),Keep w w0→(∀ i,X i→i<w0.heap.size)→d≤64→Calls Tryz.prog 23 #[.int .i64 d] w0 fun e w'=>∃ q,e=.returned (.pointer (some ⟨q,0,none⟩))∧CS w d q [] [] X w'∧Keep w0 w'
section
variable{CS:zba}{F G:List (Nat × Obj)}{w:World}{d q:Nat}{M M2:List NV}{L L2:List zaa}{X:Nat→Prop}{w1 w4 w5 w6:World}{x x':RcV}{Q Q':Nat→C14.NdC}{P P':Nat→zaa}
theorem zws(C:Con CS){b:Nat}{o:Obj}(h:CS w d q [] [] (fun i=>i=b) w1)(hb:w1.heap[b]?=some o)(hw:w.heap.size≤b):St (Bf CS [(b,o)]) w d q [] [] (fun _=>False) w1 ⟨d,none,0,0,none,0,0⟩ (fun _=>C14.zp) (fun _=>zad):=by
 refine St.new ⟨C.less h ?_,fun i o' hi=>?_⟩ _ rfl
 ·rintro i (hi | ⟨o',hi⟩)
  ·exact hi.elim
  ·cases List.mem_singleton.1 hi
   rfl
 ·cases List.mem_singleton.1 hi
  exact⟨hb,fun e=>e,hw⟩
theorem zwt(C:Con CS)(h:St (Bf CS F) w d q M L X w1 x Q P)(k4:Keep w1 w4)(xd:x'.d=d)(rn:C14.RN w (fun i=>X i∨(w1.heap.size≤i∧i<w4.heap.size)) w4 x'.A x'.c x'.n Q')(em:(C14.lst Q' x'.n).map nv=M2)(dn:∀ j,j<x'.n→(Q' j).n=d)(rl:RL w (fun i=>X i∨(w1.heap.size≤i∧i<w4.heap.size)) w4 x'.B x'.e x'.m P')(el:(T13.lst P' x'.m).map nm=L2)
  (kw:Keep w w5) (hs:w4.heap.size≤w5.heap.size) (hf:∀ k,(∀ o,(k,o)∉F)→w5.heap[k]?=w4.heap[k]?) (hG:∀ i o,(i,o)∈G→w5.heap[i]?=some o∧∃ o',(i,o')∈F) :
  Bf CS G w d q M L (fun i=>X i∨(w1.heap.size≤i∧i<w4.heap.size)) w5∧∀ w6,Bf CS G w d q M2 L2 (fun i=>X i∨(w1.heap.size≤i∧i<w4.heap.size)) w6→zas (fun i=>X i∨(w1.heap.size≤i∧i<w4.heap.size)) w5 w6→St (Bf CS G) w d q M2 L2 (fun i=>X i∨(w1.heap.size≤i∧i<w4.heap.size)) w6 x' Q' P':=by
 have CF:Con (Bf CS F):=zdh C;have CG:Con (Bf CS G):=zdh C;have o4:=CF.more h.o k4 fun i hi=>hi
 have fx:∀ i,(X i∨(w1.heap.size≤i∧i<w4.heap.size))→w5.heap[i]?=w4.heap[i]?:=fun i hi=>hf i fun o ho=>(o4.2 i o ho).2.1 hi
 refine⟨⟨C.less (C.write o4.1 kw hs fun k _ hk=>hf k fun o ho=>hk (Or.inr ⟨o,ho⟩)) ?_,?_⟩,fun w6 o6 sx=>⟨o6,xd,(rn.same fx).same sx,em,dn,(rl.same kw fx).same (CG.kp o6) sx,el⟩⟩
 ·rintro i (hi | ⟨o,hi⟩)
  ·exact Or.inl hi
  ·exact Or.inr (hG i o hi).2
 ·intro i o hi
  obtain⟨h1,o',h2⟩:=hG i o hi;exact⟨h1,(o4.2 i o' h2).2⟩
theorem adv(C:Con CS)(h:St CS w d q M L X w1 x Q P)(hn:x.n≤100)(y:C14.NdC)(hy:Rd w y.A y.n y.C)(hnil:y.A=none→y.n=0∧y.c=0)(hk:I64 y.k){W:World}(k:Keep w1 W):
  Calls Tryz.prog 24 #[x.val,y.val] W fun e' w'=>∃ x' Q',e'=.returned (.tuple #[(x':RcV).val,.int .i64 (adC M d y.k y.n y.C),.int .i64 (wrI d y.n y.C)])∧Keep w1 w'∧x'.d=d∧(x'.B=x.B∧x'.m=x.m∧x'.e=x.e) ∧
   C14.RN w (fun i=>X i∨(w1.heap.size≤i∧i<w'.heap.size)) w' x'.A x'.c x'.n Q'∧(C14.lst Q' x'.n).map nv=adL M d y.k y.n y.C∧∀ j,j<x'.n→(Q' j).n=d:=by
 obtain⟨xd,xA,xn,xc,xB,xm,xe⟩:=x;obtain rfl:xd=(d:Int):=h.xd;have kw:=C.kp h.o;refine(C14.rc_add d xA xn xc xB xm xe (h.rn.keep k) h.em (C.ok h.o).srt y.k y.A y.n y.c y.C hy hnil hk (kw.trans k) hn).mono ?_;rintro e' w' ⟨A',c',n',P',h1,h2,h3,h4,h5⟩;exact⟨⟨d,A',n',c',xB,xm,xe⟩,P',h1,k.trans h2,rfl,⟨rfl,rfl,rfl⟩,h3.less fun i hi=>hi.imp (fun e=>e) fun e=>⟨Nat.le_trans k.size e.1,e.2⟩,h4,h5 h.dn⟩
theorem aea(C:Con CS)(h:St CS w d q M L X w1 x Q P)(hm:x.m≤1000)(y:zaa)(hy:zaf w y){W:World}(k:Keep w1 W):
  Calls Tryz.prog 25 #[x.val,y.val] W fun e' w'=>∃ x' P',e'=.returned (.tuple #[(x':RcV).val,.int .i64 (sbC L d y),.int .i64 (wrI d y.m y.Z)])∧Keep w1 w'∧x'.d=d∧(x'.A=x.A∧x'.n=x.n∧x'.c=x.c) ∧
   RL w (fun i=>X i∨(w1.heap.size≤i∧i<w'.heap.size)) w' x'.B x'.e x'.m P'∧(T13.lst P' x'.m).map nm=sbL L d y:=by
 obtain⟨xd,xA,xn,xc,xB,xm,xe⟩:=x;obtain rfl:xd=(d:Int):=h.xd;have kw:=C.kp h.o;refine(zss d xA xn xc xB xm xe (h.rl.keep k) h.el y hy (kw.trans k) (fun i hi=>Nat.lt_of_lt_of_le (C.lt h.o i hi) k.size) hm).mono ?_
 rintro e' w' ⟨B',c',n',P',h1,h2,h3,h4,_⟩;exact⟨⟨d,xA,xn,xc,B',n',c'⟩,P',h1,k.trans h2,rfl,⟨rfl,rfl,rfl⟩,h3.less fun i hi=>hi.imp (fun e=>e) fun e=>⟨Nat.le_trans k.size e.1,e.2⟩,h4⟩
def zhj(CS:zba)(w:World)(e:Ending)(w':World):Prop :=
 Keep w w'∧((∃ x:RcV,e=.returned (.tuple #[.pointer none,x.val]))∨∃ q M L X x Q P,e=.returned (.tuple #[.pointer (some ⟨q,0,none⟩),(x:RcV).val])∧St CS w 2 q M L X w' x Q P∧M.length≤20∧L.length≤40)
theorem zev(kw:Keep w w1){b:Nat}{z:RcV}(hb:w1.heap[b]?=some (.cells z.arr 30 (0,0)))(hw:w.heap.size≤b)(x:RcV):zhj CS w (.returned (.tuple #[.pointer none,x.val])) (zan w1 b x).drew∧(zan w1 b x).heap[b]?=some (.cells x.arr 30 (0,0)):=
 ⟨⟨(zbh _ kw hw).drew,Or.inl ⟨x,rfl⟩⟩,zbm _ _ hb⟩
theorem zrp(C:Con CS){b5 b7:Nat}{z:RcV}(h:St (Bf CS [(b7,.cells x.arr 30 (0,0)),(b5,.cells z.arr 30 (0,0))]) w 2 q M L X w1 x Q P)(hne:b7≠b5)(hM:M.length≤20)(hL:L.length≤40):
  zhj CS w (.returned (.tuple #[.pointer (some ⟨q,0,none⟩),x.val])) (zan w1 b5 x).drew∧(zan w1 b5 x).heap[b5]?=some (.cells x.arr 30 (0,0)):=by
 have B5:=h.o.2 b5 _ in1;have B7:=h.o.2 b7 _ in0;have E5:(zan w1 b5 x).heap[b5]?=some (.cells x.arr 30 (0,0)):=zbm _ _ B5.1;have kw:Keep w (zan w1 b5 x):=zbh _ (C.kp h.o.1) B5.2.2;have S:=zhc (G:=[(b7,.cells x.arr 30 (0,0)),(b5,.cells x.arr 30 (0,0))]) C h kw (Nat.le_of_eq (zct _ _ _).symm) (fun k hk=>zar _ fun e=>hk (.cells z.arr 30 (0,0)) (by rw[e];exact in1)) fun i o hi=>by
  rcases List.mem_cons.1 hi with e | e
  ·cases e
   exact⟨(zar _ hne).trans B7.1,_,in0⟩
  ·cases List.mem_singleton.1 e
   exact⟨E5,_,in1⟩
 exact⟨⟨kw.drew,Or.inr ⟨q,M,L,_,x,Q,P,rfl,(abm S).keep C (Keep.refl _).drew,hM,hL⟩⟩,E5⟩
end
end Go.Proofs.YtihjgcibpfajkaaGreatDoor.T15
