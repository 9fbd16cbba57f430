/-
  The law's Build, and what it says of the pods' priorities. Condition: errors.errorType holds its own.
-/
import Derived.Test.YtcogiogjpbkeaaaGreatDoorJ0
import Derived.Test.YtcogiogjpbkeaaaGreatDoorJ16
namespace Go.Proofs.YtcogiogjpbkeaaaGreatDoor.T18
open Go.RowKit Go.Sort Go.Lib V12 T13 T14 T15
def PrB(L:List zaa):Prop:=∀ y∈L,-1073741824<=y.p/\y.p<=1073741824
def zir(L:List zaa)(j:Nat):Prop:=L.length<=j/\PrB L
theorem zir.nil:zir [] 0:=⟨Nat.le_refl _,fun _ h=>by cases h⟩
theorem zir.sub{L:List zaa}{j d:Nat}{x:zaa}(h:zir L j)(hx:-1073741824<=x.p/\x.p<=1073741824):zir (sbL L d x) (j+1):=by
 refine⟨Nat.le_trans aid (Nat.succ_le_succ h.1),fun y hy=>?_⟩
 unfold sbL at hy
 split at hy
 ·exact h.2 y hy
 ·unfold zfs at hy
  split at hy
  ·rcases List.mem_append.1 hy with hy | hy
   ·exact h.2 y hy
   ·rw[List.mem_singleton.1 hy]
    exact hx
  ·exact h.2 y hy
theorem zww{L:List zaa}{id e nd dl:Int}(h:PrB L):PrB (zde L id e nd dl):=fun y hy=>by
 unfold zde at hy
 split at hy
 ·obtain⟨z,hz,rfl⟩:=List.mem_map.1 hy
  split
  ·exact h z hz
  ·exact h z hz
 ·exact h y hy
theorem abx{M:List NV}{L:List zaa}{d:Nat}{id nd e:Int}(h:PrB L):PrB (plL M L d id nd e):=by
 unfold plL
 split
 ·exact zww h
 ·exact h
theorem alc{L:List zaa}{id e dl:Int}(h:PrB L):PrB (cgL L id e dl):=by
 unfold cgL
 split
 ·exact zww h
 ·exact h
theorem zir.st{M:List NV}{L:List zaa}{j d:Nat}{id nd ev:Int}(h:zir L j):zir (stL d M L id nd ev) j:=by
 refine⟨by rw[aij];exact h.1,?_⟩
 unfold stL
 split
 ·exact abx h.2
 ·split
  ·exact abx h.2
  ·exact alc h.2
def ziq(CS:zbn)(w:World)(e:Ending)(w':World):Prop :=
 Keep w w'/\((∃ x:RcV,e=.returned (.tuple #[.pointer none,x.val]))\/∃ q M L X x Q P,e=.returned (.tuple #[.pointer (some ⟨q,0,none⟩),(x:RcV).val])/\St CS w 2 q M L X w' x Q P/\M.length<=20/\zir L 40)
section
variable{CS:zbn}{w:World}{q:Nat}{M:List NV}{L:List zaa}{X:Nat->Prop}{w1:World}{x:RcV}{Q:Nat->C14.NdC}{P:Nat->zaa}
theorem zfg(kw:Keep w w1){b:Nat}{z:RcV}(hb:w1.heap[b]?=some (.cells z.arr 30 (0,0)))(hw:w.heap.size<=b)(x:RcV):ziq CS w (.returned (.tuple #[.pointer none,x.val])) (zav w1 b x).drew/\(zav w1 b x).heap[b]?=some (.cells x.arr 30 (0,0)):=
 ⟨⟨(zbz _ kw hw).drew,Or.inl ⟨x,rfl⟩⟩,zce _ _ hb⟩
theorem ztu(C:Con CS){b5 b7:Nat}{z:RcV}(h:St (Bf CS [(b7,.cells x.arr 30 (0,0)),(b5,.cells z.arr 30 (0,0))]) w 2 q M L X w1 x Q P)(hne:b7≠b5)(hM:M.length<=20)(hL:zir L 40):
  ziq CS w (.returned (.tuple #[.pointer (some ⟨q,0,none⟩),x.val])) (zav w1 b5 x).drew/\(zav w1 b5 x).heap[b5]?=some (.cells x.arr 30 (0,0)):=by
 have B5:=h.o.2 b5 _ in1;have B7:=h.o.2 b7 _ in0;have E5:(zav w1 b5 x).heap[b5]?=some (.cells x.arr 30 (0,0)):=zce _ _ B5.1;have kw:Keep w (zav w1 b5 x):=zbz _ (C.kp h.o.1) B5.2.2;have S:=zjy (G:=[(b7,.cells x.arr 30 (0,0)),(b5,.cells x.arr 30 (0,0))]) C h kw (Nat.le_of_eq (zdu _ _ _).symm) (fun k hk=>zbd _ fun e=>hk (.cells z.arr 30 (0,0)) (by rw[e];exact in1)) fun i o hi=>by
  rcases List.mem_cons.1 hi with e | e
  ·cases e
   exact⟨(zbd _ hne).trans B7.1,_,in0⟩
  ·cases List.mem_singleton.1 e
   exact⟨E5,_,in1⟩
 exact⟨⟨kw.drew,Or.inr ⟨q,M,L,_,x,Q,P,rfl,(ajf S).keep C (Keep.refl _).drew,hM,hL⟩⟩,E5⟩
end
set_option maxRecDepth 100000 in
set_option maxHeartbeats 32000000 in
theorem zgj{CS:zbn}(C:Con CS)(N:zhj CS)(A:Option Addr)(n c:Nat)(Pn:Nat->C14.NdC)(B:Option Addr)(m e:Nat)(Pp:Nat->PlV)(w:World)(hN:C14.RdC w A n Pn)(hP:zob w B m Pp)(hg:zbk w):
  Calls Tryz.prog 8 #[.slice A n c,.slice B m e] w (ziq CS w):=by
 have sn:=hN.row.small;have sm:=hP.small;have cN:Hid (∀ W0,W0=w.alloc (.cells zrc.arr 30)->Calls Tryz.prog 26 #[.int .i64 2] W0 fun e w'=>∃ q,e=.returned (.pointer (some ⟨q,0,none⟩))/\CS w 2 q [] [] (fun i=>i=w.heap.size) w'/\Keep W0 w'):=fun W0 h0=>N 2 w W0 _ (by rw[h0];exact Keep.one _ _) (fun i hi=>by rw[h0,World.size_alloc,hi];exact Nat.lt_succ_self _) (by omega)
 obtain⟨W0,hW0⟩:=Zn (w.alloc (.cells zrc.arr 30));have cN:=Zq (cN.out W0 hW0);have Z0:Hid (W0.heap[w.heap.size]?=some (.cells zrc.arr 30 (0,0))):=by rw[hW0];exact heap_alloc_new _ _
 have K0:Hid (Keep w W0):=by rw[hW0];exact Keep.one _ _
 replace hN:=Zq hN;replace hP:=Zq hP;replace hg:=Zq hg;unfold zrc RcV.arr at hW0;simp only at hW0
 go_enter Tryz.func8,Tryz.ntmps8
 go_wp2_with fail;rw[<- hW0];refine cN.out.mono ?_;rintro e' w1 ⟨q,rfl,o1,k1⟩;have S1:=adv C o1 (Keep.block k1 Z0.out) (Nat.le_refl _);replace hW0:=Zq hW0;clear cN o1;obtain⟨b5,hb5⟩:=Zn (w.heap.size);rw[<- hb5] at S1 ⊢;have l5:Hid (w.heap.size<=b5):=by rw[hb5];exact Nat.le_refl _
 have S2:=zev C S1 (.cells (⟨2,none,0,0,none,0,0⟩:RcV).arr 30);obtain⟨b7,hb7⟩:=Zn (w1.heap.size);have hne:Hid (b7≠b5):=by
  have:=lt_of_block (S1.o.2 b5 _ in0).1;show _≠_
  omega
 obtain⟨w2,hw2⟩:=Zn (w1.alloc (.cells (⟨2,none,0,0,none,0,0⟩:RcV).arr 30));rw[<- hw2,<- hb7] at S2;have S2:=Zq S2;replace k1:=Zq k1;replace hb5:=Zq hb5;clear S1 Z0;unfold RcV.arr at hw2;simp only at hw2
 by_cases hn20:20<n
 ·have q20:decide ((20:Int)<(n:Int))=true:=decide_eq_true (by omega)
  replace hn20:=Zq hn20;go_upto_region 4 with fail
  rw[<- hw2,<- hb7];replace hw2:=Zq hw2;replace hb7:=Zq hb7;obtain⟨a0,a1,a2,_⟩:=zab (S2.out.o.2 b7 _ in0).1;obtain⟨z0,z1,z2,zf⟩:=zab (S2.out.o.2 b5 _ in1).1;unfold zrc at z0 z1 z2;simp only at z0 z1 z2;obtain⟨f1,f2⟩:=zfg (CS:=CS) (C.kp S2.out.o.1) (S2.out.o.2 b5 _ in1).1 (S2.out.o.2 b5 _ in1).2.2 ⟨2,none,0,0,none,0,0⟩;have f1:=Zq f1;have f2:=Zq f2;go_upto_region 4 with fail
  go_region
  go_wp2;obtain⟨e0,e1,e2,_⟩:=zab f2.out;have f1:=f1.out;unfold RcV.val at f1;simp only[zav] at e0 e1 e2 f1;refine bodyPost_ret (v:=.tuple #[.pointer none,.agg #[.int .i64 2,.slice none 0 0,.slice none 0 0]]) (by simp[results,Tryz.results8,go_sem,e0,e1,e2]) rfl f1
 ·have q20:decide ((20:Int)<(n:Int))=false:=decide_eq_false (by omega)
  by_cases hm40:40<m
  ·have q40:decide ((40:Int)<(m:Int))=true:=decide_eq_true (by omega)
   replace hn20:=Zq hn20;replace hm40:=Zq hm40;go_upto_region 4 with fail
   rw[<- hw2,<- hb7];replace hw2:=Zq hw2;replace hb7:=Zq hb7;obtain⟨a0,a1,a2,_⟩:=zab (S2.out.o.2 b7 _ in0).1;obtain⟨z0,z1,z2,zf⟩:=zab (S2.out.o.2 b5 _ in1).1;unfold zrc at z0 z1 z2;simp only at z0 z1 z2;obtain⟨f1,f2⟩:=zfg (CS:=CS) (C.kp S2.out.o.1) (S2.out.o.2 b5 _ in1).1 (S2.out.o.2 b5 _ in1).2.2 ⟨2,none,0,0,none,0,0⟩;have f1:=Zq f1;have f2:=Zq f2;go_upto_region 4 with fail
   go_region
   go_wp2;obtain⟨e0,e1,e2,_⟩:=zab f2.out;have f1:=f1.out;unfold RcV.val at f1;simp only[zav] at e0 e1 e2 f1;refine bodyPost_ret (v:=.tuple #[.pointer none,.agg #[.int .i64 2,.slice none 0 0,.slice none 0 0]]) (by simp[results,Tryz.results8,go_sem,e0,e1,e2]) rfl f1
  ·have q40:decide ((40:Int)<(m:Int))=false:=decide_eq_false (by omega)
   have n20:Hid (n<=20):=by show _<=_;omega
   have m40:Hid (m<=40):=by show _<=_;omega
   go_wp2;rw[<- hw2,<- hb7];replace hw2:=Zq hw2;replace hb7:=Zq hb7
   go_loopg [8] n (fun gx s8 wr=>∃ (j:Nat) (x:RcV) (M:List NV) (Q:Nat->C14.NdC) (X:Nat->Prop),j<=n/\gx=n - j/\s8=.int .i64 j/\Hid (St (Bf CS [(b7,.cells x.arr 30 (0,0)),(b5,.cells zrc.arr 30 (0,0))]) w 2 q M [] X wr x Q (fun _=>zaf))/\Hid (M.length<=j))
   case atStart=>exact⟨0,_,[],_,_,Nat.zero_le _,rfl,rfl,S2.out,Nat.le_refl _⟩
   case round =>
    clear S2;obtain⟨j,x,M,Q,X,hj,rfl,rfl,ST,LE⟩:=hrel
    by_cases hlt:j<n
    ·obtain⟨bn,off,hA,_⟩:=hN.out.row.adr (by omega)
     subst hA;have q1:=C14.atN bn off n c j hlt;obtain⟨y,hy⟩:=Zn (Pn j);obtain⟨oo,hoo⟩:=Zn (off+j * 2);have atW:Hid (∀ W,Keep w W->C14.CelN W bn oo y):=fun W k=>by
      obtain⟨b',off',e1,ca⟩:=(hN.out.row.keep k).adr (by omega)
      cases e1
      rw[hy,hoo];exact ca j hlt
     have yv:Hid (Rd w y.A y.n y.C):=by rw[hy];exact hN.out.rd j hlt
     have ynil:Hid (y.A=none->y.n=0/\y.c=0):=by rw[hy];exact hN.out.nil j hlt
     have yk:Hid (I64 y.k):=by rw[hy];exact(hN.out.row.ok j hlt).k
     rw[<- hoo] at q1;replace hy:=Zq hy;replace hoo:=Zq hoo;have KR:Hid (Keep w wr):=C.kp ST.out.o.1;have y1:=(atW.out wr KR.out).e1
     by_cases h20:20<y.n
     ·have q21:decide ((20:Int)<(y.n:Int))=true:=decide_eq_true (by omega)
      replace h20:=Zq h20;obtain⟨a0,a1,a2,_⟩:=zab (ST.out.o.2 b7 _ in0).1;obtain⟨z0,z1,z2,zf⟩:=zab (ST.out.o.2 b5 _ in1).1;unfold zrc at z0 z1 z2;simp only at z0 z1 z2;obtain⟨f1,f2⟩:=zfg (CS:=CS) (C.kp ST.out.o.1) (ST.out.o.2 b5 _ in1).1 (ST.out.o.2 b5 _ in1).2.2 x;have f1:=Zq f1;have f2:=Zq f2;go_upto_region 9 with fail
      go_region
      go_wp2;obtain⟨e0,e1,e2,_⟩:=zab f2.out;have f1:=f1.out;unfold RcV.val at f1;simp only[zav] at e0 e1 e2 f1;refine bodyPost_ret (v:=.tuple #[.pointer none,.agg #[.int .i64 x.d,.slice x.A x.n x.c,.slice x.B x.m x.e]]) (by simp[results,Tryz.results8,go_sem,e0,e1,e2]) rfl f1
     ·have q21:decide ((20:Int)<(y.n:Int))=false:=decide_eq_false (by omega)
      have BW:Hid (wr.heap[b7]?=some (.cells x.arr 30 (0,0))):=(ST.out.o.2 b7 _ in0).1;have l7:Hid (w.heap.size<=b7):=(ST.out.o.2 b7 _ in0).2.2;have HS:Hid (∀ W,Keep w W->W.heap[b7]?=some (.cells x.arr 30 (0,0))->(W.cell? ⟨b7,0,none⟩=some (.int .i64 x.d)/\W.cell? ⟨b7,1,none⟩=some (.slice x.A x.n x.c)/\W.cell? ⟨b7,2,none⟩=some (.slice x.B x.m x.e)/\W.cell? ⟨bn,oo,none⟩=some (.int .i64 y.k)/\W.cell? ⟨bn,oo+1,none⟩=some (.slice y.A y.n y.c))):=fun W KW HB=>⟨(zab HB).1,(zab HB).2.1,(zab HB).2.2.1,(atW.out W KW).e0,(atW.out W KW).e1⟩
      have lM:=ST.out.lenM;obtain⟨ad,had⟩:=Zn (adC M 2 y.k y.n y.C);obtain⟨wi,hwi⟩:=Zn (wrI 2 y.n y.C);have cR:Hid (∀ W,Keep wr W->Calls Tryz.prog 27 #[x.val,y.val] W fun e' w'=>∃ x' Q',e'=.returned (.tuple #[(x':RcV).val,.int .i64 ad,.int .i64 wi])/\Keep wr w'/\x'.d=(2:Nat)/\(x'.B=x.B/\x'.m=x.m/\x'.e=x.e)/\C14.RN w (fun i=>X i\/(wr.heap.size<=i/\i<w'.heap.size)) w' x'.A x'.c x'.n Q'/\(C14.lst Q' x'.n).map nv=adL M 2 y.k y.n y.C/\∀ j,j<x'.n->(Q' j).n=2):=fun W k=>by
       rw[had,hwi];exact ald (zel C) ST.out (by have:=LE.out;omega) y yv.out ynil.out yk.out k
      have l100:Hid (M.length<=100):=by have:=LE.out;show _<=_;omega
      have y20:Hid (y.n<=1000):=by show _<=_;omega
      replace h20:=Zq h20;replace had:=Zq had;replace hwi:=Zq hwi;replace lM:=Zq lM;unfold RcV.val C14.NdC.val at cR;go_upto_region 10 with fail
      have HELD:∀ Wz,Keep wr Wz->(Wz.cell? ⟨b7,0,none⟩=some (.int .i64 x.d)/\Wz.cell? ⟨b7,1,none⟩=some (.slice x.A x.n x.c)/\Wz.cell? ⟨b7,2,none⟩=some (.slice x.B x.m x.e)/\Wz.cell? ⟨bn,oo,none⟩=some (.int .i64 y.k)/\Wz.cell? ⟨bn,oo+1,none⟩=some (.slice y.A y.n y.c)):=fun Wz KK=>(HS.out Wz (KR.out.trans KK) ((zdy KK (lt_of_block BW.out)).trans BW.out))
      refine OrdS.rest_start (fun w'=>w'.cell? ⟨b7,0,none⟩=some (.int .i64 x.d)/\w'.cell? ⟨b7,1,none⟩=some (.slice x.A x.n x.c)/\w'.cell? ⟨b7,2,none⟩=some (.slice x.B x.m x.e)/\w'.cell? ⟨bn,oo,none⟩=some (.int .i64 y.k)/\w'.cell? ⟨bn,oo+1,none⟩=some (.slice y.A y.n y.c)) [7,8,9,10] (by kernel_rfl) ?_ (fun hHeld=>?_)
      ·exact HELD _ (Keep.refl wr).drew
      obtain⟨wt0,hwt0⟩:=Zn (wr.drew);have Kwt0:Hid (Keep wr wt0):=by rw[hwt0];exact(Keep.refl _).drew
      rw[<- hwt0] at hHeld ⊢;replace hwt0:=Zq hwt0;refine OrdS.rt 0 (.agg #[.int .i64 x.d,.slice x.A x.n x.c,.slice x.B x.m x.e]) hHeld ?_
      simp only[Act.put,Zp];refine OrdS.rt 1 (.slice (some ⟨bn,off,none⟩) n c) hHeld ?_
      simp only[Act.put,Zp];refine OrdS.rt 2 (.int .i64 j) hHeld ?_
      simp only[Act.put,Zp];refine OrdS.rt 3 (.pointer (some ⟨bn,oo,none⟩)) hHeld ?_
      simp only[Act.put,Zp];refine OrdS.rt 4 (.agg #[.int .i64 y.k,.slice y.A y.n y.c]) hHeld ?_
      simp only[Act.put,Zp];refine OrdS.rest_ready (rs:=[5]) (by kernel_rfl) (by simp) ?_
      refine OrdS.Each.cons rfl (fun K hK=>?_) OrdS.Each.nil
      simp only[Zp];rw[if_pos (by rfl)]
      go_simp
      refine(cR.out _ Kwt0.out).mono ?_;rintro e' w4 ⟨x',Q2,rfl,k4,xd,xB,rn,em,dn⟩;replace k4:=Zq k4;replace xd:=Zq xd;replace xB:=Zq xB;replace rn:=Zq rn;replace em:=Zq em;replace dn:=Zq dn;have KW4:Hid (Keep w w4):=KR.out.trans k4.out;go_wp2_with fail;refine hK.out _ _ (fun _=>HELD w4 k4.out) ?_
      have hHeld:=HELD w4 k4.out;clear hK K;try simp only[Act.put,Zp]
      refine OrdS.rt 6 (.tuple #[.agg #[.int .i64 x'.d,.slice x'.A x'.n x'.c,.slice x'.B x'.m x'.e],.int .i64 ad,.int .i64 wi]) hHeld ?_
      simp only[Act.put,Zp];refine OrdS.rest_takeP (i:=7) (v:=.agg #[.int .i64 x'.d,.slice x'.A x'.n x'.c,.slice x'.B x'.m x'.e]) rfl (by kernel_rfl) (by kernel_rfl) (by kernel_rfl) (by kernel_rfl) (fun _ _ _ h=>h) (Or.inl ⟨by rfl,fun Wz _=>by go_simp⟩) ?_
      simp only[Act.put,Zp];refine OrdS.rest_takeP (i:=8) (v:=.int .i64 ad) rfl (by kernel_rfl) (by kernel_rfl) (by kernel_rfl) (by kernel_rfl) (fun _ _ _ h=>h) (Or.inl ⟨by rfl,fun Wz _=>by go_simp⟩) ?_
      simp only[Act.put,Zp];refine OrdS.rest_takeP (i:=9) (v:=.int .i64 wi) rfl (by kernel_rfl) (by kernel_rfl) (by kernel_rfl) (by kernel_rfl) (fun _ _ _ h=>h) (Or.inl ⟨by rfl,fun Wz _=>by go_simp⟩) ?_
      simp only[Act.put,Zp];refine OrdS.rest_ready (rs:=[10]) (by kernel_rfl) (by simp) ?_
      refine OrdS.Each.cons rfl (fun K hK=>?_) OrdS.Each.nil
      simp only[Zp];rw[if_pos (by rfl)]
      obtain⟨t0,t1,t2,tf⟩:=zab (k4.out.block BW.out)
      go_simp
      refine hK.out _ _ (fun e=>absurd (by simp) e) ?_
      clear hK K;refine OrdS.rest_done (by kernel_rfl) ?_ _
      clear hHeld HELD Kwt0 hwt0 tf t0 t1 t2 y1 cR;obtain⟨w5,hw5⟩:=Zn (zav w4 b7 x')
      obtain⟨o5,fin⟩:=adw (G:=[(b7,.cells x'.arr 30 (0,0)),(b5,.cells zrc.arr 30 (0,0))]) (L2:=[]) (x':=x') (w5:=w5) C ST.out k4.out xd.out rn.out em.out dn.out (by rw[xB.out.1,xB.out.2.1,xB.out.2.2];exact(ST.out.rl.keep k4.out).less fun _=>Or.inl) (by rw[xB.out.2.1];exact ST.out.el) (by rw[hw5];exact zbz _ KW4.out l7.out) (Nat.le_of_eq (by rw[hw5,zdu])) (fun k hk=>by rw[hw5];exact zbd _ fun e=>hk (.cells x.arr 30 (0,0)) (by rw[e];exact in0)) (fun i o hi=>by
       rcases List.mem_cons.1 hi with e | e
       ·cases e
        exact⟨by rw[hw5];exact zce _ _ (k4.out.block BW.out),_,in0⟩
       ·cases List.mem_singleton.1 e
        exact⟨by rw[hw5];exact(zbd _ (Ne.symm hne.out)).trans (k4.out.block (ST.out.o.2 b5 _ in1).1),_,in1⟩)
      have fin:=Zq fin;have K5:Hid (Keep w w5):=C.kp o5.1;have cA:=Zq ((zel C).addNode y.k y.A y.n y.c y.C o5 (hg.out.keep K5.out) (yv.out.keep K5.out) ynil.out yk.out y20.out l100.out);replace o5:=Zq o5;have v0:=(atW.out w5 K5.out).e0;have v1:=(atW.out w5 K5.out).e1;have hw5e:=hw5;unfold zav at hw5e;rw[hw5e] at v0 v1;replace hw5:=Zq hw5;go_wp2_with fail;rw[<- hw5e];replace hw5e:=Zq hw5e;clear v0 v1;refine cA.out.mono ?_;rintro e' w6 ⟨rfl,o6,sx⟩;have ST6:=Zq (fin.out w6 o6 sx);have LE6:Hid ((adL M 2 y.k y.n y.C).length<=j+1):=Nat.le_trans afh (Nat.succ_le_succ LE.out);clear o6 sx cA;go_wp2;go_roundg (n - (j+1))
      case measure=>omega
      case rel=>exact⟨j+1,x',_,Q2,_,hlt,rfl,by go_num,ST6.out,LE6.out⟩
    ·obtain rfl:j=n:=by omega
     have LM:Hid (M.length<=20):=Nat.le_trans LE.out n20.out;have ST0:=ST;have lL0:([]:List zaa).length=x.m:=ST0.out.lenL;clear ST LE lL0;obtain⟨x0,hx0⟩:=Zn (x);subst hx0;generalize hwo:wr=wo at *;clear hwo;go_wp2
     go_loopg [9,10,11] m (fun gx s9 _ _ wr=>∃ (j:Nat) (x:RcV) (L:List zaa) (X:Nat->Prop) (P:Nat->zaa),j<=m/\gx=m - j/\s9=.int .i64 j/\Hid (St (Bf CS [(b7,.cells x.arr 30 (0,0)),(b5,.cells zrc.arr 30 (0,0))]) w 2 q M L X wr x Q P)/\Hid (zir L j))
     case atStart=>exact⟨0,x0,[],X,_,Nat.zero_le _,rfl,rfl,ST0.out,zir.nil⟩
     case round =>
      clear ST0;obtain⟨j,x,L,X,P,hj,rfl,rfl,ST,LE⟩:=hrel
      by_cases hlt:j<m
      ·obtain⟨bp,off,hB,_⟩:=hP.out.adr (by omega)
       subst hB;have q1:=amt bp off m e j hlt;obtain⟨o,ho⟩:=Zn (Pp j);obtain⟨oo,hoo⟩:=Zn (off+j * 11);have KR:Hid (Keep w wr):=C.kp ST.out.o.1;have V:zmf wr bp oo o:=by
        obtain⟨b',off',e1,ca⟩:=(hP.out.keep KR.out).adr (by omega)
        cases e1
        rw[ho,hoo];exact ca j hlt
       have oi:zrd w o:=by rw[ho];exact hP.out.is j hlt
       have ox:Hid (zah w o.x):=oi.x;have ik:Hid (I64 o.x.k):=oi.x.rng.1;have ind:Hid (I64 o.nd):=oi.n;have ov:Hid (Rd w o.A o.n o.V):=oi.v;clear oi;rw[<- hoo] at q1;replace ho:=Zq ho;replace hoo:=Zq hoo;have z0:=V.x.e0;have z1:=V.x.e1;have z2:=V.x.e2;have z3:=V.x.e3;have z4:=V.x.e4;have z5:=V.x.e5;have z6:=V.x.e6;have z7:=V.x.e7;have z8:=V.x.e8;have z9:=V.n;have z10:=V.v;clear V;obtain⟨b10,hb10⟩:=Zn (wr.heap.size);obtain⟨W1,hW1⟩:=Zn (wr.alloc (.cells o.arr 63));have S3:=zev C ST.out (.cells o.arr 63);rw[<- hW1,<- hb10] at S3;obtain⟨W2,hW2⟩:=Zn (W1.alloc (.cells (zac o.x) 26));have k2:Hid (Keep W1 W2):=by rw[hW2];exact Keep.one _ _
       have S4:=Zq (S3.keep (zel C) k2.out);have B2:Hid (W2.heap[W1.heap.size]?=some (.cells (zac o.x) 26 (0,0))):=by rw[hW2];exact heap_alloc_new _ _
       have s1:W1.heap.size=b10+1:=by rw[hW1,World.size_alloc,hb10]
       rw[s1] at B2;have n710:Hid (b7≠b10):=by
        have:=lt_of_block (ST.out.o.2 b7 _ in0).1;show _≠_
        omega
       have n510:Hid (b5≠b10):=by
        have:=lt_of_block (ST.out.o.2 b5 _ in1).1;show _≠_
        omega
       obtain⟨fb,hfb⟩:=zhx o.x;have cF:=Zq (zif (some ⟨b10+1,0,none⟩) 1 1 (fun _=>o.x) W2 (zff B2.out (ox.out.keep (C.kp S4.out.o.1))) fb hfb)
       have D0:zmf W1 b10 0 o:=zgk (S3.o.2 b10 _ in0).1;have d0:=D0.x.e0;have d1:=D0.x.e1;have d2:=D0.x.e2;have d3:=D0.x.e3;have d4:=D0.x.e4;have d5:=D0.x.e5;have d6:=D0.x.e6;have d7:=D0.x.e7;have d8:=D0.x.e8;simp only[Nat.zero_add] at d1 d2 d3 d4 d5 d6 d7 d8;clear D0 S3;rw[hW1] at d0 d1 d2 d3 d4 d5 d6 d7 d8;have hW2e:=hW2;rw[hW1] at hW2e;unfold PlV.arr at hW2e d0 d1 d2 d3 d4 d5 d6 d7 d8;unfold zac at hW2e;replace hW1:=Zq hW1;replace hW2:=Zq hW2;replace hfb:=Zq hfb;replace s1:=Zq s1;go_wp2_with fail;rw[<- hW2e,<- hb10];replace hW2e:=Zq hW2e;replace hb10:=Zq hb10;refine cF.out.mono ?_;rintro e' w3 ⟨rfl,rfl⟩;clear d0 d1 d2 d3 d4 d5 d6 d7 d8 z0 z1 z2 z3 z4 z5 z6 z7 z8 z9 z10 cF;cases fb with
       | false =>
         obtain⟨a0,a1,a2,_⟩:=zab (S4.out.o.2 b7 _ in1).1;obtain⟨z0,z1,z2,zf⟩:=zab (S4.out.o.2 b5 _ in2).1;unfold zrc at z0 z1 z2;simp only at z0 z1 z2;obtain⟨f1,f2⟩:=zfg (CS:=CS) (C.kp S4.out.o.1) (S4.out.o.2 b5 _ in2).1 (S4.out.o.2 b5 _ in2).2.2 x;have f1:=Zq f1;have f2:=Zq f2;go_upto_region 17 with fail
         go_region
         go_wp2;obtain⟨e0,e1,e2,_⟩:=zab f2.out;have f1:=f1.out;unfold RcV.val at f1;simp only[zav] at e0 e1 e2 f1;refine bodyPost_ret (v:=.tuple #[.pointer none,.agg #[.int .i64 x.d,.slice x.A x.n x.c,.slice x.B x.m x.e]]) (by simp[results,Tryz.results8,go_sem,e0,e1,e2]) rfl f1
       | true =>
         have fx:=Zq (hfb.out.1 rfl);have D:=zgk (S4.out.o.2 b10 _ in0).1;have d10:=D.v;simp only[Nat.zero_add] at d10
         by_cases h20:20<o.n
         ·have q22:decide ((20:Int)<(o.n:Int))=true:=decide_eq_true (by omega)
          replace h20:=Zq h20;clear D;obtain⟨a0,a1,a2,_⟩:=zab (S4.out.o.2 b7 _ in1).1;obtain⟨z0,z1,z2,zf⟩:=zab (S4.out.o.2 b5 _ in2).1;unfold zrc at z0 z1 z2;simp only at z0 z1 z2;obtain⟨f1,f2⟩:=zfg (CS:=CS) (C.kp S4.out.o.1) (S4.out.o.2 b5 _ in2).1 (S4.out.o.2 b5 _ in2).2.2 x;have f1:=Zq f1;have f2:=Zq f2;go_upto_region 17 with fail
          go_region
          go_wp2;obtain⟨e0,e1,e2,_⟩:=zab f2.out;have f1:=f1.out;unfold RcV.val at f1;simp only[zav] at e0 e1 e2 f1;refine bodyPost_ret (v:=.tuple #[.pointer none,.agg #[.int .i64 x.d,.slice x.A x.n x.c,.slice x.B x.m x.e]]) (by simp[results,Tryz.results8,go_sem,e0,e1,e2]) rfl f1
         ·have q22:decide ((20:Int)<(o.n:Int))=false:=decide_eq_false (by omega)
          have d0:=D.x.e0;have d1:=D.x.e1;have d2:=D.x.e2;have d3:=D.x.e3;have d4:=D.x.e4;have d5:=D.x.e5;have d6:=D.x.e6;have d7:=D.x.e7;have d8:=D.x.e8;simp only[Nat.zero_add] at d1 d2 d3 d4 d5 d6 d7 d8;clear D;replace h20:=Zq h20;have lL:=ST.out.lenL;have cR:=Zq (alh (zel C) S4.out (by have:=LE.out.1;omega) o.x ox.out (Keep.refl _))
          replace lL:=Zq lL;obtain⟨a0,a1,a2,_⟩:=zab (S4.out.o.2 b7 _ in1).1;unfold RcV.val zaa.val at cR;go_wp2_with fail;refine cR.out.mono ?_;rintro e' w4 ⟨x',P2,rfl,k4,xd,xA,rl,el⟩;obtain⟨w5,hw5⟩:=Zn (zav w4 b7 x');have KW4:Hid (Keep w w4):=(C.kp S4.out.o.1).trans k4
          obtain⟨o5,fin⟩:=adw (G:=[(b10,.cells o.arr 63 (0,0)),(b7,.cells x'.arr 30 (0,0)),(b5,.cells zrc.arr 30 (0,0))]) (M2:=M) (x':=x') (w5:=w5) C S4.out k4 xd (by rw[xA.1,xA.2.1,xA.2.2];exact(S4.out.rn.keep k4).less fun _=>Or.inl) (by rw[xA.2.1];exact S4.out.em) (by rw[xA.2.1];exact S4.out.dn) rl el (by rw[hw5];exact zbz _ KW4.out (S4.out.o.2 b7 _ in1).2.2) (Nat.le_of_eq (by rw[hw5,zdu])) (fun t ht=>by rw[hw5];exact zbd _ fun e=>ht (.cells x.arr 30 (0,0)) (by rw[e];exact in1)) (fun i o hi=>by
           rcases List.mem_cons.1 hi with e | e
           ·cases e
            exact⟨by rw[hw5];exact(zbd _ (Ne.symm n710.out)).trans (k4.block (S4.out.o.2 b10 _ in0).1),_,in0⟩
           ·rcases List.mem_cons.1 e with e | e
            ·cases e
             exact⟨by rw[hw5];exact zce _ _ (k4.block (S4.out.o.2 b7 _ in1).1),_,in1⟩
            ·cases List.mem_singleton.1 e
             exact⟨by rw[hw5];exact(zbd _ (Ne.symm hne.out)).trans (k4.block (S4.out.o.2 b5 _ in2).1),_,in2⟩)
          obtain⟨t0,t1,t2,tf⟩:=zab (k4.block (S4.out.o.2 b7 _ in1).1);have K5:Hid (Keep w w5):=C.kp o5.1;have D:=zgk (o5.2 b10 _ in0).1;replace fin:=Zq fin;have cS:=Zq ((zel C).submit o.x o5 (hg.out.keep K5.out) (ox.out.keep K5.out) (by have:=fx.out.m;omega) (by have:=LE.out.1;omega))
          replace o5:=Zq o5;replace k4:=Zq k4;replace xd:=Zq xd;replace xA:=Zq xA;replace rl:=Zq rl;replace el:=Zq el;have g0:=D.x.e0;have g1:=D.x.e1;have g2:=D.x.e2;have g3:=D.x.e3;have g4:=D.x.e4;have g5:=D.x.e5;have g6:=D.x.e6;have g7:=D.x.e7;have g8:=D.x.e8;simp only[Nat.zero_add] at g1 g2 g3 g4 g5 g6 g7 g8;clear D d0 d1 d2 d3 d4 d5 d6 d7 d8 d10 a0 a1 a2 cR;have hw5e:=hw5;unfold zav at hw5e;rw[hw5e] at g0 g1 g2 g3 g4 g5 g6 g7 g8;replace hw5:=Zq hw5;unfold zaa.val at cS;go_wp2_with fail;rw[<- hw5e];replace hw5e:=Zq hw5e;clear g0 g1 g2 g3 g4 g5 g6 g7 g8 t0 t1 t2 tf;refine cS.out.mono ?_;rintro e' w6 ⟨r,rfl,_,_,_,_,o6,sx⟩;have ST6:=Zq (fin.out w6 o6 sx);have LE6:Hid (zir (sbL L 2 o.x) (j+1)):=LE.out.sub ⟨(fx.out.2 0 (by omega)).1,(fx.out.2 0 (by omega)).2.1⟩
          clear o6 sx cS fin;have hj1:j+1<=m:=hlt;go_wp2
          go_loopg [11] o.n (fun gx s11 wr=>∃ (k:Nat) (x:RcV) (L2:List zaa) (X:Nat->Prop) (P:Nat->zaa),k<=o.n/\gx=o.n - k/\s11=.int .i64 k/\Hid (St (Bf CS [(b10,.cells o.arr 63 (0,0)),(b7,.cells x.arr 30 (0,0)),(b5,.cells zrc.arr 30 (0,0))]) w 2 q M L2 X wr x Q P)/\Hid (zir L2 (j+1)))
          case atStart=>exact⟨0,x',_,_,P2,Nat.zero_le _,rfl,rfl,ST6.out,LE6.out⟩
          case round =>
           clear ST6 LE6 ST LE S4;obtain⟨k,x,L2,X,P,hk0,rfl,rfl,ST,LE⟩:=hrel
           by_cases hk:k<o.n
           ·obtain⟨be,oe,hA,cv⟩:=ov.out.adr (by omega)
            have q2:=amh be oe o.n o.c k hk;obtain⟨u,hu⟩:=Zn (o.V k);have iu:Hid (I64 u):=by rw[hu];exact ov.out.range k hk
            have atV:Hid (∀ W,Keep w W->W.cell? ⟨be,oe+k,none⟩=some (.int .i64 u)):=fun W kk=>by rw[hu];exact kk.cell (cv k hk)
            clear cv;replace hu:=Zq hu;have KR:Hid (Keep w wr):=C.kp ST.out.o.1;have BW:Hid (wr.heap[b7]?=some (.cells x.arr 30 (0,0))):=(ST.out.o.2 b7 _ in1).1;have BO:Hid (wr.heap[b10]?=some (.cells o.arr 63 (0,0))):=(ST.out.o.2 b10 _ in0).1;have HS:Hid (∀ W,Keep w W->W.heap[b7]?=some (.cells x.arr 30 (0,0))->W.heap[b10]?=some (.cells o.arr 63 (0,0))->(W.cell? ⟨b7,0,none⟩=some (.int .i64 x.d)/\W.cell? ⟨b7,1,none⟩=some (.slice x.A x.n x.c)/\W.cell? ⟨b7,2,none⟩=some (.slice x.B x.m x.e)/\W.cell? ⟨b10,0,none⟩=some (.int .i64 o.x.k)/\W.cell? ⟨b10,9,none⟩=some (.int .i64 o.nd)/\W.cell? ⟨b10,10,none⟩=some (.slice (some ⟨be,oe,none⟩) o.n o.c)/\W.cell? ⟨be,oe+k,none⟩=some (.int .i64 u))):=fun W KW HB HO=>by
             have CO:=zgk HO;have h10:=CO.v;rw[hA] at h10;exact⟨(zab HB).1,(zab HB).2.1,(zab HB).2.2.1,CO.x.e0,CO.n,h10,atV.out W KW⟩
            have lM:=ST.out.lenM;have lL:=ST.out.lenL;have cS:Hid (∀ W,Keep wr W->Calls Tryz.prog 31 #[.pointer (some ⟨q,0,none⟩),x.val,.int .i64 o.x.k,.int .i64 o.nd,.int .i64 u] W fun e' w'=>∃ x' P' X',e'=.returned (x':RcV).val/\St (Bf CS [(b10,.cells o.arr 63 (0,0)),(b7,.cells x.arr 30 (0,0)),(b5,.cells zrc.arr 30 (0,0))]) w 2 q M (stL 2 M L2 o.x.k o.nd u) X' w' x' Q P'/\(∀ i,X i->X' i)/\zbe X W w'):=fun W kk=>ail (zel C) (ST.out.keep (zel C) kk) hg.out (by omega) o.x.k o.nd u ik.out ind.out iu.out (by have:=LM.out;omega) (by have:=LE.out.1;omega)
            have hA':=Zq hA;clear hA;replace lM:=Zq lM;replace lL:=Zq lL;have b10v:=(zgk BO.out).v;unfold RcV.val at cS;go_upto_region 23 with fail
            have HELD:∀ Wz,Keep wr Wz->(Wz.cell? ⟨b7,0,none⟩=some (.int .i64 x.d)/\Wz.cell? ⟨b7,1,none⟩=some (.slice x.A x.n x.c)/\Wz.cell? ⟨b7,2,none⟩=some (.slice x.B x.m x.e)/\Wz.cell? ⟨b10,0,none⟩=some (.int .i64 o.x.k)/\Wz.cell? ⟨b10,9,none⟩=some (.int .i64 o.nd)/\Wz.cell? ⟨b10,10,none⟩=some (.slice (some ⟨be,oe,none⟩) o.n o.c)/\Wz.cell? ⟨be,oe+k,none⟩=some (.int .i64 u)):=fun Wz KK=>(HS.out Wz (KR.out.trans KK) ((zdy KK (lt_of_block BW.out)).trans BW.out) ((zdy KK (lt_of_block BO.out)).trans BO.out))
            refine OrdS.rest_start (fun w'=>w'.cell? ⟨b7,0,none⟩=some (.int .i64 x.d)/\w'.cell? ⟨b7,1,none⟩=some (.slice x.A x.n x.c)/\w'.cell? ⟨b7,2,none⟩=some (.slice x.B x.m x.e)/\w'.cell? ⟨b10,0,none⟩=some (.int .i64 o.x.k)/\w'.cell? ⟨b10,9,none⟩=some (.int .i64 o.nd)/\w'.cell? ⟨b10,10,none⟩=some (.slice (some ⟨be,oe,none⟩) o.n o.c)/\w'.cell? ⟨be,oe+k,none⟩=some (.int .i64 u)) [13] (by kernel_rfl) ?_ (fun hHeld=>?_)
            ·exact HELD _ (Keep.refl wr).drew
            obtain⟨wt0,hwt0⟩:=Zn (wr.drew);have Kwt0:Hid (Keep wr wt0):=by rw[hwt0];exact(Keep.refl _).drew
            rw[<- hwt0] at hHeld ⊢;replace hwt0:=Zq hwt0;refine OrdS.rt 0 (.pointer (some ⟨q,0,none⟩)) hHeld ?_
            simp only[Act.put,Zp];refine OrdS.rt 1 (.agg #[.int .i64 x.d,.slice x.A x.n x.c,.slice x.B x.m x.e]) hHeld ?_
            simp only[Act.put,Zp];refine OrdS.rt 2 (.pointer (some ⟨b10,0,none⟩)) hHeld ?_
            simp only[Act.put,Zp];refine OrdS.rt 3 (.pointer (some ⟨b10,0,none⟩)) hHeld ?_
            simp only[Act.put,Zp];refine OrdS.rt 4 (.int .i64 o.x.k) hHeld ?_
            simp only[Act.put,Zp];refine OrdS.rt 5 (.pointer (some ⟨b10,9,none⟩)) hHeld ?_
            simp only[Act.put,Zp];refine OrdS.rt 6 (.int .i64 o.nd) hHeld ?_
            simp only[Act.put,Zp];refine OrdS.rt 7 (.pointer (some ⟨b10,10,none⟩)) hHeld ?_
            simp only[Act.put,Zp];refine OrdS.rt 8 (.slice (some ⟨be,oe,none⟩) o.n o.c) hHeld ?_
            simp only[Act.put,Zp];refine OrdS.rt 9 (.int .i64 k) hHeld ?_
            simp only[Act.put,Zp];refine OrdS.rt 10 (.pointer (some ⟨be,oe+k,none⟩)) hHeld ?_
            simp only[Act.put,Zp];refine OrdS.rt 11 (.int .i64 u) hHeld ?_
            simp only[Act.put,Zp];refine OrdS.rest_ready (rs:=[12]) (by kernel_rfl) (by simp) ?_
            refine OrdS.Each.cons rfl (fun K hK=>?_) OrdS.Each.nil
            simp only[Zp];rw[if_pos (by rfl)]
            go_simp
            refine(cS.out _ Kwt0.out).mono ?_;rintro e' w4 ⟨x',P2,X2,rfl,ST4,XX,SX⟩;replace ST4:=Zq ST4;have KW4:Hid (Keep w w4):=C.kp ST4.out.o.1;go_wp2_with fail;refine hK.out _ _ (fun _=>HS.out w4 KW4.out (ST4.out.o.2 b7 _ in1).1 (ST4.out.o.2 b10 _ in0).1) ?_
            have hHeld:=HS.out w4 KW4.out (ST4.out.o.2 b7 _ in1).1 (ST4.out.o.2 b10 _ in0).1;clear hK K;try simp only[Act.put,Zp]
            refine OrdS.rest_ready (rs:=[13]) (by kernel_rfl) (by simp) ?_
            refine OrdS.Each.cons rfl (fun K hK=>?_) OrdS.Each.nil
            simp only[Zp];rw[if_pos (by rfl)]
            obtain⟨t0,t1,t2,tf⟩:=zab (ST4.out.o.2 b7 _ in1).1
            go_simp
            refine hK.out _ _ (fun e=>absurd (by simp) e) ?_
            clear hK K;refine OrdS.rest_done (by kernel_rfl) ?_ _
            clear hHeld HELD Kwt0 hwt0 tf t0 t1 t2 cS b10v;obtain⟨w5,hw5⟩:=Zn (zav w4 b7 x')
            have ST5:=Zq (zjy (G:=[(b10,.cells o.arr 63 (0,0)),(b7,.cells x'.arr 30 (0,0)),(b5,.cells zrc.arr 30 (0,0))]) C ST4.out (w2:=w5) (by rw[hw5];exact zbz _ KW4.out (ST4.out.o.2 b7 _ in1).2.2) (Nat.le_of_eq (by rw[hw5,zdu])) (fun t ht=>by rw[hw5];exact zbd _ fun e=>ht (.cells x.arr 30 (0,0)) (by rw[e];exact in1)) (fun i o hi=>by
             rcases List.mem_cons.1 hi with e | e
             ·cases e
              exact⟨by rw[hw5];exact(zbd _ (Ne.symm n710.out)).trans (ST4.out.o.2 b10 _ in0).1,_,in0⟩
             ·rcases List.mem_cons.1 e with e | e
              ·cases e
               exact⟨by rw[hw5];exact zce _ _ (ST4.out.o.2 b7 _ in1).1,_,in1⟩
              ·cases List.mem_singleton.1 e
               exact⟨by rw[hw5];exact(zbd _ (Ne.symm hne.out)).trans (ST4.out.o.2 b5 _ in2).1,_,in2⟩))
            have LE5:Hid (zir (stL 2 M L2 o.x.k o.nd u) (j+1)):=LE.out.st;have hw5e:=hw5;unfold zav at hw5e;replace hw5:=Zq hw5;go_wp2_with fail;rw[<- hw5e];replace hw5e:=Zq hw5e;go_roundg (o.n - (k+1))
            case measure=>omega
            case rel =>
             have on20:o.n<=20:=Nat.le_of_not_lt h20.out;exact⟨k+1,x',_,_,P2,hk,rfl,zmc ((IntWalk.wrap64_in _ ⟨by omega,by omega⟩).trans (by omega)),ST5.out,LE5.out⟩
           ·obtain rfl:k=o.n:=by omega
            have b10v:=(zgk (ST.out.o.2 b10 _ in0).1).v;simp only[Nat.zero_add] at b10v
            have ST7:=Zq (aik C ST.out (fun o' ho'=>by
             rcases List.mem_cons.1 ho' with e | e
             ·cases e
              exact n710.out rfl
             ·cases List.mem_singleton.1 e
              exact n510.out rfl))
            go_wp2;go_roundg (m - (j+1))
            case measure=>omega
            case rel=>exact⟨j+1,x,L2,_,P,hj1,rfl,by go_num,ST7.out,LE.out⟩
      ·obtain rfl:j=m:=by omega
       obtain⟨a0,a1,a2,_⟩:=zab (ST.out.o.2 b7 _ in0).1;obtain⟨z0,z1,z2,zf⟩:=zab (ST.out.o.2 b5 _ in1).1;unfold zrc at z0 z1 z2;simp only at z0 z1 z2;obtain⟨f1,f2⟩:=ztu C ST.out hne.out LM.out ⟨Nat.le_trans LE.out.1 m40.out,LE.out.2⟩;have f1:=Zq f1;have f2:=Zq f2;go_upto_region 24 with fail
       go_region
       go_wp2;obtain⟨e0,e1,e2,_⟩:=zab f2.out;have f1:=f1.out;unfold RcV.val at f1;simp only[zav] at e0 e1 e2 f1;refine bodyPost_ret (v:=.tuple #[.pointer (some ⟨q,0,none⟩),.agg #[.int .i64 x.d,.slice x.A x.n x.c,.slice x.B x.m x.e]]) (by simp[results,Tryz.results8,go_sem,e0,e1,e2]) rfl f1
end Go.Proofs.YtcogiogjpbkeaaaGreatDoor.T18
