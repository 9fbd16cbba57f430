/-
  What an iterator over the nodes of a cluster reads, and what the loops over it keep. No condition, no walk.
  The landed filter's iterator: it yields the nodes on which a pod fits, in their order. Conditions: at most 100 nodes and pods, the dimension is at most 64.
  slices.AppendSeq and slices.Collect over an iterator that yields known numbers. Condition: at most 100 of them.
  The landed filter: the iterator's value, Nodes, First. Conditions: at most 100 nodes and pods, the dimension is at most 64.
-/
import Derived.Test.YtihjgcibpfajkaaGreatDoorD18
import Derived.Test.YtihjgcibpfajkaaGreatDoorD27
import Derived.Test.YtihjgcibpfajkaaGreatDoorD43
import Derived.RangeFuncNested
import Derived.RangeFuncBound
import Derived.RangeFuncCalls
import Derived.RangeFuncLeaves
import Derived.RangeFuncBox
import Derived.RangeFuncFrom
import Derived.Shelf.Abstract
import Derived.Shelf.AbstractIn
import Derived.Shelf.RegionOpen
import Derived.WalkKit
import Derived.OwnWalkIn
import Derived.TacticsInMore
import Derived.LoopNIn
import Derived.LoopIn
import Derived.RegionIn
import Derived.Maps.AppendAt
import Derived.Lib.SlKeysI
namespace Go.Proofs.YtihjgcibpfajkaaGreatDoor.T17
open Go.RowKit Go.Sort Go.Lib Go.Shelf V12 T13 T14 T15 T16
def zfj(CS:zba):Prop:=∀ {w d q M L X w1},CS w d q M L X w1→M.length≤100 →
  Calls Tryz.prog 13 #[.pointer (some ⟨q,0,none⟩)] w1 fun e w'=>∃ A c,e=.returned (.slice A M.length c)∧zky w' d A M∧(∀ b o,A=some ⟨b,o,none⟩→Typ w' b 55∧w1.heap.size≤b)∧Keep w1 w'
def KF(bl N0:Nat)(W W':World):Prop:=Fr (fun i=>i=bl∨(N0≤i∧¬Typ W i 55)) W W'
theorem KF.of{bl N0:Nat}{W W':World}(k:Keep W W'):KF bl N0 W W':=Fr.of k
theorem KF.trans{bl N0:Nat}{a b c:World}(h:KF bl N0 a b)(k:KF bl N0 b c):KF bl N0 a c:=by
 refine⟨k.os.trans h.os,k.tape.trans h.tape,k.output.trans h.output,Nat.le_trans h.size k.size,fun i hi hn=>?_⟩
 have e1:=h.block i hi hn;refine(k.block i (Nat.lt_of_lt_of_le hi h.size) fun hd=>hn ?_).trans e1
 rcases hd with hd | ⟨h1,h2⟩
 ·exact Or.inl hd
 ·exact Or.inr ⟨h1,fun ht=>h2 (ht.same e1)⟩
theorem KF.base{bl:Nat}{W0 W W':World}(h:Fr (·=bl) W0 W)(k:KF bl W0.heap.size W W'):Fr (·=bl) W0 W':=h.trans k fun _ hi=>hi.elim Or.inl fun e=>Or.inr e.1
theorem KF.put{bl N0:Nat}{W:World}{l:Nat}{o:Obj}(o':Obj)(hl:N0≤l)(h:W.heap[l]?=some o)(ho:o.isCells=false):KF bl N0 W (W.putObj l o'):=
 Fr.grown (grownBy_putObj' W l o') fun g e=>by
  cases e
  refine Or.inl (Or.inr ⟨hl,fun ⟨cs,loc,e⟩=>?_⟩)
  rw[h] at e;cases e
  cases ho
theorem adx{bl N0:Nat}{W W':World}{A:Option Addr}{n:Nat}{Q:Nat→C14.NdC}(h:C14.RdN W A n Q)(hT:∀ b o,A=some ⟨b,o,none⟩→Typ W b 55∧b≠bl)(k:KF bl N0 W W'):C14.RdN W' A n Q∧∀ b o,A=some ⟨b,o,none⟩→Typ W' b 55∧b≠bl:=by
 have same:∀ b o,A=some ⟨b,o,none⟩→W'.heap[b]?=W.heap[b]?:=fun b o e=>by
  obtain⟨h1,h2⟩:=hT b o e;refine k.block b h1.lt fun hd=>?_
  rcases hd with hd | hd
  ·exact h2 hd
  ·exact hd.2 h1
 refine⟨⟨h.small,fun hn=>?_,h.ok⟩,fun b o e=>⟨(hT b o e).1.same (same b o e),(hT b o e).2⟩⟩
 obtain⟨b,off,e,hc⟩:=h.adr hn;exact⟨b,off,e,fun j hj=>⟨(World.cell?_of_block (same b off e)).trans (hc j hj).e0,(World.cell?_of_block (same b off e)).trans (hc j hj).e1⟩⟩
structure ztp(CS:zba)(W0:World)(bl b1 b2:Nat)(w:World)(d q:Nat)(M:List NV)(L:List zaa)(X:Nat→Prop)(p:zaa):Prop where
 c1:W0.cell? ⟨b1,0,none⟩=some (.pointer (some ⟨q,0,none⟩))∧b1≠bl
 c2:W0.heap[b2]?=some (.cells (zab p) 26 (0,0))∧b2≠bl
 cs:∀ W',Fr (·=bl) W0 W'→CS w d q M L X W'
 pd:∀ W',Fr (·=bl) W0 W'→zaf W' p
 er:∀ W',Fr (·=bl) W0 W'→zaw W'
 lo:bl<W0.heap.size
theorem acv{Q:Nat→C14.NdC}{f:Int→Bool}{j:Nat}(hf:f (Q j).k=true):(((C14.lst Q (j+1)).map C14.NdC.k).filter f)=((C14.lst Q j).map C14.NdC.k).filter f++[(Q j).k]:=by
 rw[C14.lst_succ,List.map_append,List.filter_append,List.map_singleton,List.filter_cons,if_pos hf,List.filter_nil]
theorem acx{Q:Nat→C14.NdC}{f:Int→Bool}{j:Nat}(hf:f (Q j).k=false):(((C14.lst Q (j+1)).map C14.NdC.k).filter f)=((C14.lst Q j).map C14.NdC.k).filter f:=by
 rw[C14.lst_succ,List.map_append,List.filter_append,List.map_singleton,List.filter_cons,if_neg (by rw[hf];decide),List.filter_nil,List.append_nil]
theorem acw{Q:Nat→C14.NdC}{f:Int→Bool}{j:Nat}:(((C14.lst Q j).map C14.NdC.k).filter f).length≤j:=by
 refine Nat.le_trans (List.length_filter_le _ _) ?_;rw[List.length_map,C14.lst_len];exact Nat.le_refl _
theorem zus(Q:Nat→C14.NdC)(f:Int→Bool){j:Nat}:∀ (n:Nat),j≤n→∃ t,((C14.lst Q n).map C14.NdC.k).filter f=((C14.lst Q j).map C14.NdC.k).filter f++t
 | 0,h=>by
   obtain rfl:j=0:=by omega
   exact⟨[],by rw[List.append_nil]⟩
 | n+1,h=>by
   by_cases e:j=n+1
   ·subst e
    exact⟨[],by rw[List.append_nil]⟩
   ·obtain⟨t,ht⟩:=zus Q f n (Nat.lt_succ_iff.1 (Nat.lt_of_le_of_ne h e))
    refine⟨t++([(Q n).k].filter f),?_⟩;rw[C14.lst_succ,List.map_append,List.filter_append,ht,List.append_assoc];rfl
theorem acu{Q:Nat→C14.NdC}{M:List NV}(h:(C14.lst Q M.length).map nv=M)(p:zaa)(L:List zaa)(d:Nat):zbk p M L d=((C14.lst Q M.length).map C14.NdC.k).filter fun k=>zbx no p k M L d:=by
 have e:nk M=(C14.lst Q M.length).map C14.NdC.k:=by
  conv=>lhs;rw[← h]
  show((C14.lst Q M.length).map nv).map NV.k=_
  rw[List.map_map];rfl
 unfold zbk;rw[e]
end Go.Proofs.YtihjgcibpfajkaaGreatDoor.T17
namespace Go.Proofs.YtihjgcibpfajkaaGreatDoor.T17
open Go.RowKit Go.Sort Go.Lib Go.Shelf V12 T13 T14 T15 T16
section
variable{CS:zba}{W0 w:World}{bl b1 b2 d q:Nat}{M:List NV}{L:List zaa}{X:Nat→Prop}{p:zaa}
attribute [local go_sem] Oper.semAt_some
set_option maxRecDepth 100000 in
set_option maxHeartbeats 4000000 in
theorem zyu(FL:zmi CS)(NT:zfj CS)(u:Nat)(hu:1≤u)(l:Nat)(E:ztp CS W0 bl b1 b2 w d q M L X p)(hd:d≤64)(hm:p.m≤1000)(hM:M.length≤100)(hl:L.length≤100)(J Jx:List Int→World→Prop)
  (hY:∀ pre x W,J pre W→pre.length<100→YieldAt Fence.wide (u - 1) Tryz.prog l #[.int .i64 x] W fun e W' =>
   (e=.returned (.bool true)∧J (pre++[x]) W'∧KF bl W0.heap.size W W')∨(e=.returned (.bool false)∧Jx (pre++[x]) W'))
  (W:World) (hJ:AbidesFrom W.heap.size J) (hW:Fr (·=bl) W0 W) (h0:J [] W) :
  CallsIn Fence.wide u Tryz.prog 57 #[.func (.yield l) #[] #[],.pointer (some ⟨b1,0,none⟩),.pointer (some ⟨b2,0,none⟩)] W fun e W'=>(∃ v,e=.returned v) ∧
   ((∃ xs:List Int,xs=zbk p M L d∧J xs W')∨(∃ pre:List Int,(∃ t,zbk p M L d=pre++t)∧Jx pre W')):=by
 have c1:=hW.cell E.c1.1 E.c1.2;have cN:=Lib.hid (NT (E.cs W hW) hM);replace E:=Lib.hid E;obtain⟨n,hn⟩:∃ n,n=M.length:=⟨_,rfl⟩;have hn1:n≤100:=by omega
 rw[← hn] at cN;refine callsIn_of_wp Tryz.func57 rfl trivial ?_ rfl;simp only[Tryz.ntmps57,List.size_toArray,List.length_cons,List.length_nil,Nat.reduceAdd,Nat.reduceSub,Array.replicate_succ,Array.replicate_zero,List.push_toArray,List.append_toArray,List.nil_append,List.cons_append]
 gi_wp2_with fail
 refine⟨trivial,?_⟩;refine(callsIn_wide.2 cN.out).mono ?_;rintro e w1 ⟨A,c,rfl,⟨Q,RQ,EQ,_⟩,TA,k1⟩;have F1:Hid (Fr (·=bl) W0 w1):=hW.keep k1
 have J1:Hid (J [] w1):=hJ [] W w1 none h0 k1.grown (fun r e=>by cases e)
 have S1:Hid (W.heap.size≤w1.heap.size):=k1.size
 have T1:Hid (∀ b o,A=some ⟨b,o,none⟩→Typ w1 b 55∧b≠bl):=fun b o e=>⟨(TA b o e).1,by
  have:=(TA b o e).2;have:=E.out.lo;have:=hW.size
  omega⟩
 have EA:Hid (zbk p M L d=((C14.lst Q n).map C14.NdC.k).filter fun k=>zbx no p k M L d):=by rw[hn];exact acu EQ p L d
 rw[← hn] at RQ;have R1:Hid (C14.RdN w1 A n Q):=RQ.row;clear cN c1 TA k1 RQ EQ;replace hn:=Lib.hid hn
 gi_wp2
 gi_loopw [9] (fun i wr=>∃ (j:Nat) (pre:List Int),j≤n∧i=.int .i64 j∧Hid (pre=((C14.lst Q j).map C14.NdC.k).filter fun k=>zbx no p k M L d)∧Hid (J pre wr)∧Hid (Fr (·=bl) W0 wr)∧Hid (W.heap.size≤wr.heap.size)∧Hid (C14.RdN wr A n Q)∧Hid (∀ b o,A=some ⟨b,o,none⟩→Typ wr b 55∧b≠bl))
  (fun i _=>n - (intOf i).toNat)
 case atStart=>exact⟨0,[],Nat.zero_le _,rfl,rfl,J1,F1,S1,R1,T1⟩
 case round =>
  clear J1 F1 S1 R1 T1;obtain⟨j,pre,hj,rfl,hpre,hJs,hF,hsz,RN,TN⟩:=hrel
  by_cases hlt:j<n
  ·obtain⟨g,off,hA,ca⟩:=RN.out.adr (by omega)
   have q1:=C14.atN g off n c j hlt;obtain⟨x0,x1⟩:=ca j hlt;have ck:=(RN.out.ok j hlt).k;obtain⟨x,hx⟩:∃ x,x=Q j:=⟨_,rfl⟩;rw[← hx] at x0 x1 ck;obtain⟨W1,hW1⟩:∃ W1,W1=wr.alloc (.cells #[.int .i64 x.k,.slice x.A x.n x.c] 55):=⟨_,rfl⟩;have kW:Hid (Keep wr W1):=by rw[hW1];exact Keep.one _ _
   have FW:=Lib.hid (hF.out.keep kW.out);have z1:=FW.out.cell E.out.c1.1 E.out.c1.2;have y0:=zah ((FW.out.block _ (zbl E.out.c2.1) E.out.c2.2).trans E.out.c2.1);have nb:Hid (W1.heap[wr.heap.size]?=some (.cells #[.int .i64 x.k,.slice x.A x.n x.c] 55 (0,0))):=by rw[hW1];exact heap_alloc_new _ _
   have n0:W1.cell? ⟨wr.heap.size,0,none⟩=some (.int .i64 x.k):=by rw[cell_of_row W1 _ _ _ _ _ nb.out];rfl
   have c0:=y0.e0;have c1:=y0.e1;have c2:=y0.e2;have c3:=y0.e3;have c4:=y0.e4;have c5:=y0.e5;have c6:=y0.e6;have c7:=y0.e7;have c8:=y0.e8;clear y0;have cF:=Lib.hid (FL.fits p x.k none 0 0 no (E.out.cs W1 FW.out) (E.out.er W1 FW.out) (E.out.pd W1 FW.out) ck (zfh.nil _ _) (by omega) hd hm hM hl)
   obtain⟨s,hs⟩:∃ s,s=zbx no p x.k M L d:=⟨_,rfl⟩;rw[← hs] at cF;rw[hx] at hs;replace hs:=Lib.hid hs;unfold zaa.val at cF;rw[hW1] at z1 n0 c0 c1 c2 c3 c4 c5 c6 c7 c8;replace hx:=Lib.hid hx;subst hA;replace ck:=Lib.hid ck;clear ca;have hfk:Hid (zbx no p (Q j).k M L d=s):=hs.out.symm
   gi_wp2_with fail
   refine⟨trivial,?_⟩;rw[← hW1];refine(callsIn_wide.2 cF.out).mono ?_;rintro e w3 ⟨rfl,k3⟩;have K3:Hid (Keep wr w3):=kW.out.trans k3;have F3:Hid (Fr (·=bl) W0 w3):=hF.out.keep K3.out
   have J3:Hid (J pre w3):=hJ pre wr w3 none hJs.out K3.out.grown (fun r e=>by cases e)
   have s3:Hid (W.heap.size≤w3.heap.size):=Nat.le_trans hsz.out K3.out.size;have R3:=Lib.hid (RN.out.keep K3.out);have T3:Hid (∀ b o,some (⟨g,off,none⟩:Addr)=some ⟨b,o,none⟩→Typ w3 b 55∧b≠bl):=fun b o e=>⟨(TN.out b o e).1.keep K3.out,(TN.out b o e).2⟩
   have m0:=k3.cell (show W1.cell? ⟨wr.heap.size,0,none⟩=some (.int .i64 x.k) by rw[cell_of_row W1 _ _ _ _ _ nb.out];rfl)
   have hxk:Hid (x.k=(Q j).k):=by show _=_;rw[hx.out]
   replace hW1:=Lib.hid hW1;replace k3:=Lib.hid k3;clear z1 n0 c0 c1 c2 c3 c4 c5 c6 c7 c8 q1 x0 x1 cF;cases s with
   | false =>
     gi_wp2
     refine⟨fun _ h=>(by cases h),?_⟩
     gi_wp2
     go_roundw
     case rel=>exact⟨j+1,pre,by omega,by simp,by rw[acx hfk.out];exact hpre,J3,F3,s3,R3,T3⟩
     case measure=>simp[intOf];omega
   | true =>
     have hpre2:Hid (pre++[x.k]=((C14.lst Q (j+1)).map C14.NdC.k).filter fun k=>zbx no p k M L d):=by
      show _=_
      rw[acv hfk.out,hpre.out,hxk.out]
     have hplen:pre.length<100:=by
      rw[hpre.out];exact Nat.lt_of_le_of_lt acw (by omega)
     obtain⟨fn,tmps,assign,body,hy,hR⟩:=hY pre x.k w3 J3.out hplen;replace hplen:=Lib.hid hplen
     gi_wp2
     refine hR.mono ?_;rintro e W4 (⟨rfl,hJ4,hK4⟩ | ⟨rfl,hJx4⟩)
     ·have F4:Hid (Fr (·=bl) W0 W4):=KF.base F3.out hK4
      obtain⟨R4,T4⟩:=adx R3.out T3.out hK4;have R4:=Lib.hid R4;have T4:=Lib.hid T4;have s4:Hid (W.heap.size≤W4.heap.size):=Nat.le_trans s3.out hK4.size;replace hJ4:Hid (J (pre++[x.k]) W4):=hJ4;replace hK4:=Lib.hid hK4;clear m0
      gi_wp2
      go_roundw
      case rel=>exact⟨j+1,pre++[x.k],by omega,by simp,hpre2,hJ4,F4,s4,R4,T4⟩
      case measure=>simp[intOf];omega
     ·obtain⟨t,ht⟩:=zus Q (fun k=>zbx no p k M L d) n hlt
      have pf:Hid (∃ t,zbk p M L d=(pre++[x.k])++t):=⟨t,by rw[EA.out,hpre2.out];exact ht⟩
      replace hJx4:Hid (Jx (pre++[x.k]) W4):=hJx4;clear m0 ht
      gi_wp2
      refine bodyPost_ret (results_none rfl _ _ _) rfl ?_;exact⟨⟨_,rfl⟩,.inr ⟨_,pf.out,hJx4.out⟩⟩
  ·obtain rfl:j=n:=by omega
   gi_wp2
   go_end0
   exact⟨⟨_,rfl⟩,.inl ⟨pre,by rw[hpre.out,EA.out],hJs.out⟩⟩
end
end Go.Proofs.YtihjgcibpfajkaaGreatDoor.T17
namespace Go.Proofs.YtihjgcibpfajkaaGreatDoor.T17
open Go.RowKit Go.Maps Go.Sort Go.Lib Go.Shelf V12 T13 T14 T15 T16
theorem Tryz.infoI17:(Tryz.prog.info? 3).map (fun i=>(i.zero,i.size,i.bytes))=some (some (.int .i64 0),1,8):=by kernel_rfl
theorem acs{W w1:World}{bl:Nat}{v v':Value}{k:Nat}{xs:List Value}{tmp:Obj}(hv:Boxed W bl 36 v)(hrow:W.ownsRow bl 3 1 v k xs)(hg:(W.alloc tmp).grownBy w1 v.ownBlock):KF bl (bl+1) W (w1.setCell ⟨bl,0,none⟩ v'):=by
 have f1:KF bl (bl+1) W w1:=by
  refine(Fr.of (Keep.one W tmp)).same ?_;have hg2:=hg;refine⟨hg.os,hg.tape,hg.output,hg.size,fun i hi hn=>hg.block i hi fun e=>hn ?_⟩
  have ht:=zcm hrow e.symm;have hb:=(hrow.lt i e.symm).1;have hne:i≠bl:=fun e2=>absurd (zbw (e2▸ht) ⟨_,_,hv⟩) (by decide)
  exact Or.inr ⟨by omega,fun ht2=>absurd (zbw ht ht2) (by decide)⟩
 exact Fr.set f1 (Or.inl (Or.inl rfl)) _
structure Yields(w:World)(gf:Nat)(lb:Array Value)(Ls:List Int):Prop where
 en:∀ args w,(callFunc gf args).run Tryz.prog w=.ok (.enter gf args) w
 sq:∀ W0 bl,Keep w W0→w.heap.size≤bl→bl<W0.heap.size→SeqStopsK Fence.wide 5 Tryz.prog gf lb (fun x:Int=>#[.int .i64 x]) (KF bl W0.heap.size) (fun xs=>xs=Ls) (fun pre=>∃ t,Ls=pre++t) 100 W0
attribute [local go_sem] Oper.semAt_some
set_option maxRecDepth 100000 in
set_option maxHeartbeats 4000000 in
theorem zrn{w:World}{gf:Nat}{lb:Array Value}{Ls:List Int}(Y:Yields w gf lb Ls):
  Calls Tryz.prog 56 #[.slice none 0 0,.func (.func gf) #[] lb] w fun e w'=>∃ v,e=.returned v∧w'.ownsRow w.heap.size 3 1 v Ls.length (Ls.map encZ)∧Below w.heap.size w w':=by
 refine(callsIn_wide (n:=6)).1 ?_;have h1:1≤6:=by omega
 obtain⟨i0,hi0,hz0,hz1,hz2⟩:=info_parts Tryz.infoI17;obtain⟨W0,hW0⟩:∃ W0,W0=w.alloc (.cells #[.slice none 0 0] 36):=⟨_,rfl⟩;have sz0:W0.heap.size=w.heap.size+1:=by rw[hW0,World.size_alloc]
 have k0:Keep w W0:=by rw[hW0];exact Keep.one _ _
 have bO:Boxed W0 w.heap.size 36 (.slice none 0 0):=by rw[hW0];exact Boxed.new _ _ _
 have sq:=Y.sq W0 w.heap.size k0 (Nat.le_refl _) (by omega)
 have en:=Y.en;rw[sz0] at sq;have hB0:Below w.heap.size w W0:=k0;have sz0:=Lib.hid sz0;have hW0':=Lib.hid hW0;refine callsIn_of_wp_marks Tryz.func56 rfl trivial ?_ rfl;simp only[Tryz.ntmps56,List.size_toArray,List.length_cons,List.length_nil,Nat.reduceAdd,Nat.reduceSub,Array.replicate_succ,Array.replicate_zero,List.push_toArray,List.append_toArray,List.nil_append,List.cons_append]
 gi_wp2_with fail
 rw[← hW0];refine wpIn_rangeFunc_ownF (α:=Int) rfl h1 (gf:=gf) (lb:=lb) rfl trivial en sq (fun h k=>KF.trans h k) (fun W l o o' hl h hc _=>KF.put o' (by rw[← sz0.out];exact hl) h hc) (Below.refl _ _) (fun _=>rfl)
  (fun pre W=>(∃ v,Boxed W w.heap.size 36 v∧W.ownsRow w.heap.size 3 1 v pre.length (pre.map encZ)∧True)∧Below w.heap.size w W)
  (fun _ _ _=>False)
  (OwnFrom.and (Own.from (holdsRow_own w.heap.size w.heap.size 36 3 1 (fun pre:List Int=>pre.length) (fun pre=>pre.map encZ) (fun _ _=>True)) _) (ownFrom_below (Nat.le_refl _) (by rw[sz0.out];omega)))
  (fun _ _ _ _ _ hs _ _=>hs)
  ⟨⟨_,bO,World.ownsRow_nil _ _ _ _,trivial⟩,hB0⟩
  (fun x=>{ tmps:=#[.slice none 0 0,.func (.func gf) #[] lb,.pointer (some ⟨w.heap.size,0,none⟩),undef,.slice none 0 0,.int .i64 x,.func (.func gf) #[] lb,.int .i64 x,undef,undef,undef,undef,undef],defers:=[] }) ?assign ?body ?done ?stop
 case assign =>
  intro l x W K hK
  gi_wp2
  exact hK
 case body =>
  rintro l2 pre x W ⟨⟨v,hv,hrow,_⟩,hB⟩ hlt;have hc:=hv.cell;have hsm:w.heap.size≤W.heap.size:=hB.size
  gi_wp2_with (gi_at_builtin;refine wpListIn_append_own _ rfl _ _ 36 rfl w.heap.size 3 i0 (.int .i64 0) 1 8 Tryz.underlying36 hi0 hz0 hz1 hz2 rfl (by decide) _ _ _ rfl (hrow.alloc _) ⟨W.heap.size,0,none⟩ 1 1 [.int .i64 x] rfl rfl (cell_one_new _ _ _) (by simp[Value.oneCell']) (by unfold maxLen;omega) (by omega) (by have:=hB.size;simp;omega) ?_;intro v' w1 hown' hgrow _;obtain⟨g',cap',rfl⟩:=ownsRow_succ hown';obtain⟨hv1,hv2,hr2,hk2,hb2⟩:=hv.appended (by decide) hrow hB.size (Nat.le_refl _) hown' hgrow;have hf2:=Lib.hid (acs (v':=.slice (some ⟨g',0,none⟩) (pre.length+1) cap') hv hrow hgrow);have hc1:=hv1.cell;have hf1:=hv1.frozen)
  exact⟨hk2,hf2.out,⟨_,hv2,by simpa using hr2,trivial⟩,hB.trans hb2⟩
 case done =>
  rintro D ys W hD rfl ⟨⟨v,hv,hrow,_⟩,hB⟩ hK;have hc:=hv.cell;have hDl:w.heap.size≤D:=by have:=sz0.out;omega
  have hrow:=Lib.hid hrow;replace hB:=Lib.hid hB
  gi_wp2
  refine⟨by simp,.inl ⟨_,_,rfl,run_takeDeferred hK,?_⟩⟩
  exact⟨_,results_tmp rfl _ _ _,_,rfl,ownsRow_putObj hrow.out _ hK rfl,hB.out.trans (belowK_b (w:=w) (Nat.le_refl _) _ D _ _ hDl hK rfl rfl)⟩
 case stop =>
  rintro D c pre W _ _ h _;exact h.elim
set_option maxHeartbeats 1000000 in
theorem zon{w:World}{gf:Nat}{lb:Array Value}{Ls:List Int}(Y:Yields w gf lb Ls):
  Calls Tryz.prog 28 #[.func (.func gf) #[] lb] w fun e w'=>∃ v,e=.returned v∧w'.ownsRow w.heap.size 3 1 v Ls.length (Ls.map encZ)∧Below w.heap.size w w':=by
 have cA:=Lib.hid (zrn Y);clear Y
 go_enter Tryz.func28,Tryz.ntmps28
 go_wp2_with fail;refine cA.out.mono ?_;rintro e w1 ⟨v,rfl,h1,h2⟩;replace h1:=Lib.hid h1;replace h2:=Lib.hid h2;go_wp2;go_ret
 exact⟨v,rfl,h1.out,h2.out⟩
theorem zzf{w:World}{base:Nat}{v:Value}{l:List Int}(h:w.ownsRow base 3 1 v l.length (l.map encZ))(hl:l.length≤100)(hi:∀ k∈l,I64 k):zcv w v l∧∀ g,v.ownBlock=some g→base≤g:=by
 obtain⟨A,c,rfl,hn⟩:=own_form h;refine⟨⟨A,c,rfl,⟨by omega,fun j hj=>hi _ (zdo hj),fun hp=>?_⟩,hn,zdg h⟩,fun g hg=>(h.lt g hg).1⟩
 obtain⟨g,cap,e,_,_⟩:=h.form hp;have e':=e;simp only[Value.slice.injEq] at e';obtain⟨rfl,_,rfl⟩:=e';refine⟨g,0,rfl,fun j hj=>?_⟩
 rw[Nat.zero_add,h.cellAt j (by omega),List.getElem?_map,znm hj]
 rfl
end Go.Proofs.YtihjgcibpfajkaaGreatDoor.T17
namespace Go.Proofs.YtihjgcibpfajkaaGreatDoor.T17
open Go.RowKit Go.Maps Go.Sort Go.Lib Go.Shelf V12 T13 T14 T15 T16
theorem zoi{P:Program}{f:FuncId}{args:Array Value}{w:World}{R:Ending→World→Prop}(h:Calls P f args w R):∃ e w',R e w':=by
 obtain⟨e,w',_,r,_⟩:=h [];exact⟨e,w',r⟩
theorem zjk(P:Option Addr)(p:zaa)(w:World):Calls Tryz.prog 29 #[.pointer P,p.val] w fun e w'=>e=.returned (.func (.func 57) #[] #[.pointer (some ⟨w.heap.size,0,none⟩),.pointer (some ⟨w.heap.size+1,0,none⟩)])∧w'=(w.alloc (.cells #[.pointer P] 27)).alloc (.cells (zab p) 26):=by
 have h1:=T13.hmf;unfold zaa.val zab
 go_enter Tryz.func29,Tryz.ntmps29
 go_wp2;go_ret
 exact⟨rfl,rfl⟩
section
variable{CS:zba}{w w1 W0:World}{bl b1 b2 d q:Nat}{M:List NV}{L:List zaa}{X:Nat→Prop}{p:zaa}
theorem zki(FL:zmi CS)(NT:zfj CS)(u:Nat)(hu:1≤u)(E:ztp CS W0 bl b1 b2 w d q M L X p)(hd:d≤64)(hm:p.m≤1000)(hM:M.length≤100)(hl:L.length≤100):
  SeqStopsK Fence.wide u Tryz.prog 57 #[.pointer (some ⟨b1,0,none⟩),.pointer (some ⟨b2,0,none⟩)] (fun x:Int=>#[.int .i64 x]) (KF bl W0.heap.size) (fun xs=>xs=zbk p M L d) (fun pre=>∃ t,zbk p M L d=pre++t) 100 W0:=fun l J Jx W hW hJ _ hY h0 =>
 zyu FL NT u hu l E hd hm hM hl J Jx hY W hJ (Fr.of hW) h0
theorem zul(C:Con CS)(h:CS w d q M L X w1)(hg:zaw w1)(hp:zaf w1 p)(k:Keep w1 W0)(hbl:w1.heap.size≤bl)(hlo:bl<W0.heap.size)(c1:W0.cell? ⟨b1,0,none⟩=some (.pointer (some ⟨q,0,none⟩)))(n1:b1≠bl)(c2:W0.heap[b2]?=some (.cells (zab p) 26 (0,0)))(n2:b2≠bl):ztp CS W0 bl b1 b2 w d q M L X p:=by
 have low:∀ W',Fr (·=bl) W0 W'→Keep w1 W':=fun W' f=>Fr.low k f fun i e=>by
  have e:i=bl:=e;omega
 exact⟨⟨c1,n1⟩,⟨c2,n2⟩,fun W' f=>C.keep h (low W' f),fun W' f=>hp.keep (low W' f),fun W' f=>hg.keep (low W' f),hlo⟩
theorem zow(C:Con CS)(FL:zmi CS)(NT:zfj CS)(h:CS w d q M L X w1)(hg:zaw w1)(hp:zaf w1 p)(hd:d≤64)(hm:p.m≤1000)(hM:M.length≤100)(hl:L.length≤100){W:World}(k:Keep w1 W)(c1:W.cell? ⟨b1,0,none⟩=some (.pointer (some ⟨q,0,none⟩)))(c2:W.heap[b2]?=some (.cells (zab p) 26 (0,0))):
  Yields W 57 #[.pointer (some ⟨b1,0,none⟩),.pointer (some ⟨b2,0,none⟩)] (zbk p M L d):=
 ⟨enters_of Tryz.func57 (by kernel_rfl) rfl,fun W0 bl k0 hbl hlo=>zki FL NT 5 (by omega)
  (zul C h hg hp (k.trans k0) (Nat.le_trans k.size hbl) hlo (k0.cell c1) (by have h1:b1<W.heap.size:=zbd c1;omega) (k0.block c2) (by have:=zbl c2;omega)) hd hm hM hl⟩
theorem zvb(NT:zfj CS)(h:CS w d q M L X w1)(hM:M.length≤100):∀ k∈nk M,I64 k:=by
 intro k hk;obtain⟨e,w',A,c,_,⟨Q,RQ,EQ,_⟩,_⟩:=zoi (NT h hM);have e:nk M=(C14.lst Q M.length).map C14.NdC.k:=by
  conv=>lhs;rw[← EQ]
  show((C14.lst Q M.length).map nv).map NV.k=_
  rw[List.map_map];rfl
 rw[e,List.mem_map] at hk;obtain⟨x,hx,rfl⟩:=hk;obtain⟨j,hj,rfl⟩:=C14.lst_mem.1 hx;exact(RQ.row.ok j hj).k
set_option maxRecDepth 100000 in
set_option maxHeartbeats 4000000 in
theorem zoz(C:Con CS)(FL:zmi CS)(NT:zfj CS)(h:CS w d q M L X w1)(hg:zaw w1)(hp:zaf w1 p)(hd:d≤64)(hm:p.m≤1000)(hM:M.length≤100)(hl:L.length≤100):
  Calls Tryz.prog 11 #[.pointer (some ⟨q,0,none⟩),p.val] w1 fun e w'=>∃ v,e=.returned v∧zcv w' v (zbk p M L d)∧(∀ g,v.ownBlock=some g→w1.heap.size≤g)∧Keep w1 w':=by
 have hk:=Lib.hid (zvb (CS:=CS) (L:=L) (X:=X) (w:=w) NT h hM);obtain⟨W,hW,kW,bP⟩:=zdf w1 p;have cF:=Lib.hid (zjk (some ⟨q,0,none⟩) p W);obtain⟨W5,hW5⟩:∃ W5,W5=(W.alloc (.cells #[.pointer (some ⟨q,0,none⟩)] 27)).alloc (.cells (zab p) 26):=⟨_,rfl⟩;have k5:Hid (Keep w1 W5):=by rw[hW5];exact(kW.out.alloc _).alloc _
 have z1:(W.alloc (.cells #[.pointer (some ⟨q,0,none⟩)] 27)).heap.size=W.heap.size+1:=World.size_alloc _ _;have c1:Boxed W5 W.heap.size 27 (.pointer (some ⟨q,0,none⟩)):=by rw[hW5];exact(Boxed.new _ _ _).alloc _
 have c2:W5.heap[W.heap.size+1]?=some (.cells (zab p) 26 (0,0)):=by rw[hW5,← z1];exact heap_alloc_new _ _
 have cC:=Lib.hid (zon (zow C FL NT h hg hp hd hm hM hl k5.out c1.cell c2));rw[← hW5] at cF;clear z1 c1 c2 hW5 h hg hp;have P0:=zah bP.out;have c0:=P0.e0;have c1:=P0.e1;have c2:=P0.e2;have c3:=P0.e3;have c4:=P0.e4;have c5:=P0.e5;have c6:=P0.e6;have c7:=P0.e7;have c8:=P0.e8;clear P0;rw[hW] at c0 c1 c2 c3 c4 c5 c6 c7 c8;unfold zab at hW;unfold zaa.val at cF;unfold zaa.val
 go_enter Tryz.func11,Tryz.ntmps11
 go_wp2_with fail;rw[← hW];refine cF.out.mono ?_;rintro e w2 ⟨rfl,rfl⟩;clear c0 c1 c2 c3 c4 c5 c6 c7 c8;replace hW:=Lib.hid hW;go_wp2_with fail;refine cC.out.mono ?_;rintro e w3 ⟨v,rfl,h1,h2⟩;have fin:Hid (zcv w3 v (zbk p M L d)∧(∀ g,v.ownBlock=some g→w1.heap.size≤g)∧Keep w1 w3):=by
  obtain⟨a,b⟩:=zzf h1 (zgr hM) fun k hk2=>hk.out k (List.mem_filter.1 hk2).1
  exact⟨a,fun g hgg=>Nat.le_trans k5.out.size (b g hgg),k5.out.trans h2⟩
 clear h1 h2;go_wp2;go_ret
 exact⟨v,rfl,fin.out⟩
end
end Go.Proofs.YtihjgcibpfajkaaGreatDoor.T17
