/-
  The reference's Of of layer 18, walked, over what its Lower and Fits answer. Conditions: at most 100 lower pods.
  The reference's functions of layer 18 beside the cluster; the contracts of package victims (ConV). No condition.
-/
import Derived.Test.YtcogiogjpbkeaaaGreatDoorJ0
import Derived.Test.YtcogiogjpbkeaaaGreatDoorJ19
namespace Go.Proofs.YtcogiogjpbkeaaaGreatDoor.T18
open Go.RowKit Go.Sort Go.Lib V12 T13 T14 T15 T16 T17
theorem Tryz.infoB18:(Tryz.prog.info? 4).map (fun i=>(i.zero,i.size,i.bytes))=some (some (.bool false),1,1):=by kernel_rfl
theorem zpq(g n cp j:Nat)(hj:j<n)(W:World):(Instr.indexAt 76 (.slice (some ⟨g,0,none⟩) n cp) (.int .i64 j)).run Tryz.prog W=.ok (.pointer (some ⟨g,j,none⟩)) W:=by
 go_simp
def zlc(w:World)(g n:Nat)(S:Nat->Bool):Prop:=w.rowIs g 4 n fun t=>.bool (S t)
theorem zlc.keep{w w':World}{g n:Nat}{S:Nat->Bool}(h:zlc w g n S)(k:Keep w w'):zlc w' g n S:=by
 obtain⟨c,h1,h2,h3⟩:=h;exact⟨c,Keep.block k h1,h2,h3⟩
theorem zlc.set{w:World}{g n i:Nat}{S:Nat->Bool}(h:zlc w g n S)(u:Bool):zlc (w.setCell ⟨g,i,none⟩ (.bool u)) g n (fun t=>if t=i then u else S t):=by
 refine(World.rowIs.set h i _).congr fun t _=>?_
 show(if t=i then Value.bool u else .bool (S t))=.bool (if t=i then u else S t)
 by_cases e:t=i
 ·rw[if_pos e,if_pos e]
 ·rw[if_neg e,if_neg e]
theorem zjq(R:List Int)(z:Int):zba R.length (zax R)++zba 1 (fun _=>z)=zba (R.length+1) (zax (R++[z])):=by
 rw[acw];unfold zba;refine List.map_congr_left fun j hj=>?_
 have hj:=List.mem_range.1 hj;show Value.int .i64 (if j<R.length then zax R j else z)=.int .i64 (zax (R++[z]) j)
 by_cases e:j<R.length
 ·rw[if_pos e]
  unfold zax;rw[List.getD_eq_getElem?_getD,List.getD_eq_getElem?_getD,List.getElem?_append_left e]
 ·rw[if_neg e]
  obtain rfl:j=R.length:=by omega
  unfold zax;rw[List.getD_eq_getElem?_getD,List.getElem?_append_right (Nat.le_refl _),Nat.sub_self];rfl
set_option maxRecDepth 100000 in
set_option maxHeartbeats 16000000 in
theorem zyt(x:RcV)(p:zaa)(nd:Int)(l:List zaa)(f:(Int->Bool)->Bool)(w:World)(hl:l.length<=100)(hk:∀ t,t<l.length->I64 (row l t).k)
  (cL:∀ W,Keep w W->Calls Tryz.prog 14 #[x.val,p.val,.int .i64 nd] W fun e w'=>∃ B d,e=.returned (.slice B l.length d)/\Keep W w'/\zai w' B l.length (row l))
  (cF:∀ W A n c O,Keep w W->zcq W A n O->n<=200->Calls Tryz.prog 21 #[x.val,p.val,.int .i64 nd,.slice A n c] W fun e w'=>e=.returned (.bool (f O))/\Keep W w') :
  Calls Tryz.prog 17 #[x.val,p.val,.int .i64 nd] w fun e w'=>∃ B d,e=.returned (.slice B (zfa f [] l).length d)/\Keep w w'/\zai w' B (zfa f [] l).length (row (zfa f [] l))/\∀ b o,B=some ⟨b,o,none⟩->Typ w' b 26:=by
 obtain⟨xd,A,n,c,B,m,e⟩:=x;obtain⟨V,hV⟩:=Zn (zfa f [] l);rw[<- hV];obtain⟨N,hN⟩:=Zn (l.length);rw[<- hN] at hl hk cL;obtain⟨W0,hW0⟩:=Zn ((w.alloc (.cells (RcV.arr ⟨xd,A,n,c,B,m,e⟩) 30)).alloc (.cells (zac p) 26));have s0:(w.alloc (.cells (RcV.arr ⟨xd,A,n,c,B,m,e⟩) 30)).heap.size=w.heap.size+1:=World.size_alloc _ _;have K0:Hid (Keep w W0):=by rw[hW0];exact(Keep.one _ _).alloc _
 have B3:Hid (W0.heap[w.heap.size]?=some (.cells (RcV.arr ⟨xd,A,n,c,B,m,e⟩) 30 (0,0))):=by rw[hW0];exact(Keep.one _ _).block (heap_alloc_new _ _)
 have B4:Hid (W0.heap[w.heap.size+1]?=some (.cells (zac p) 26 (0,0))):=by rw[hW0,<- s0];exact heap_alloc_new _ _
 obtain⟨b3,hb3⟩:=Zn (w.heap.size);obtain⟨b4,hb4⟩:=Zn (w.heap.size+1);rw[<- hb3] at B3;rw[<- hb4] at B4;have cO:=Zq (cL W0 K0.out);replace cF:=Zq cF;replace hk:=Zq hk;replace hV:=Zq hV;replace hN:=Zq hN;have hmk:=run_make_row' (P:=Tryz.prog) 76 4 (.bool false) 1 Tryz.underlying76 Tryz.infoB18 rfl .i64 .i64 N (by omega) (by omega)
 replace s0:=Zq s0;clear cL;obtain⟨c0,c1,c2,_⟩:=zab B3.out;have P4:=zae B4.out;have p0:=P4.e0;have p1:=P4.e1;have p2:=P4.e2;have p3:=P4.e3;have p4:=P4.e4;have p5:=P4.e5;have p6:=P4.e6;have p7:=P4.e7;have p8:=P4.e8;clear P4;simp only at c0 c1 c2;unfold RcV.val zaa.val at cO cF;unfold RcV.arr zac at hW0;unfold RcV.val zaa.val;simp only at hW0 cO cF
 go_enter Tryz.func17,Tryz.ntmps17
 go_wp2_with fail;rw[<- hW0,<- hb4,<- hb3];replace hW0:=Zq hW0;replace hb3:=Zq hb3;replace hb4:=Zq hb4;go_wp2_with fail;refine cO.out.mono ?_;rintro e' w1 ⟨D,d,rfl,k1,RD⟩;have K1:Hid (Keep W0 w1):=k1;replace k1:=Zq k1;replace RD:=Zq RD;clear c0 c1 c2 p0 p1 p2 p3 p4 p5 p6 p7 p8 cO;obtain⟨g,hg⟩:=Zn (w1.heap.size);obtain⟨W2,hW2⟩:=Zn (w1.alloc (.cells (madeCells #[.bool false] N) 4));have K2:Hid (Keep w1 W2):=by rw[hW2];exact Keep.one _ _
 have R2:Hid (zlc W2 g N fun _=>false):=by
  have:=World.rowIs_made w1 (.bool false) N 4;rw[<- hg,<- hW2] at this;exact this
 have gle:Hid (w1.heap.size<=g):=Nat.le_of_eq hg.symm;go_wp2_with fail;rw[<- hW2,<- hg];replace hW2:=Zq hW2;replace hg:=Zq hg;clear hmk;go_wp2
 go_loopg [9,10,11] N (fun gx s9 _ _ wr=>∃ (i:Nat) (S:Nat->Bool),i<=N/\gx=N - i/\s9=.int .i64 i/\Hid (Keep w1 wr)/\Hid (zlc wr g N S)/\Hid (∀ t,i<=t->S t=false)/\Hid (zfa f (zdw l S i) (l.drop i)=V))
 case atStart=>exact⟨0,fun _=>false,Nat.zero_le _,rfl,rfl,K2,R2,fun _ _=>rfl,hV.out.symm⟩
 case round =>
  obtain⟨i,S,hi,rfl,rfl,KR,RB,SF,VI⟩:=hrel
  by_cases hlt:i<N
  ·obtain⟨b,hb⟩:=Zn (f (zdx (zdw l S i++l.drop (i+1))))
   have VN:Hid (zfa f (zdw l (fun t=>if t=i then b else S t) (i+1)) (l.drop (i+1))=V):=by
    have e1:l.drop i=row l i :: l.drop (i+1):=by
     have h:i<l.length:=by rw[<- hN.out];exact hlt
     rw[List.drop_eq_getElem_cons h];unfold row;rw[List.getD_eq_getElem?_getD,List.getElem?_eq_getElem h];rfl
    have h:=VI.out;rw[e1] at h;unfold zfa at h;rw[<- hb] at h;show _=_
    rw[<- h,zmi,zog (R:=S) (fun t ht=>if_neg (by omega)),if_pos rfl]
    cases b
    ·rfl
    ·rw[if_pos rfl,if_pos rfl,List.append_nil]
   have SN:Hid (∀ t,i+1<=t->(if t=i then b else S t)=false):=fun t ht=>by rw[if_neg (by omega)];exact SF.out t (by omega)
   have OS:Hid (∀ z,zdx (zdw l S i++l.drop (i+1)) z=true↔z∈znp l S i N):=fun z=>by rw[hN.out];exact ahy (by rw[<- hN.out];exact hi) SF.out z
   replace hb:=Zq hb;generalize hwo:wr=wo at *;clear hwo;go_wp2
   go_loopg [10,11] N (fun gx s10 s11 wr=>∃ (k:Nat) (D2:Option Addr) (d2:Nat) (R:List Int),k<=N/\gx=N - k/\s11=.int .i64 k/\s10=.slice D2 R.length d2/\R.length<=k/\Hid (R=znp l S i k)/\Hid (Keep wo wr)/\Hid (wr.ownsRow wo.heap.size 3 1 (.slice D2 R.length d2) R.length (zba R.length (zax R))))
   case atStart=>exact⟨0,none,0,[],Nat.zero_le _,rfl,rfl,rfl,Nat.le_refl _,rfl,Keep.refl _,World.ownsRow_nil _ _ _ _⟩
   case round =>
    obtain⟨k,D2,d2,R,hkN,rfl,rfl,rfl,hRk,hR,KQ,RW⟩:=hrel;have RQ:=Zq (RB.out.keep KQ.out)
    by_cases hkl:k<N
    ·have q2:=zpq g N N k hkl
     have r0:=World.rowIs.cell RQ.out hkl;have sc:=adi l S i k
     by_cases hs:S k=true
     ·have hs2:Hid (R=znp l S i (k+1)):=by show _=_;rw[sc,hR.out,hs];simp
      rw[hs] at r0;replace sc:=Zq sc;replace hs:=Zq hs;go_wp2;go_roundg (N - (k+1))
      case measure=>omega
      case rel=>exact⟨k+1,D2,d2,R,hkl,rfl,by go_num,rfl,by omega,hs2,KQ,RW⟩
     ·have hs:S k=false:=by simpa using hs
      by_cases hki:k=i
      ·have hs2:Hid (R=znp l S i (k+1)):=by show _=_;rw[sc,hR.out,hki];simp
       rw[hs] at r0;have hne:((k:Int) != (i:Int))=false:=by simp[hki]
       replace sc:=Zq sc;replace hs:=Zq hs;replace hki:=Zq hki;go_wp2;go_roundg (N - (k+1))
       case measure=>omega
       case rel=>exact⟨k+1,D2,d2,R,hkl,rfl,by go_num,rfl,by omega,hs2,KQ,RW⟩
      ·obtain⟨z,hz⟩:=Zn ((row l k).k)
       have hs2:Hid (R++[z]=znp l S i (k+1)):=by show _=_;rw[sc,hR.out,hs,hz];simp[hki]
       rw[hs] at r0;have hne:((k:Int) != (i:Int))=true:=bne_iff_ne.2 (by omega)
       have hz2:Hid (I64 z):=by rw[hz];exact hk.out k hkl
       obtain⟨gp,off,hA,ca⟩:=(RD.out.keep (KR.out.trans KQ.out)).adr (by omega)
       subst hA;have q1:=zar gp off N d k hkl;have y0:=(ca k hkl).e0;rw[<- hz] at y0;clear ca;replace sc:=Zq sc;replace hs:=Zq hs;replace hki:=Zq hki;replace hz:=Zq hz;have gsz:Hid (wo.heap.size<=wr.heap.size):=KQ.out.size;go_wp2_with (at_builtin;refine zla Tryz.underlying43 Tryz.infoI16 rfl _ _ rfl wo.heap.size (.slice D2 R.length d2) R.length (zba R.length (zax R)) (by simp[Act.eval]) (zal RW.out (Keep.one _ _)) (some ⟨wr.heap.size,0,none⟩) 1 1 (fun _=>z) (by simp[Act.eval]) (zgq (heap_alloc_new _ _) hz2.out) (fun e=>by cases e) (by omega) (by rw[World.size_alloc];have:=gsz.out;omega) (R.length+1) rfl ?_;intro v3 w3 hr3 hg3)
       have K3:Hid (Keep wo w3):=zad (KQ.out.trans (Keep.one _ _)) hg3 (fun q hq=>(RW.out.lt q hq).1)
       obtain⟨B4',d4,hB4,_⟩:=zan hr3;subst hB4;rw[zjq] at hr3;have hl2:(R++[z]).length=R.length+1:=by rw[List.length_append];rfl
       rw[<- hl2] at hr3 ⊢;replace hl2:=Zq hl2;replace hr3:=Zq hr3;replace hg3:=Zq hg3;clear y0 q1 q2 r0 hne;go_wp2;go_roundg (N - (k+1))
       case measure=>omega
       case rel=>exact⟨k+1,B4',d4,R++[z],hkl,rfl,by go_num,rfl,by have:=hl2.out;omega,hs2,K3,hr3⟩
    ·obtain rfl:k=N:=by omega
     have KW:Hid (Keep W0 wr):=K1.out.trans (KR.out.trans KQ.out);have KN:Hid (Keep w wr):=K0.out.trans KW.out;have B3q:Hid (wr.heap[b3]?=some (.cells (RcV.arr ⟨xd,A,n,c,B,m,e⟩) 30 (0,0))):=Keep.block KW.out B3.out;have B4q:Hid (wr.heap[b4]?=some (.cells (zac p) 26 (0,0))):=Keep.block KW.out B4.out;have ST:Hid (zcq wr D2 R.length (zdx (zdw l S i++l.drop (i+1)))):=by
      obtain⟨A',c',e,h1,_⟩:=own_row RW.out (by omega) fun j hj=>by
       have h:zax R j∈znp l S i k:=by rw[<- hR.out];exact zdo hj
       obtain⟨t,ht,e⟩:=List.mem_map.1 h;rw[<- e];exact hk.out t (List.mem_range.1 (List.mem_filter.1 ht).1)
      cases e
      refine⟨zax R,h1,fun z=>(OS.out z).trans ?_⟩
      rw[<- hR.out];exact⟨zei,fun ⟨j,hj,e⟩=>by rw[<- e];exact zdo hj⟩
     obtain⟨c0,c1,c2,_⟩:=zab B3q.out;simp only at c0 c1 c2;have P4:=zae B4q.out;have p0:=P4.e0;have p1:=P4.e1;have p2:=P4.e2;have p3:=P4.e3;have p4:=P4.e4;have p5:=P4.e5;have p6:=P4.e6;have p7:=P4.e7;have p8:=P4.e8;clear P4;have cX:=cF.out wr D2 R.length d2 _ KN.out ST.out (by omega)
     rw[<- hb.out] at cX;replace cX:=Zq cX;go_wp2_with fail;refine cX.out.mono ?_;rintro e' w4 ⟨rfl,k4⟩;clear c0 c1 c2 p0 p1 p2 p3 p4 p5 p6 p7 p8 cX;have K4:Hid (Keep w1 w4):=KR.out.trans (KQ.out.trans k4);have RN:=Zq (RQ.out.keep k4);replace k4:=Zq k4;have q2:=zpq g k k i hlt;have f0:=World.rowIs.frozen RN.out i;have r0:=World.rowIs.cell RN.out hlt;have K5:Hid (Keep w1 (w4.setCell ⟨g,i,none⟩ (.bool b))):=K4.out.set (by show w1.heap.size<=g;exact gle.out) _
     have R5:=Zq (RN.out.set (i:=i) b);go_wp2;go_roundg (k - (i+1))
     case measure=>omega
     case rel=>exact⟨i+1,fun t=>if t=i then b else S t,hlt,rfl,by go_num,K5,R5,SN,VN⟩
  ·obtain rfl:i=N:=by omega
   have VE:Hid (zdw l S i=V):=by
    have h:=VI.out;rw[List.drop_eq_nil_of_le (Nat.le_of_eq hN.out.symm)] at h;exact h
   have KE:Hid (Keep W0 wr):=K1.out.trans KR.out;generalize hwo:wr=wo at *;clear hwo;go_wp2
   go_loopg [12,13] i (fun gx s12 s13 wr=>∃ (k z:Nat) (D2:Option Addr) (d2:Nat),k<=i/\gx=i - k/\s13=.int .i64 k/\s12=.slice D2 z d2/\z<=k/\Hid (z=(zdw l S k).length)/\Hid (Keep wo wr)/\Hid (wr.ownsRow wo.heap.size 26 9 (.slice D2 z d2) z ((zdw l S k).flatMap zaa.cells)))
   case atStart=>exact⟨0,0,none,0,Nat.zero_le _,rfl,rfl,rfl,Nat.le_refl _,rfl,Keep.refl _,World.ownsRow_nil _ _ _ _⟩
   case round =>
    obtain⟨k,z,D2,d2,hki,rfl,rfl,rfl,hzk,hz,KQ,RW⟩:=hrel;have RQ:=Zq (RB.out.keep KQ.out)
    by_cases hkl:k<i
    ·have q2:=zpq g i i k hkl
     have r0:=World.rowIs.cell RQ.out hkl;have sc:=zmi l S k
     by_cases hs:S k=true
     ·rw[if_pos hs,List.append_nil] at sc
      have hz2:Hid (z=(zdw l S (k+1)).length):=by show _=_;rw[sc];exact hz.out
      have RW2:Hid (wr.ownsRow wo.heap.size 26 9 (.slice D2 z d2) z ((zdw l S (k+1)).flatMap zaa.cells)):=by rw[sc];exact RW.out
      rw[hs] at r0;replace sc:=Zq sc;replace hs:=Zq hs;go_wp2;go_roundg (i - (k+1))
      case measure=>omega
      case rel=>exact⟨k+1,z,D2,d2,hkl,rfl,by go_num,rfl,by omega,hz2,KQ,RW2⟩
     ·have hs:S k=false:=by simpa using hs
      rw[if_neg (by rw[hs];decide)] at sc
      obtain⟨y,hy⟩:=Zn (row l k);rw[<- hy] at sc;have hz2:Hid (z+1=(zdw l S (k+1)).length):=by show _=_;rw[sc,List.length_append,hz.out];rfl
      have FM:Hid ((zdw l S k).flatMap zaa.cells++y.cells=(zdw l S (k+1)).flatMap zaa.cells):=by show _=_;rw[sc,List.flatMap_append,List.flatMap_singleton]
      rw[hs] at r0;obtain⟨gp,off,hA,ca⟩:=(RD.out.keep (KR.out.trans KQ.out)).adr (by omega)
      subst hA;have q1:=zar gp off i d k hkl;have X:=ca k hkl;rw[<- hy] at X;clear ca;replace sc:=Zq sc;replace hs:=Zq hs;replace hy:=Zq hy;have x0:=X.e0;have x1:=X.e1;have x2:=X.e2;have x3:=X.e3;have x4:=X.e4;have x5:=X.e5;have x6:=X.e6;have x7:=X.e7;have x8:=X.e8;clear X;have gsz:Hid (wo.heap.size<=wr.heap.size):=KQ.out.size;go_wp2_with (at_builtin;refine zdz Tryz.tyP13 rfl _ _ rfl wo.heap.size (.slice D2 z d2) z ((zdw l S k).flatMap zaa.cells) (by simp[Act.eval]) (zal RW.out (Keep.one _ _)) (.slice (some ⟨wr.heap.size,0,none⟩) 1 1) 1 y.cells (by simp[Act.eval]) (zbh (heap_alloc_new _ _)) (cells_one _) (by omega) (by rw[World.size_alloc];have:=gsz.out;omega) (z+1) rfl ?_;intro v3 w3 hr3 hg3)
      have K3:Hid (Keep wo w3):=zad (KQ.out.trans (Keep.one _ _)) hg3 (fun q hq=>(RW.out.lt q hq).1)
      obtain⟨B4',d4,hB4,_⟩:=zan hr3;subst hB4;rw[FM.out] at hr3;replace hr3:=Zq hr3;replace hg3:=Zq hg3;clear x0 x1 x2 x3 x4 x5 x6 x7 x8 q1 q2 r0;go_wp2;go_roundg (i - (k+1))
      case measure=>omega
      case rel=>exact⟨k+1,z+1,B4',d4,hkl,rfl,by go_num,rfl,by omega,hz2,K3,hr3⟩
    ·obtain rfl:k=i:=by omega
     have fin:Hid (z=V.length/\zai wr D2 V.length (row V)):=by
      have hz:=hz.out;have h:=RW.out;rw[VE.out] at hz h;subst hz;rw[<- podCs_row] at h;refine⟨rfl,zix h (by omega) fun t ht=>?_⟩
      have hm:=row_mem ht;rw[<- VE.out] at hm;unfold zdw at hm;obtain⟨s,hs,e⟩:=List.mem_map.1 hm;rw[<- VE.out];unfold zdw;rw[<- e];exact(RD.out.is s (List.mem_range.1 (List.mem_filter.1 hs).1)).keep (KR.out.trans KQ.out)
     have tyd:Hid (∀ b o,D2=some ⟨b,o,none⟩->Typ wr b 26):=zqt RW.out;obtain⟨rfl,fin⟩:z=V.length/\Hid (zai wr D2 V.length (row V)):=fin.out;go_wp2;go_ret
     exact⟨D2,⟨d2,rfl⟩,K0.out.trans (KE.out.trans KQ.out),by first | exact fin.out | exact fin.out.2,tyd.out⟩
theorem acb(x:RcV)(p:zaa)(nd:Int)(l:List zaa)(f:(Int->Bool)->Bool)(w:World)(hl:l.length<=100)(hk:∀ t,t<l.length->I64 (row l t).k)
  (cL:∀ W,Keep w W->Calls Tryz.prog 14 #[x.val,p.val,.int .i64 nd] W fun e w'=>∃ B d,e=.returned (.slice B l.length d)/\Keep W w'/\zai w' B l.length (row l))
  (cF:∀ W A n c O,Keep w W->zcq W A n O->n<=200->Calls Tryz.prog 21 #[x.val,p.val,.int .i64 nd,.slice A n c] W fun e w'=>e=.returned (.bool (f O))/\Keep W w') :
  Calls Tryz.prog 17 #[x.val,p.val,.int .i64 nd] w fun e w'=>∃ B d,e=.returned (.slice B (zfa f [] l).length d)/\Keep w w'/\zai w' B (zfa f [] l).length (row (zfa f [] l)):=
 (zyt x p nd l f w hl hk cL cF).mono fun _ _ ⟨B,d,h1,h2,h3,_⟩=>⟨B,d,h1,h2,h3⟩
end Go.Proofs.YtcogiogjpbkeaaaGreatDoor.T18
namespace Go.Proofs.YtcogiogjpbkeaaaGreatDoor.T18
open Go.RowKit Go.Sort Go.Lib V12 T13 T14 T15 T16 T17
def zdl(w:World)(v:Value)(l:List zaa):Prop:=∃ A c P,v=.slice A l.length c/\zai w A l.length P/\(T13.lst P l.length).map nm=l
theorem zdl.keep{w w':World}{v:Value}{l:List zaa}(h:zdl w v l)(k:Keep w w'):zdl w' v l:=by
 obtain⟨A,c,P,h1,h2,h3⟩:=h;exact⟨A,c,P,h1,h2.keep k,h3⟩
theorem zwj(y:zaa):∀ L:List zaa,zqb (nm y) (L.map nm)=(zqb y L).map nm
 | []=>rfl
 | z :: L=>by
   rw[List.map_cons];unfold zqb;rw[show zeh (nm y) (nm z)=zeh y z from rfl,zwj y L]
   split<;>rfl
theorem zxf:∀ L:List zaa,zht (L.map nm)=(zht L).map nm
 | []=>rfl
 | y :: L=>by
   rw[List.map_cons];unfold zht;rw[zxf L,zwj]
theorem agx(p:zaa)(nd:Int)(L:List zaa):zbr p nd (L.map nm)=(zbr p nd L).map nm:=by
 unfold zbr;rw[List.filter_map,zxf];rfl
def zdn(p:zaa)(nd:Int)(M:List NV)(L:List zaa)(d:Nat)(O:Int->Bool):Bool:=zcc O p nd M L d
theorem aeu(p:zaa)(nd:Int)(M:List NV)(L:List zaa)(d:Nat):zct p nd M L d=zfa (zdn p nd M L d) [] (zbr p nd L):=aev p nd M L d (zbr p nd L) []
section
variable{CS:zbn}{w:World}{d q:Nat}{M:List NV}{L:List zaa}{X:Nat->Prop}{w1:World}{x:RcV}{Q:Nat->C14.NdC}{P:Nat->zaa}
theorem alp(h:St CS w d q M L X w1 x Q P)(hb:PrB L):PrB (T13.lst P x.m):=fun y hy=>by
 have:=hb (nm y) (by rw[<- h.el];exact List.mem_map_of_mem hy)
 exact this
theorem alo(C:Con CS)(h:St CS w d q M L X w1 x Q P):(keys (T13.lst P x.m)).Nodup:=by
 rw[<- zbq,h.el];exact(C.ok h.o).lok.nod
theorem zvl(h:St CS w d q M L X w1 x Q P)(p:zaa)(nd:Int):(zbr p nd (T13.lst P x.m)).map nm=zbr p nd L:=by rw[<- agx,h.el]
theorem zuq(C:Con CS)(h:St CS w d q M L X w1 x Q P)(hb:PrB L)(hl:L.length<=100)(p:zaa)(nd:Int){W:World}(k:Keep w1 W):
  Calls Tryz.prog 14 #[x.val,p.val,.int .i64 nd] W fun e w'=>∃ B d,e=.returned (.slice B (zbr p nd (T13.lst P x.m)).length d)/\Keep W w'/\zai w' B (zbr p nd (T13.lst P x.m)).length (row (zbr p nd (T13.lst P x.m))):=
 zsr x p nd P W (h.rl.rd.keep k) (by rw[<- h.lenL];exact hl) (alp h hb) (alo C h)
theorem zso{w':World}{B:Option Addr}{d':Nat}{l l':List zaa}(e:l.map nm=l')(h:zai w' B l.length (row l)):zdl w' (.slice B l.length d') l':=by
 have hl:l.length=l'.length:=by rw[<- e,List.length_map]
 unfold zdl;rw[<- hl];exact⟨B,d',row l,rfl,h,by rw[lst_row,e]⟩
theorem zwz(C:Con CS)(h:St CS w d q M L X w1 x Q P)(hb:PrB L)(hl:L.length<=100)(p:zaa)(nd:Int):
  Calls Tryz.prog 14 #[x.val,p.val,.int .i64 nd] w1 fun e w'=>∃ v,e=.returned v/\zdl w' v (zbr p nd L)/\Keep w1 w':=by
 refine(zuq C h hb hl p nd (Keep.refl w1)).mono ?_;rintro e w' ⟨B,d',rfl,k,R⟩;exact⟨_,rfl,zso (zvl h p nd) R,k⟩
theorem zul(C:Con CS)(h:St CS w d q M L X w1 x Q P)(hd:d<=64)(hl:L.length<=100)(p:zaa)(hp:zah w1 p)(nd:Int):∀ W A n c O,Keep w1 W->zcq W A n O->n<=200->Calls Tryz.prog 21 #[x.val,p.val,.int .i64 nd,.slice A n c] W fun e w'=>e=.returned (.bool (zdn p nd M L d O))/\Keep W w' :=
 fun _ A n c O k hS _=>zjv C (h.keep C k) hd hl p (hp.keep k) nd A n c O hS
theorem adb(C:Con CS)(h:St CS w d q M L X w1 x Q P)(hb:PrB L)(hd:d<=64)(hl:L.length<=100)(p:zaa)(hp:zah w1 p)(nd:Int):
  Calls Tryz.prog 16 #[x.val,p.val,.int .i64 nd] w1 fun e w'=>e=.returned (.bool (zek p nd M L d))/\Keep w1 w':=by
 have hn:(zbr p nd (T13.lst P x.m)).length<=100:=Nat.le_trans (zia _ _ _) (by rw[lst_len,<- h.lenL];exact hl)
 refine(znh x p nd (zbr p nd (T13.lst P x.m)) (zdn p nd M L d) w1 hn (fun W k=>zuq C h hb hl p nd k) (zul C h hd hl p hp nd)).mono ?_
 rintro e w' ⟨rfl,k⟩;refine⟨?_,k⟩;rw[<- zwh,zvl h];rfl
theorem aco(C:Con CS)(h:St CS w d q M L X w1 x Q P)(hb:PrB L)(hd:d<=64)(hl:L.length<=100)(p:zaa)(hp:zah w1 p)(nd:Int):
  Calls Tryz.prog 17 #[x.val,p.val,.int .i64 nd] w1 fun e w'=>∃ v,e=.returned v/\zdl w' v (zct p nd M L d)/\Keep w1 w':=by
 have hn:(zbr p nd (T13.lst P x.m)).length<=100:=Nat.le_trans (zia _ _ _) (by rw[lst_len,<- h.lenL];exact hl)
 have hk:∀ t,t<(zbr p nd (T13.lst P x.m)).length->I64 (row (zbr p nd (T13.lst P x.m)) t).k:=fun t ht=>by
  have h1:=row_mem ht;obtain⟨j,hj,e⟩:=lst_mem.1 (List.mem_filter.1 ((zdj _).mem_iff.1 h1)).1;rw[<- e];exact(h.rl.rd.is j hj).rng.1
 refine(acb x p nd (zbr p nd (T13.lst P x.m)) (zdn p nd M L d) w1 hn hk (fun W k=>zuq C h hb hl p nd k) (zul C h hd hl p hp nd)).mono ?_
 rintro e w' ⟨B,d',rfl,k,R⟩;refine⟨_,rfl,zso ?_ R,k⟩;have:=zqw (zdn p nd M L d) (zbr p nd (T13.lst P x.m)) [];rw[<- this,zvl h,aeu];rfl
theorem zxa(C:Con CS)(h:St CS w d q M L X w1 x Q P)(hd:d<=64)(hl:L.length<=100)(p:zaa)(hp:zah w1 p)(nd:Int)(I:List Int)(v:Value)(hI:zbv w1 v I)(hn:I.length<=100):
  Calls Tryz.prog 19 #[x.val,p.val,.int .i64 nd,v] w1 fun e w'=>e=.returned (.bool (zgn (zdn p nd M L d) I))/\Keep w1 w' :=
 zoc x p nd I v (zdn p nd M L d) w1 hI hn (zul C h hd hl p hp nd)
end
def zcu(w:World)(v:Value)(l:List zaa):Prop:=∃ A c P,v=.slice A l.length c/\zai w A l.length P/\(T13.lst P l.length).map nm=l/\(A=none->l.length=0/\c=0)
theorem zcu.are{w:World}{v:Value}{l:List zaa}(h:zcu w v l):zdl w v l:=by
 obtain⟨A,c,P,h1,h2,h3,_⟩:=h;exact⟨A,c,P,h1,h2,h3⟩
theorem zcu.keep{w w':World}{v:Value}{l:List zaa}(h:zcu w v l)(k:Keep w w'):zcu w' v l:=by
 obtain⟨A,c,P,h1,h2,h3⟩:=h;exact⟨A,c,P,h1,h2.keep k,h3⟩
theorem zoy{w:World}{v u:Value}{l:List zaa}(h:zdl w v l)(k:zdl w u l):Calls Tryz.prog 12 #[v,u] w fun e w'=>e=.returned (.bool true)/\Keep w w':=by
 obtain⟨A,c,P,rfl,h2,h3⟩:=h;obtain⟨B,d,Q,rfl,k2,k3⟩:=k;exact zyz A B l.length c d P Q w h2 k2 (zzb (h3.trans k3.symm))
def zkf:Prop:=∀ W,zbk W->Calls Tryz.prog 9 #[] W fun e w'=>e=.returned (.bool true)/\Keep W w'
structure zoa(CS:zbn):Prop where
 lower:∀ {w d q M L X w1} (p:zaa) (nd:Int),CS w d q M L X w1->zbk w1->zah w1 p->I64 nd->d<=64->M.length<=100->L.length<=100->PrB L ->
  Calls Tryz.prog 13 #[.pointer (some ⟨q,0,none⟩),p.val,.int .i64 nd] w1 fun e w'=>∃ v,e=.returned v/\zcu w' v (zbr p nd L)/\Keep w1 w'
 ids:∀ {w1} (A:Option Addr) (n c:Nat) (P:Nat->zaa),zai w1 A n P->(A=none->n=0/\c=0)->n<=1000 ->
  Calls Tryz.prog 23 #[.slice A n c] w1 fun e w'=>∃ v,e=.returned v/\zbv w' v (keys (T13.lst P n))/\Keep w1 w'
 possible:∀ {w d q M L X w1} (p:zaa) (nd:Int),CS w d q M L X w1->zbk w1->zah w1 p->I64 nd->d<=64->p.m<=1000->M.length<=100->L.length<=100->PrB L ->
  Calls Tryz.prog 15 #[.pointer (some ⟨q,0,none⟩),p.val,.int .i64 nd] w1 fun e w'=>e=.returned (.bool (zek p nd M L d))/\Keep w1 w'
 of:∀ {w d q M L X w1} (p:zaa) (nd:Int),CS w d q M L X w1->zbk w1->zah w1 p->I64 nd->d<=64->p.m<=1000->M.length<=100->L.length<=100->PrB L ->
  Calls Tryz.prog 11 #[.pointer (some ⟨q,0,none⟩),p.val,.int .i64 nd] w1 fun e w'=>∃ v,e=.returned (.tuple #[v,.bool (zek p nd M L d)])/\zcu w' v (if zek p nd M L d=true then zct p nd M L d else[])/\Keep w1 w'
 minimal:∀ {w d q M L X w1} (p:zaa) (nd:Int) (A:Option Addr) (n c:Nat) (P:Nat->zaa),CS w d q M L X w1->zbk w1->zah w1 p->I64 nd->d<=64->p.m<=1000->M.length<=100->L.length<=100->zai w1 A n P->(A=none->n=0/\c=0)->n<=100 ->
  Calls Tryz.prog 20 #[.pointer (some ⟨q,0,none⟩),p.val,.int .i64 nd,.slice A n c] w1 fun e w'=>e=.returned (.bool (zgn (zdn p nd M L d) (keys (T13.lst P n))))/\Keep w1 w'
 none:∀ (p:zaa) (nd:Int) (w1:World),zah w1 p->zbk w1->Calls Tryz.prog 15 #[.pointer none,p.val,.int .i64 nd] w1 fun e w'=>e=.returned (.bool false)/\Keep w1 w'
end Go.Proofs.YtcogiogjpbkeaaaGreatDoor.T18
