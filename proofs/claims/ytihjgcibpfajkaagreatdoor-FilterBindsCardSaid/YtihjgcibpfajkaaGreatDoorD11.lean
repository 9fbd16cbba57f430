/-
  The reference's Submit, Change. Conditions: at most 1000 pods.
  The reference's Change. Conditions: at most 1000 pods.
  The reference's Add of vectors. Conditions: at most 1048576 rows and elements.
-/
import Derived.Test.YtihjgcibpfajkaaGreatDoorD10
import Derived.Test.YtihjgcibpfajkaaGreatDoorD3
import Derived.Test.YtihjgcibpfajkaaGreatDoorD2
import Derived.Deep.RegionLaw
import Derived.Maps.AppendAt
namespace Go.Proofs.YtihjgcibpfajkaaGreatDoor.T14
open Go.RowKit Go.Sort Go.Lib V12 T13
set_option maxRecDepth 100000 in
set_option maxHeartbeats 8000000 in
theorem zss{w:World}{X:Nat→Prop}{w1:World}(d:Nat)(A:Option Addr)(n c:Nat)(B:Option Addr)(m e:Nat){P:Nat→zaa}{L:List zaa}(h:RL w X w1 B e m P)(hL:(lst P m).map nm=L)(y:zaa)(hy:zaf w y)(k:Keep w w1)(hX:∀ i,X i→i<w1.heap.size)(hn:m≤1000):
  Calls Tryz.prog 25 #[(⟨d,A,n,c,B,m,e⟩:RcV).val,y.val] w1 fun e' w'=>∃ B' c' n' P',e'=.returned (.tuple #[(⟨d,A,n,c,B',n',c'⟩:RcV).val,.int .i64 (sbC L d y),.int .i64 (wrI d y.m y.Z)])∧Keep w1 w'∧RL w (fun i=>X i∨(w1.heap.size≤i∧i<w'.heap.size)) w' B' c' n' P'∧(lst P' n').map nm=sbL L d y∧(sbC L d y=0→∃ t,t<n'∧findN P' y.k n'=(t:Int)∧nm (P' t)=zcl y L.length):=by
 obtain⟨W0,hW0⟩:∃ W0,W0=w1.alloc (.cells (⟨d,A,n,c,B,m,e⟩:RcV).arr 30):=⟨_,rfl⟩;obtain⟨W1,hW1⟩:∃ W1,W1=W0.alloc (.cells (zab y) 26):=⟨_,rfl⟩;obtain⟨W,hW⟩:∃ W,W=W1.alloc (.cells zrc.arr 30):=⟨_,rfl⟩;obtain⟨bx,hbx⟩:∃ bx,bx=w1.heap.size:=⟨_,rfl⟩;obtain⟨by',hby⟩:∃ by',by'=w1.heap.size+1:=⟨_,rfl⟩
 obtain⟨b,hb⟩:∃ b,b=w1.heap.size+1+1:=⟨_,rfl⟩;have s0:W0.heap.size=by':=by rw[hW0,World.size_alloc,hby]
 have s1:W1.heap.size=b:=by rw[hW1,World.size_alloc,s0,hb,hby]
 have KW:Hid (Keep w1 W):=by rw[hW,hW1,hW0];exact((Keep.one _ _).alloc _:Keep w1 _).alloc _
 have BX:Hid (W.heap[bx]?=some (.cells (⟨d,A,n,c,B,m,e⟩:RcV).arr 30 (0,0))):=by show _=_;rw[hW,hW1,hW0,hbx];exact(Keep.one _ _).block ((Keep.one _ _).block (heap_alloc_new _ _))
 have BY:Hid (W.heap[by']?=some (.cells (zab y) 26 (0,0))):=by show _=_;rw[hW,hW1,← s0];exact(Keep.one _ _).block (heap_alloc_new _ _)
 have BZ:Hid (W.heap[b]?=some (.cells zrc.arr 30 (0,0))):=by show _=_;rw[hW,← s1];exact heap_alloc_new _ _
 have cW:=Lib.hid (zeg y.A y.m y.c y.Z (d:Int) W (hy.rd.keep (k.trans KW.out)));have cS:=Lib.hid (ady (h.keep KW.out) hL 65536 y hy (k.trans KW.out) hn);have hm:max (d:Int) 0=d:=by omega
 have hb1:decide (0≤(d:Int))=true:=decide_eq_true (by omega)
 have hb2:decide ((d:Int)<0)=false:=decide_eq_false (by omega)
 obtain⟨c0,c1,c2,cf⟩:=zac BX.out;obtain⟨y0,y1,y2,y3,y4,y5,y6,y7,y8,yf⟩:=zah BY.out;obtain⟨z0,z1,z2,zf⟩:=zac BZ.out;obtain⟨r,hr⟩:∃ r,r=zae y.m y.Z d:=⟨_,rfl⟩;rw[← hr] at cW;have h':=Lib.hid h;have hL':=Lib.hid hL;have hX':=Lib.hid hX;have k':=Lib.hid k;clear h hy hL hX k;unfold zrc at z0 z1 z2
 by_cases hw:0≤r
 ·have e3:Hid (sbC L d y=3∧wrI d y.m y.Z=r∧sbL L d y=L):=by
   unfold sbC wrI sbL;rw[← hr,if_pos hw,if_pos hw,if_pos hw];exact⟨rfl,rfl,rfl⟩
  have B5:Hid ((zan W b ⟨d,A,n,c,B,m,e⟩).heap[b]?=some (.cells (⟨d,A,n,c,B,m,e⟩:RcV).arr 30 (0,0))):=zbm _ zrc BZ.out;have K5:Hid (Keep w1 (zan W b ⟨d,A,n,c,B,m,e⟩)):=zbh _ KW.out (by omega)
  simp only[RcV.arr] at hW0;unfold zab at hW1;simp only[RcV.arr,zrc] at hW;simp only[RcV.val];unfold zaa.val;replace hr:=Lib.hid hr;replace BX:=Lib.hid BX.out;clear y0 y1 y2 y3 y4 y5 y6 y7 y8 yf
  go_enter Tryz.func25,Tryz.ntmps25
  go_wp2_with fail;rw[← hW0,← hW1,← hW,← hb];try rw[← hby]
  try rw[← hbx]
  replace hW0:=Lib.hid hW0;replace hW1:=Lib.hid hW1;replace hW:=Lib.hid hW;replace hb:=Lib.hid hb;replace hby:=Lib.hid hby
  replace hbx:=Lib.hid hbx;replace s0:=Lib.hid s0;replace s1:=Lib.hid s1;refine cW.out.mono ?_;rintro e' w2 ⟨rfl,rfl⟩;go_wp2;obtain⟨e0,e1,e2,_⟩:=zac B5.out;simp only[zan] at *;refine bodyPost_ret (v:=.tuple #[.agg #[.int .i64 d,.slice A n c,.slice B m e],.int .i64 3,.int .i64 r]) (by simp[results,Tryz.results25,go_sem,e0,e1,e2]) rfl ⟨B,e,m,P,?_,K5.out,(h'.out.keep K5.out).less fun _=>Or.inl,?_,fun h=>?_⟩
  ·rw[e3.out.1,e3.out.2.1]
  ·rw[e3.out.2.2];exact hL'.out
  ·rw[e3.out.1] at h;exact absurd h (by decide)
 ·have e3:Hid (sbC L d y=zdx L 65536 y∧wrI d y.m y.Z=0∧sbL L d y=zek L 65536 y):=by
   unfold sbC wrI sbL;rw[← hr,if_neg hw,if_neg hw,if_neg hw];exact⟨rfl,rfl,rfl⟩
  obtain⟨cd,hcd⟩:∃ cd,cd=zdx L 65536 y:=⟨_,rfl⟩;rw[← hcd] at cS e3;unfold zaa.val at cS;simp only[RcV.arr] at hW0;unfold zab at hW1;simp only[RcV.arr,zrc] at hW;simp only[RcV.val];unfold zaa.val;replace hr:=Lib.hid hr;replace hcd:=Lib.hid hcd;have c0e:=c0;have c1e:=c1;have c2e:=c2;rw[hW,hW1,hW0] at c0e c1e c2e
  go_enter Tryz.func25,Tryz.ntmps25
  go_wp2_with fail;rw[← hW0,← hW1,← hW,← hb];try rw[← hby]
  try rw[← hbx]
  clear c0e c1e c2e;replace hb:=Lib.hid hb;replace hby:=Lib.hid hby
  replace hbx:=Lib.hid hbx;replace s0:=Lib.hid s0;replace s1:=Lib.hid s1;replace hW0:=Lib.hid hW0;replace hW1:=Lib.hid hW1;replace hW:=Lib.hid hW;refine cW.out.mono ?_;rintro e' w2 ⟨rfl,rfl⟩;go_wp2_with fail;refine cS.out.mono ?_;rintro e' w3 ⟨B',c',n',P',rfl,k3,rl,hl,ht⟩;have X3:=k3.block BX.out;have Z3:=k3.block BZ.out;clear c0 c1 c2 cf z0 z1 z2 zf y0 y1 y2 y3 y4 y5 y6 y7 y8 yf;obtain⟨c0,c1,c2,cf⟩:=zac X3;obtain⟨z0,z1,z2,zf⟩:=zac Z3;unfold zrc at z0 z1 z2;have vb:=hb.out;have vbx:=hbx.out;have hbxz:bx≠b:=by omega
  have Z4:(w3.setCell ⟨bx,2,none⟩ (.slice B' n' c')).heap[b]?=some (.cells zrc.arr 30 (0,0)):=(Below.heap_setCell _ _ _ _ (fun e=>hbxz e.symm)).trans Z3
  have B5:Hid ((zan (w3.setCell ⟨bx,2,none⟩ (.slice B' n' c')) b ⟨d,A,n,c,B',n',c'⟩).heap[b]?=some (.cells (⟨d,A,n,c,B',n',c'⟩:RcV).arr 30 (0,0))):=zbm _ zrc Z4;have K5:Hid (Keep w1 (zan (w3.setCell ⟨bx,2,none⟩ (.slice B' n' c')) b ⟨d,A,n,c,B',n',c'⟩)):=zbh _ ((KW.out.trans k3).set (by show w1.heap.size≤bx;omega) _) (by omega)
  have sz5:(zan (w3.setCell ⟨bx,2,none⟩ (.slice B' n' c')) b ⟨d,A,n,c,B',n',c'⟩).heap.size=w3.heap.size:=by rw[zct];simp
  have sw:w1.heap.size+3≤w2.heap.size:=by
   have:=lt_of_block BZ.out;omega
  have R5:Hid (RL w (fun i=>X i∨(w1.heap.size≤i∧i<(zan (w3.setCell ⟨bx,2,none⟩ (.slice B' n' c')) b ⟨d,A,n,c,B',n',c'⟩).heap.size)) (zan (w3.setCell ⟨bx,2,none⟩ (.slice B' n' c')) b ⟨d,A,n,c,B',n',c'⟩) B' c' n' P'):=by
   refine(rl.same (k'.out.trans K5.out) fun i hi=>?_).less fun i hi=>?_
   ·have hne:i≠bx∧i≠b:=by
     rcases hi with hi | hi
     ·have:=hX'.out i hi
      omega
     ·omega
    rw[zar _ hne.2,Below.heap_setCell _ _ _ _ hne.1]
   ·rcases hi with hi | hi
    ·exact Or.inl hi
    ·exact Or.inr ⟨by omega,by rw[sz5];exact hi.2⟩
  replace vb:=Lib.hid vb;replace vbx:=Lib.hid vbx;replace X3:=Lib.hid X3;replace Z3:=Lib.hid Z3;replace Z4:=Lib.hid Z4;replace rl:=Lib.hid rl;replace hl:=Lib.hid hl;replace ht:=Lib.hid ht;replace k3:=Lib.hid k3;replace sz5:=Lib.hid sz5;replace sw:=Lib.hid sw;go_wp2;obtain⟨e0,e1,e2,_⟩:=zac B5.out;simp only[zan] at *;refine bodyPost_ret (v:=.tuple #[.agg #[.int .i64 d,.slice A n c,.slice B' n' c'],.int .i64 cd,.int .i64 0]) (by simp[results,Tryz.results25,go_sem,e0,e1,e2]) rfl ⟨B',c',n',P',?_,K5.out,R5.out,?_,fun h=>?_⟩
  ·rw[e3.out.1,e3.out.2.1]
  ·rw[e3.out.2.2];exact hl.out
  ·rw[e3.out.1] at h
   exact ht.out h
end Go.Proofs.YtihjgcibpfajkaaGreatDoor.T14
namespace Go.Proofs.YtihjgcibpfajkaaGreatDoor.T14
open Go.RowKit Go.Sort Go.Lib V12 T13
theorem zpk{w w1 W w3:World}{X:Nat→Prop}{bx b:Nat}{d:Int}{A:Option Addr}{n c:Nat}{B':Option Addr}{n' c':Nat}{P':Nat→zaa}(k:Keep w w1)(KW:Keep w1 W)(h1:w1.heap.size≤bx)(h2:w1.heap.size≤b)(hne:bx≠b)(hbx:bx<W.heap.size)(hb:b<W.heap.size)(hX:∀ i,X i→i<w1.heap.size)
  (k3:Keep W w3) (BZ:w3.heap[b]?=some (.cells zrc.arr 30 (0,0))) (rl:RL w (fun i=>X i∨(W.heap.size≤i∧i<w3.heap.size)) w3 B' c' n' P') :
  (zan (w3.setCell ⟨bx,2,none⟩ (.slice B' n' c')) b ⟨d,A,n,c,B',n',c'⟩).heap[b]?=some (.cells (⟨d,A,n,c,B',n',c'⟩:RcV).arr 30 (0,0))∧Keep w1 (zan (w3.setCell ⟨bx,2,none⟩ (.slice B' n' c')) b ⟨d,A,n,c,B',n',c'⟩) ∧
  RL w (fun i=>X i∨(w1.heap.size≤i∧i<(zan (w3.setCell ⟨bx,2,none⟩ (.slice B' n' c')) b ⟨d,A,n,c,B',n',c'⟩).heap.size)) (zan (w3.setCell ⟨bx,2,none⟩ (.slice B' n' c')) b ⟨d,A,n,c,B',n',c'⟩) B' c' n' P':=by
 have Z4:(w3.setCell ⟨bx,2,none⟩ (.slice B' n' c')).heap[b]?=some (.cells zrc.arr 30 (0,0)):=(Below.heap_setCell _ _ _ _ (fun e=>hne e.symm)).trans BZ
 have K5:Keep w1 (zan (w3.setCell ⟨bx,2,none⟩ (.slice B' n' c')) b ⟨d,A,n,c,B',n',c'⟩):=zbh _ ((KW.trans k3).set h1 _) h2;have sz5:(zan (w3.setCell ⟨bx,2,none⟩ (.slice B' n' c')) b ⟨d,A,n,c,B',n',c'⟩).heap.size=w3.heap.size:=by rw[zct];simp
 have s0:=KW.size;refine⟨zbm _ zrc Z4,K5,(rl.same (k.trans K5) fun i hi=>?_).less fun i hi=>?_⟩
 ·have hne:i≠bx∧i≠b:=by
   rcases hi with hi | hi
   ·have:=hX i hi
    omega
   ·omega
  rw[zar _ hne.2,Below.heap_setCell _ _ _ _ hne.1]
 ·rcases hi with hi | hi
  ·exact Or.inl hi
  ·exact Or.inr ⟨by omega,by rw[sz5];exact hi.2⟩
def zgb(w w1:World)(X:Nat→Prop)(d:Int)(A:Option Addr)(n c:Nat)(L':List zaa)(cd ix:Int)(id:Int)(z:zaa)(e':Ending)(w':World):Prop :=
 ∃ B' c' n' P',e'=.returned (.tuple #[(⟨d,A,n,c,B',n',c'⟩:RcV).val,.int .i64 cd,.int .i64 ix])∧Keep w1 w'∧RL w (fun i=>X i∨(w1.heap.size≤i∧i<w'.heap.size)) w' B' c' n' P'∧(lst P' n').map nm=L'∧(cd=0→∃ t,t<n'∧findN P' id n'=(t:Int)∧nm (P' t)=z)
set_option maxRecDepth 100000 in
set_option maxHeartbeats 8000000 in
theorem zsr{w:World}{X:Nat→Prop}{w1:World}(d:Int)(A:Option Addr)(n c:Nat)(B:Option Addr)(m e:Nat){P:Nat→zaa}{L:List zaa}(h:RL w X w1 B e m P)(hL:(lst P m).map nm=L)(hok:LOk L)(id ev dl:Int)(hdl:I64 dl)(k:Keep w w1)(hX:∀ i,X i→i<w1.heap.size)(hn:m≤1000):
  Calls Tryz.prog 52 #[(⟨d,A,n,c,B,m,e⟩:RcV).val,.int .i64 id,.int .i64 ev,.int .i64 dl] w1 (zgb w w1 X d A n c (cgL L id ev dl) (cgC L id ev) 0 id (zao (zai L id) ev (-1) dl)):=by
 unfold zgb;obtain⟨W0,hW0⟩:∃ W0,W0=w1.alloc (.cells (⟨d,A,n,c,B,m,e⟩:RcV).arr 30):=⟨_,rfl⟩;obtain⟨W,hW⟩:∃ W,W=W0.alloc (.cells zrc.arr 30):=⟨_,rfl⟩;obtain⟨bx,hbx⟩:∃ bx,bx=w1.heap.size:=⟨_,rfl⟩;obtain⟨b,hb⟩:∃ b,b=w1.heap.size+1:=⟨_,rfl⟩;have s0:W0.heap.size=b:=by rw[hW0,World.size_alloc,hb]
 have KW:Hid (Keep w1 W):=by rw[hW,hW0];exact(Keep.one _ _:Keep w1 _).alloc _
 have BX:Hid (W.heap[bx]?=some (.cells (⟨d,A,n,c,B,m,e⟩:RcV).arr 30 (0,0))):=by show _=_;rw[hW,hW0,hbx];exact(Keep.one _ _).block (heap_alloc_new _ _)
 have BZ:Hid (W.heap[b]?=some (.cells zrc.arr 30 (0,0))):=by show _=_;rw[hW,← s0];exact heap_alloc_new _ _
 have hR:=h.rd.keep KW.out;have cF:=Lib.hid (zch B m e P id W hR);have cS:=Lib.hid (zwb (h.keep KW.out) hL hok id ev (-1) dl (by unfold I64;omega) hdl hn)
 have hfi:0≤findN P id m↔id∈keys L:=by
  rw[find_iff,← hL,zcq];refine⟨fun ⟨j,h,e⟩=>?_,fun h=>?_⟩
  ·exact List.mem_map.2 ⟨P j,lst_mem.2 ⟨j,h,rfl⟩,e⟩
  ·obtain⟨p,hp,e⟩:=List.mem_map.1 h
   obtain⟨j,hj,rfl⟩:=lst_mem.1 hp;exact⟨j,hj,e⟩
 obtain⟨c0,c1,c2,cf⟩:=zac BX.out;obtain⟨z0,z1,z2,zf⟩:=zac BZ.out;unfold zrc at z0 z1 z2;simp only at c0 c1 c2;have h':=Lib.hid h;have hL':=Lib.hid hL;have hX':=Lib.hid hX;have k':=Lib.hid k;obtain⟨r,hr⟩:∃ r,r=findN P id m:=⟨_,rfl⟩;rw[← hr] at cF hfi;replace hr:=Lib.hid hr;simp only[RcV.arr] at hW0;simp only[RcV.arr,zrc] at hW;have c2e:=c2;rw[hW,hW0] at c2e;simp only[RcV.val];have nochg:∀ cd,cgC L id ev=cd→cd≠0→Hid (∃ B' c' n' P',(B'=B∧c'=e∧n'=m)∧Keep w1 (zan W b ⟨d,A,n,c,B,m,e⟩)∧RL w (fun i=>X i∨(w1.heap.size≤i∧i<(zan W b ⟨d,A,n,c,B,m,e⟩).heap.size)) (zan W b ⟨d,A,n,c,B,m,e⟩) B' c' n' P'∧(lst P' n').map nm=cgL L id ev dl∧(cgC L id ev=0→∃ t,t<n'∧findN P' id n'=(t:Int)∧nm (P' t)=zao (zai L id) ev (-1) dl)):=fun cd hcd hne=>by
  have K5:Keep w1 (zan W b ⟨d,A,n,c,B,m,e⟩):=zbh _ KW.out (by omega)
  refine⟨B,e,m,P,⟨rfl,rfl,rfl⟩,K5,(h.keep K5).less fun _=>Or.inl,?_,fun h0=>absurd (hcd.symm.trans h0) hne⟩
  unfold cgL;rw[if_neg (by rw[hcd];exact hne)]
  exact hL
 have B5:Hid ((zan W b ⟨d,A,n,c,B,m,e⟩).heap[b]?=some (.cells (⟨d,A,n,c,B,m,e⟩:RcV).arr 30 (0,0))):=zbm _ zrc BZ.out;clear h hL hX k hR
 by_cases hk:id∈keys L
 ·have hr0:=hfi.2 hk
  by_cases he:ev=1∨ev=2
  ·have hc:cgC L id ev=8:=if_pos ⟨hk,he⟩
   have N5:=nochg 8 hc (by decide)
   rw[hc] at N5 ⊢;have hev:decide (ev=1)=true∨(decide (ev=1)=false∧decide (ev=2)=true):=by
    rcases he with rfl | rfl
    ·exact Or.inl (by decide)
    ·exact Or.inr ⟨by decide,by decide⟩
   clear nochg;replace hc:=Lib.hid hc;replace hk:=Lib.hid hk;replace hfi:=Lib.hid hfi;rcases he with rfl | rfl
   all_goals
    go_enter Tryz.func52,Tryz.ntmps52
    go_wp2_with fail;clear c2e;rw[← hW0,← hW,← hb];try rw[← hbx]
    replace hW0:=Lib.hid hW0;replace hW:=Lib.hid hW;replace hb:=Lib.hid hb;replace hbx:=Lib.hid hbx;replace s0:=Lib.hid s0;refine cF.out.mono ?_;rintro e' w2 ⟨rfl,rfl⟩;go_wp2;obtain⟨e0,e1,e2,_⟩:=zac B5.out;simp only[zan] at *;obtain⟨B',c',n',P',⟨rfl,rfl,rfl⟩,q2,q3,q4,q5⟩:=N5.out;refine bodyPost_ret (v:=.tuple #[.agg #[.int .i64 d,.slice A n c,.slice B' n' c'],.int .i64 8,.int .i64 0]) (by simp[results,Tryz.results52,go_sem,e0,e1,e2]) rfl ⟨B',c',n',P',rfl,q2,q3,q4,q5⟩
  ·have hc:cgC L id ev=zbi L id ev:=if_neg fun h=>he h.2
   have h1:¬ev=1:=fun h=>he (Or.inl h)
   have h2:¬ev=2:=fun h=>he (Or.inr h)
   have b1:(ev == 1)=false:=by simp[h1]
   have b2:(ev == 2)=false:=by simp[h2]
   have hg:Hid (cgL L id ev dl=zcn L id ev (-1) dl):=by
    show _=_
    unfold cgL zcn;rw[hc]
    by_cases h0:zbi L id ev=0
    ·simp only[h0,if_true]
    ·simp only[h0,if_false]
   rw[hc];obtain⟨cd,hcd⟩:∃ cd,cd=zbi L id ev:=⟨_,rfl⟩;rw[← hcd] at cS ⊢;clear nochg;replace hcd:=Lib.hid hcd;replace hc:=Lib.hid hc;replace hk:=Lib.hid hk;replace hfi:=Lib.hid hfi;replace he:=Lib.hid he
   go_enter Tryz.func52,Tryz.ntmps52
   go_wp2_with fail;clear c2e;rw[← hW0,← hW,← hb];try rw[← hbx]
   replace hW0:=Lib.hid hW0;replace hW:=Lib.hid hW;replace hb:=Lib.hid hb;replace hbx:=Lib.hid hbx;replace s0:=Lib.hid s0;refine cF.out.mono ?_;rintro e' w2 ⟨rfl,rfl⟩;go_wp2_with fail;refine cS.out.mono ?_;rintro e' w3 ⟨B',c',n',P',rfl,k3,rl,hl,ht⟩;have X3:=k3.block BX.out;have Z3:=k3.block BZ.out;clear c0 c1 c2 cf z0 z1 z2 zf;obtain⟨c0,c1,c2,cf⟩:=zac X3;obtain⟨z0,z1,z2,zf⟩:=zac Z3;unfold zrc at z0 z1 z2;simp only at c0 c1 c2;obtain⟨F1,F2,F3⟩:=zpk (d:=d) (A:=A) (n:=n) (c:=c) (bx:=bx) (b:=b) k'.out KW.out (by have:=hbx.out;omega) (by have:=hb.out;omega) (by have:=hb.out;have:=hbx.out;omega) (lt_of_block BX.out) (lt_of_block BZ.out) hX'.out k3 Z3 rl
   have F1:=Lib.hid F1;have F2:=Lib.hid F2;have F3:=Lib.hid F3;have hne:bx≠b:=by have:=hb.out;have:=hbx.out;omega
   replace X3:=Lib.hid X3;replace Z3:=Lib.hid Z3;replace rl:=Lib.hid rl;replace hl:=Lib.hid hl;replace ht:=Lib.hid ht;replace k3:=Lib.hid k3;go_wp2;obtain⟨e0,e1,e2,_⟩:=zac F1.out;simp only[zan] at *;refine bodyPost_ret (v:=.tuple #[.agg #[.int .i64 d,.slice A n c,.slice B' n' c'],.int .i64 cd,.int .i64 0]) (by simp[results,Tryz.results52,go_sem,e0,e1,e2]) rfl ⟨B',c',n',P',rfl,F2.out,F3.out,?_,ht.out⟩
   rw[hg.out];exact hl.out
 ·have hr0:r<0:=by
   have:¬0≤r:=fun h=>hk (hfi.1 h)
   omega
  have hc:cgC L id ev=5:=by
   unfold cgC zbi;rw[if_neg fun h=>hk h.1,if_pos hk]
  have N5:=nochg 5 hc (by decide)
  rw[hc] at N5 ⊢;clear nochg;replace hc:=Lib.hid hc;replace hk:=Lib.hid hk;replace hfi:=Lib.hid hfi
  go_enter Tryz.func52,Tryz.ntmps52
  go_wp2_with fail;clear c2e;rw[← hW0,← hW,← hb];try rw[← hbx]
  replace hW0:=Lib.hid hW0;replace hW:=Lib.hid hW;replace hb:=Lib.hid hb;replace hbx:=Lib.hid hbx;replace s0:=Lib.hid s0;refine cF.out.mono ?_;rintro e' w2 ⟨rfl,rfl⟩;go_wp2;obtain⟨e0,e1,e2,_⟩:=zac B5.out;simp only[zan] at *;obtain⟨B',c',n',P',⟨rfl,rfl,rfl⟩,q2,q3,q4,q5⟩:=N5.out;refine bodyPost_ret (v:=.tuple #[.agg #[.int .i64 d,.slice A n c,.slice B' n' c'],.int .i64 5,.int .i64 0]) (by simp[results,Tryz.results52,go_sem,e0,e1,e2]) rfl ⟨B',c',n',P',rfl,q2,q3,q4,q5⟩
end Go.Proofs.YtihjgcibpfajkaaGreatDoor.T14
namespace Go.Proofs.YtihjgcibpfajkaaGreatDoor.R14
open Go.RowKit V12
theorem Tryz.infoR14:(Tryz.prog.info? 2).map (fun i=>(i.zero,i.size,i.bytes))=some (some (.int .i64 0),1,8):=by kernel_rfl
theorem zfq{w w':World}{a:Addr}{v:Value}(hb:Below w.heap.size w w')(hc:w.cell? a=some v):w'.cell? a=some v:=Go.Proofs.YtihjgcibpfajkaaGreatDoor.Keep.cell (show Keep w w' from hb) hc
theorem zfs{w w':World}{a:Addr}{v:Value}(hb:Keep w w')(hc:w.cell? a=some v):w'.cell? a=some v:=zfq hb hc
theorem own_keep{w w':World}{base n:Nat}{e:TypeId}{z:Nat}{v:Value}{xs:List Value}(h:w.ownsRow base e z v n xs)(k:Keep w w'):w'.ownsRow base e z v n xs :=
 h.kept k.grown (Classical.em (v.ownBlock=none))
theorem zgd{B:Nat}{w a b:World}(h:Below B w a)(hB:B≤a.heap.size)(k:Keep a b):Below B w b:=h.trans (Below.mono k hB)
theorem afd(n:Int)(w:World):Calls Tryz.prog 103 #[.int .i64 n] w fun e w'=>e=.returned (.agg #[.int .i64 (hi n),.int .i64 (lo n)])∧Keep w w':=afc n w
theorem adq(a b:Int)(w:World)(h1:-1152921504606846976≤hi a)(h2:hi a≤1152921504606846976)(h3:-1152921504606846976≤hi b)(h4:hi b≤1152921504606846976):
  Calls Tryz.prog 104 #[.agg #[.int .i64 (hi a),.int .i64 (lo a)],.agg #[.int .i64 (hi b),.int .i64 (lo b)]] w fun e w'=>e=.returned (.agg #[.int .i64 (hi (a+b)),.int .i64 (lo (a+b))])∧Keep w w':=aac a b w h1 h2 h3 h4
theorem zxs(a:Int)(w:World)(h:-9223372036854775808≤a∧a≤9223372036854775807):
  Calls Tryz.prog 105 #[.agg #[.int .i64 (hi a),.int .i64 (lo a)]] w fun e w'=>e=.returned (.tuple #[.int .i64 a,.bool true])∧Keep w w':=ztm a w h.1 h.2
theorem zxq(a:Int)(w:World)(h:¬(-9223372036854775808≤a∧a≤9223372036854775807)):
  Calls Tryz.prog 105 #[.agg #[.int .i64 (hi a),.int .i64 (lo a)]] w fun e w'=>e=.returned (.tuple #[.int .i64 0,.bool false])∧Keep w w':=zxr a w h
theorem acl{x:Int}(h:-9223372036854775808≤x∧x≤9223372036854775807):-2147483648≤hi x∧hi x≤2147483647:=by unfold hi;omega
def ztq(R:Nat)(len:Nat→Nat)(Z:Nat→Nat→Int)(w:World)(e:Ending)(w':World):Prop :=
 Below w.heap.size w w' ∧
  ((zhw R len Z∧∃ A cap,e=.returned (.tuple #[.slice A (len 0) cap,.bool true])∧Rd w' A (len 0) (fun k=>sumTo R fun r=>Z r k)) ∨
    (¬zhw R len Z∧e=.returned (.tuple #[.slice none 0 0,.bool false])))
def znn(n:Int)(q:Nat):Value:=if q=0 then .int .i64 (hi n) else .int .i64 (lo n)
theorem zem{w w':World}{a:Addr}{v:Value}(hb:Keep w w')(hc:w.cell? a=some v)(hf:w.frozen? a=false):w'.frozen? a=false:=by
 rw[(show Below w.heap.size w w' from hb).frozen (World.block_lt_of_cell? _ _ hc)];exact hf
theorem num_row{w w':World}{b t:Nat}{n m:Int}(h:w.rowIs b t 2 (znn n))(k:Keep w w'):
  ((w'.setCell ⟨b,0,none⟩ (.int .i64 (hi m))).setCell ⟨b,1,none⟩ (.int .i64 (lo m))).rowIs b t 2 (znn m):=
 (((h.of_block (Below.block (show Below w.heap.size w w' from k) b h.lt)).set 0 _).set 1 _).congr (fun i hi=>by
   match i,hi with
   | 0,_=>rfl
   | 1,_=>rfl)
theorem zur{w w':World}{b:Nat}{x y:Value}(k:Keep w w')(hb:w.heap.size≤b):Keep w ((w'.setCell ⟨b,0,none⟩ x).setCell ⟨b,1,none⟩ y):=
 (Below.setCell (Below.setCell k hb x) hb y)
theorem zzg{n:Int}(h:inR n=false):¬(-9223372036854775808≤n∧n≤9223372036854775807):=by unfold inR at h;exact of_decide_eq_false h
theorem acm{R:Nat}{f:Nat→Int}(h:∀ k,k<R→-9223372036854775808≤f k∧f k≤9223372036854775807)(hR:R≤1048576):-1152921504606846976≤hi (sumTo R f)∧hi (sumTo R f)≤1152921504606846976:=by
 have:=zob h;unfold hi;omega
set_option maxHeartbeats 4000000 in
theorem radd_some(L:Option Addr)(R C:Nat)(A:Nat→Option Addr)(len K:Nat→Nat)(Z:Nat→Nat→Int)(w:World)(hL:Rds w L R A len K Z)(hR:R≤1048576)(hlen:∀ r,r<R→len r≤1048576)(h0:0<R):
  Calls Tryz.prog 80 #[.slice L R C] w (ztq R len Z w):=by
 obtain⟨i0,hi0,hz0,hz1,hz2⟩:=info_parts Tryz.infoR14;have hRz:(0:Int)<(R:Int):=by omega
 have hRb:((R:Int)== 0)=false:=by simp;omega
 obtain⟨b,off,rfl,ca⟩:=hL.adr h0;have hl0:=hlen 0 h0;replace hlen:Hid (∀ r,r<R→len r≤1048576):=hlen;replace ca:Hid (∀ j,j<R→w.cell? ⟨b,off+j,none⟩=some (.slice (A j) (len j) (K j))):=ca
 go_enter Tryz.func80,Tryz.ntmps80
 go_wp2
 go_loopg [4] R (fun g i wr=>∃ k:Nat,k≤R∧g=R - k∧i=.int .i64 k∧zau w wr∧Aside (∀ j,j<k→len j=len 0))
 case atStart=>exact⟨0,Nat.zero_le _,rfl,rfl,zau.refl _,fun _ h=>absurd h (Nat.not_lt_zero _)⟩
 case round =>
  obtain⟨k,hk,rfl,rfl,hd,hall⟩:=hrel;have g0:=zfq hd.below (ca.out 0 h0);rw[Nat.add_zero] at g0
  by_cases hlt:k<R
  ·have g1:=zfq hd.below (ca.out k hlt)
   by_cases hz:len k=len 0
   ·have hzb:((len k:Int) != (len 0:Int))=false:=by simp[hz]
    replace hz:Hid (len k=len 0):=hz;go_wp2
    go_quiet (fail)
    go_wp2;go_roundg (R - (k+1))
    case measure=>omega
    case rel=>exact⟨k+1,hlt,rfl,by go_num,hd.drewN _,fun j hj=>by
     rcases Nat.lt_succ_iff_lt_or_eq.1 hj with h | rfl
     ·exact hall.out j h
     ·exact hz.out⟩
   ·have hzb:((len k:Int) != (len 0:Int))=true:=by simp;omega
    replace hz:Hid (len k≠len 0):=hz;go_wp2
    go_quiet (fail)
    go_wp2;go_ret2
    exact⟨(hd.drewN _).below,Or.inr ⟨fun h=>hz.out (h.2.1 k hlt),rfl⟩⟩
  ·obtain rfl:k=R:=by omega
   go_wp2;clear hlt hk
   go_loopg [5,6] (len 0) (fun g ov i wq=>∃ c:Nat,c≤len 0∧g=len 0 - c∧i=.int .i64 c∧Below w.heap.size w wq∧wq.ownsRow w.heap.size 2 1 ov c (zbo c fun j=>sumTo k fun r=>Z r j)∧Aside (∀ j,j<c→inR (sumTo k fun r=>Z r j)=true))
   case atStart=>exact⟨0,Nat.zero_le _,rfl,rfl,hd.below,World.ownsRow_nil _ _ _ _,fun _ h=>absurd h (Nat.not_lt_zero _)⟩
   case round =>
    obtain⟨c,hc,rfl,rfl,hBc,hown,hin⟩:=hrel;clear g0 hd;have g0:=zfq hBc (ca.out 0 h0);rw[Nat.add_zero] at g0
    by_cases hlt:c<len 0
    ·go_wp2_with (go_at_call 103;refine(afd _ _).mono ?_;rintro e w1 ⟨rfl,hb1⟩)
     have hk2:Keep wr (w1.alloc (.cells #[.int .i64 (hi 0),.int .i64 (lo 0)] 168)):=hb1.trans ((Below.refl _ _).alloc (Nat.le_refl _) _)
     have hn2:(w1.alloc (.cells #[.int .i64 (hi 0),.int .i64 (lo 0)] 168)).rowIs w1.heap.size 168 2 (znn 0):=World.rowIs_alloc w1 #[.int .i64 (hi 0),.int .i64 (lo 0)] 168 (znn 0) (fun i hi=>by
      match i,hi with
      | 0,_=>rfl
      | 1,_=>rfl)
     have hsB:=hb1.size;generalize w1.alloc (.cells #[.int .i64 (hi 0),.int .i64 (lo 0)] 168)=w2 at hk2 hn2 ⊢;generalize w1.heap.size=Bn at hsB hn2 ⊢;clear hb1;replace hk2:Hid (Keep wr w2):=hk2;replace hn2:Hid (w2.rowIs Bn 168 2 (znn 0)):=hn2
     go_loopg [8] k (fun g i wx=>∃ r:Nat,r≤k∧g=k - r∧i=.int .i64 r∧Keep wr wx∧wx.rowIs Bn 168 2 (znn (sumTo r fun r=>Z r c)))
     case atStart=>exact⟨0,Nat.zero_le _,rfl,rfl,hk2.out,hn2.out⟩
     case round =>
      obtain⟨r,hr,rfl,rfl,hkx,hnx⟩:=hrel
      by_cases hrk:r<k
      ·have hLx:=(hL.below hBc).below hkx
       obtain⟨bx,ox,ex,cx⟩:=hLx.adr h0
       injection ex with ex
       injection ex with e1 e2 _
       subst e1 e2;have g1:=cx r hrk;obtain⟨br,ofr,er,cr⟩:=(hLx.row r hrk).adr (by rw[hall.out r hrk];omega)
       have hcr:c<len r:=by rw[hall.out r hrk];omega
       have g2:=cr c hcr;rw[er] at g1;have g3:=hnx.cell (i:=0) (by omega)
       have g4:=hnx.cell (i:=1) (by omega)
       have g5:=hnx.frozen 0;have g6:=hnx.frozen 1;simp only[znn,if_true,Nat.one_ne_zero,if_false] at g3 g4;obtain⟨p1,p2⟩:=acl ((hL.row r hrk).range c hcr);have hlr:=(hL.row r hrk).small;obtain⟨p3,p4⟩:=acm (R:=r) (f:=fun r=>Z r c) (fun q hq=>(hL.row q (by omega)).range c (by rw[hall.out q (by omega)];omega)) (by omega)
       clear cx cr er hLx g0;go_wp2_with fail
       go_region_law (first
         | (go_simp;go_at_call 103;refine(afd _ _).mono ?_;rintro e w1 ⟨rfl,hb1⟩;have f1:=zfs hb1 g3;have f2:=zfs hb1 g4;have f3:=zem hb1 g3 g5;have f4:=zem hb1 g4 g6)
         | (go_simp;go_at_call 104;refine(adq _ _ _ (by omega) (by omega) (by omega) (by omega)).mono ?_;rintro e w3 ⟨rfl,hb3⟩;have f5:=zfs hb3 f1;have f6:=zfs hb3 f2;have f7:=zem hb3 f1 f3;have f8:=zem hb3 f2 f4))
       all_goals
        have hkw:Keep wr w3:=Keep.trans (b:=w1) (Keep.ofDrew hb1) hb3;go_wp2;go_roundg (k - (r+1))
        case measure=>omega
        case rel=>exact⟨r+1,hrk,rfl,by go_num,zur (hkx.trans hkw) hsB,num_row hnx hkw⟩
      ·obtain rfl:r=k:=by omega
       have g3:=hnx.cell (i:=0) (by omega)
       have g4:=hnx.cell (i:=1) (by omega)
       simp only[znn,if_true,Nat.one_ne_zero,if_false] at g3 g4;have hBx:=zgd hBc hBc.size hkx;clear g0;cases hb:inR (sumTo r fun r=>Z r c)
       ·replace hb:Hid (inR (sumTo r fun r=>Z r c)=false):=hb
        go_wp2_with (go_at_call 105;refine(zxq _ _ (zzg hb.out)).mono ?_;rintro e w5 ⟨rfl,hb5⟩)
        go_ret2
        exact⟨zgd hBx hBx.size hb5,Or.inr ⟨(fun h=>by have:=h.2.2 c hlt;rw[hb.out] at this;cases this),rfl⟩⟩
       ·replace hb:Hid (inR (sumTo r fun r=>Z r c)=true):=hb
        have hown3:=own_keep hown hkx;clear hown;go_wp2_with fail;refine(zxs _ _ (zho hb.out)).mono ?_;rintro e w5 ⟨rfl,hb5⟩;have hown5:=own_keep hown3 hb5;have hB5:=zgd hBx hBx.size hb5;have hsz5:=hB5.size;go_wp2_with (at_builtin;refine wpList_append_own _ rfl _ _ 24 rfl w.heap.size 2 i0 (.int .i64 0) 1 8 Tryz.underlying24 hi0 hz0 hz1 hz2 rfl (by decide) _ _ _ rfl (hown5.alloc _) ⟨w5.heap.size,0,none⟩ 1 1 [.int .i64 (sumTo r fun r=>Z r c)] rfl rfl (cell_one_new _ _ _) (ints_oneCell .i64 [sumTo r fun r=>Z r c]) (by unfold maxLen;omega) (by omega) (by simp;omega) ?_;intro v' w6 hown6 hgrow hnil)
        have hB6:Below w.heap.size w w6:=(hB5.alloc hsz5 _).grown hgrow (by simp;omega) (fun q hq=>(hown5.lt q hq).1)
        rw[zsw c fun j=>sumTo r fun r=>Z r j] at hown6
        go_roundg (len 0 - (c+1))
        case measure=>omega
        case rel=>exact⟨c+1,hlt,rfl,by go_num,hB6,hown6,fun j hj=>by
         rcases Nat.lt_succ_iff_lt_or_eq.1 hj with h | rfl
         ·exact hin.out j h
         ·exact hb.out⟩
    ·obtain rfl:c=len 0:=by omega
     obtain⟨A',cap',rfl,hrd⟩:=zvy hown (by omega) (fun j hj=>zho (hin.out j hj))
     go_wp2;go_ret2
     exact⟨hBc,Or.inl ⟨⟨h0,hall.out,hin.out⟩,_,_,rfl,hrd⟩⟩
end Go.Proofs.YtihjgcibpfajkaaGreatDoor.R14
