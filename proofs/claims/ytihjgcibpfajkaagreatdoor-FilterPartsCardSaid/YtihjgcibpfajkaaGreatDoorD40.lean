/-
  slices.IndexFunc and slices.DeleteFunc over a row of pods of the call's own. Condition: at most 1048576 pods.
  reserve.Sees, Pods, Own, All; the reference's Sees. Condition: at most 100 pods.
  An append to an own row keeps what was there before the row. No condition.
-/
import Derived.Test.YtihjgcibpfajkaaGreatDoorD39
import Derived.Test.YtihjgcibpfajkaaGreatDoorD7
import Derived.Test.YtihjgcibpfajkaaGreatDoorD31
import Derived.Test.YtihjgcibpfajkaaGreatDoorD6
namespace Go.Proofs.YtihjgcibpfajkaaGreatDoor.T15
open Go.RowKit Go.Sort Go.Lib V12 T13 T14
structure Df(w:World)(df:Nat)(caps:Array Value)(g:Option Nat)(n:Nat)(Q:Nat→zaa)(f:zaa→Bool):Prop where
 en:∀ args w,(callFunc df args).run Tryz.prog w=.ok (.enter df args) w
 k:∀ W':World,(∀ i,i<w.heap.size→g≠some i→W'.heap[i]?=w.heap[i]?)→∀ x∈T13.lst Q n,Calls Tryz.prog df (#[x.val]++caps) W' fun e W''=>e=.returned (.bool (f x))∧Keep W' W''
theorem Df.later{w w1:World}{df:Nat}{caps:Array Value}{g:Option Nat}{n:Nat}{Q:Nat→zaa}{f:zaa→Bool}(h:Df w df caps g n Q f)(k:Keep w w1):Df w1 df caps g n Q f :=
 ⟨h.en,fun W' hW x hx=>h.k W' (fun i hi hn=>(hW i (Nat.lt_of_lt_of_le hi k.size) hn).trans (Below.block k i hi)) x hx⟩
set_option maxRecDepth 100000 in
set_option maxHeartbeats 4000000 in
theorem aav{w:World}{base n:Nat}{v:Value}{Q:Nat→zaa}(hR:zam w base v n Q)(hn:n≤1048576){df:Nat}{caps:Array Value}{f:zaa→Bool}(K:Df w df caps v.ownBlock n Q f):
  Calls Tryz.prog 159 #[v,.func (.func df) #[] caps] w fun e w'=>∃ r:Int,e=.returned (.int .i64 r)∧Keep w w'∧((r = -1∧∀ t,t<n→f (Q t)=false)∨∃ j,j<n∧r=(j:Int)∧f (Q j)=true∧∀ t,t<j→f (Q t)=false):=by
 obtain⟨A,c,rfl,hP⟩:=hR.rd (by omega)
 have eg:=K.en;replace K:=Lib.hid K;replace hP:=Lib.hid hP;clear hR
 go_enter Tryz.func159,Tryz.ntmps159
 go_wp2
 go_loopg [5,8] n (fun gx _ s8 wr=>∃ j:Nat,j≤n∧gx=n - j∧s8=.int .i64 j∧Hid (Keep w wr)∧Hid (∀ t,t<j→f (Q t)=false))
 case atStart=>exact⟨0,Nat.zero_le _,rfl,rfl,Keep.refl _,fun t h=>absurd h (Nat.not_lt_zero _)⟩
 case round =>
  obtain⟨j,hj,rfl,rfl,K1,NO⟩:=hrel
  by_cases hlt:j<n
  ·have R2:=hP.out.keep K1.out
   obtain⟨b,off,hA,ca⟩:=R2.adr (by omega)
   subst hA;have q1:=zbe b off n c j hlt;have X:=ca j hlt;clear ca;have hc:=Lib.hid ((K.out.later K1.out).k wr (fun _ _ _=>rfl) (Q j) (lst_mem.2 ⟨j,hlt,rfl⟩))
   obtain⟨x,hx⟩:∃ x,x=Q j:=⟨_,rfl⟩;rw[← hx] at X hc;have x0:=X.e0;have x1:=X.e1;have x2:=X.e2;have x3:=X.e3;have x4:=X.e4;have x5:=X.e5;have x6:=X.e6;have x7:=X.e7;have x8:=X.e8;clear X;obtain⟨r,hr⟩:∃ r,r=f x:=⟨_,rfl⟩;rw[← hr] at hc;rw[hx] at hr;replace hr:=Lib.hid hr;replace hx:=Lib.hid hx;replace R2:=Lib.hid R2;unfold zaa.val at hc;go_wp2_with fail;refine hc.out.mono ?_;rintro e w1 ⟨rfl,k1⟩;replace k1:=Lib.hid k1;cases r with
   | true =>
     go_wp2;go_ret
     exact⟨j,rfl,K1.out.trans k1.out,Or.inr ⟨j,hlt,rfl,hr.out.symm,NO.out⟩⟩
   | false =>
     have K2:Hid (Keep w w1):=K1.out.trans k1.out;have NO2:Hid (∀ t,t<j+1→f (Q t)=false):=fun t ht=>by
      by_cases e:t=j
      ·rw[e];exact hr.out.symm
      ·exact NO.out t (by omega)
     go_wp2;go_roundg (n - (j+1))
     case measure=>omega
     case rel=>exact⟨j+1,hlt,rfl,by go_num,K2,NO2⟩
  ·obtain rfl:j=n:=by omega
   go_wp2;go_ret
   exact⟨-1,rfl,K1.out,Or.inl ⟨rfl,NO.out⟩⟩
theorem zza{S Q:Nat→zaa}{f:zaa→Bool}{i j:Nat}(h:T13.lst S i=(T13.lst Q j).filter fun x=>!f x)(hf:f (Q j)=false):T13.lst (put S i (Q j)) (i+1)=(T13.lst Q (j+1)).filter fun x=>!f x:=by
 rw[zft,h,lst_succ,List.filter_append,List.filter_cons,if_pos (by rw[hf];rfl),List.filter_nil]
theorem znc{Q:Nat→zaa}{f:zaa→Bool}{j:Nat}{l:List zaa}(h:l=(T13.lst Q j).filter fun x=>!f x)(hf:f (Q j)=true):l=(T13.lst Q (j+1)).filter fun x=>!f x:=by
 rw[h,lst_succ,List.filter_append,List.filter_cons,if_neg (by rw[hf];decide),List.filter_nil,List.append_nil]
theorem zqi{Q:Nat→zaa}{f:zaa→Bool}{j:Nat}(h:∀ t,t<j→f (Q t)=false):T13.lst Q j=(T13.lst Q j).filter fun x=>!f x:=by
 refine(List.filter_eq_self.2 fun x hx=>?_).symm
 obtain⟨t,ht,rfl⟩:=lst_mem.1 hx;rw[h t ht];rfl
set_option maxRecDepth 100000 in
set_option maxHeartbeats 8000000 in
theorem aar{w:World}{base n:Nat}{v:Value}{Q:Nat→zaa}(hR:zam w base v n Q)(hn:n≤1048576){df:Nat}{caps:Array Value}{f:zaa→Bool}(K:Df w df caps v.ownBlock n Q f):
  Calls Tryz.prog 154 #[v,.func (.func df) #[] caps] w fun e w'=>∃ v' S,e=.returned v'∧zam w' base v' ((T13.lst Q n).filter fun x=>!f x).length S∧T13.lst S ((T13.lst Q n).filter fun x=>!f x).length=(T13.lst Q n).filter (fun x=>!f x)∧Fr (fun k=>v.ownBlock=some k) w w':=by
 obtain⟨A,c,hv,hP⟩:=hR.rd (by omega)
 subst hv;have eg:=K.en;have cI:=Lib.hid (aav hR hn K);replace K:=Lib.hid K;replace hR:=Lib.hid hR;replace hP:=Lib.hid hP
 go_enter Tryz.func154,Tryz.ntmps154
 go_wp2_with fail;refine cI.out.mono ?_;rintro e w1 ⟨r,rfl,K1,⟨rfl,NO⟩ | ⟨j0,hj0,rfl,YE,NO⟩⟩
 ·have e1:=zqi NO
  have e2:((T13.lst Q n).filter fun x=>!f x).length=n:=by rw[← e1,lst_len]
  replace e1:=Lib.hid e1;go_wp2;go_ret
  exact⟨_,Q,rfl,by rw[e2];exact hR.out.keep K1,by rw[e2];exact e1.out,Fr.of K1⟩
 ·obtain⟨g,cap,ev,_⟩:=hR.out.row.form (by omega)
  simp only[Value.slice.injEq] at ev;obtain⟨rfl,_,rfl⟩:=ev;have hcap:Hid ((n:Int)≤(c:Int)):=by have:=zdg hR.out.row;show _≤_;omega
  have R1:=Lib.hid (hR.out.keep K1);have F1:Hid (Fr (fun k=>k=g) w w1):=Fr.of K1
  have D:Hid (Df w df caps (some g) n Q f):=K.out;have E0:Hid (T13.lst Q j0=(T13.lst Q (j0+1)).filter fun x=>!f x):=znc (zqi NO) YE
  have hne1:((j0:Int)== -1)=false:=beq_eq_false_iff_ne.2 (by omega)
  clear K hP cI;replace YE:=Lib.hid YE;replace NO:=Lib.hid NO;replace K1:=Lib.hid K1;go_wp2
  go_loopg [5,6,7] (n - (j0+1)) (fun gx s5 s6 _ wr=>∃ (i j:Nat) (S:Nat→zaa),i<j∧j≤n∧gx=n - j∧s5=.int .i64 i∧s6=.int .i64 j∧Hid (zam wr base (.slice (some ⟨g,0,none⟩) n c) n S)∧Hid (Fr (fun k=>k=g) w wr)∧Hid (T13.lst S i=(T13.lst Q j).filter fun x=>!f x)∧Hid (∀ t,j≤t→t<n→S t=Q t))
  case atStart=>exact⟨j0,j0+1,Q,Nat.lt_succ_self _,hj0,rfl,rfl,by go_num,R1.out,F1.out,E0.out,fun _ _ _=>rfl⟩
  case round =>
   clear R1 F1 E0 hne1;obtain⟨i,j,S,hij,hj,rfl,rfl,rfl,RS,FS,ES,TS⟩:=hrel
   by_cases hlt:j<n
   ·have q1:=zbe g 0 n c j hlt
    have q2:=zbe g 0 n c i (by omega)
    have V:=zbz RS.out.row hlt;have eS:=TS.out j (Nat.le_refl _) hlt;obtain⟨x,hx⟩:∃ x,x=S j:=⟨_,rfl⟩;rw[← hx] at V eS;rw[Nat.zero_add] at q1 q2 V;have rqx:Hid (Req wr base x):=by rw[hx];exact RS.out.own j hlt
    have okx:Hid (zcx x):=by rw[hx];exact RS.out.ok j hlt
    obtain⟨b,hb⟩:∃ b,b=wr.heap.size:=⟨_,rfl⟩;obtain⟨W1,hW1⟩:∃ W1,W1=wr.alloc (.cells (zab x) 26):=⟨_,rfl⟩;have k1:Hid (Keep wr W1):=by rw[hW1];exact Keep.one _ _
    have B1:Hid (W1.heap[b]?=some (.cells (zab x) 26 (0,0))):=by show _=_;rw[hW1,hb];exact heap_alloc_new _ _
    have hc:=Lib.hid (D.out.k W1 (fun k hk hn=>(Below.block k1.out k (Nat.lt_of_lt_of_le hk FS.out.size)).trans (FS.out.block k hk fun e=>hn (by rw[e]))) x (lst_mem.2 ⟨j,hlt,eS.symm⟩))
    obtain⟨r,hr⟩:∃ r,r=f x:=⟨_,rfl⟩;rw[← hr] at hc;rw[eS] at hr;unfold zaa.val at hc;replace hr:=Lib.hid hr;replace hx:=Lib.hid hx;replace eS:=Lib.hid eS;have x0:=V.e0;have x1:=V.e1;have x2:=V.e2;have x3:=V.e3;have x4:=V.e4;have x5:=V.e5;have x6:=V.e6;have x7:=V.e7;have x8:=V.e8;clear V;have C1:=zah B1.out;have c0:=C1.e0;have c1:=C1.e1;have c2:=C1.e2;have c3:=C1.e3;have c4:=C1.e4;have c5:=C1.e5;have c6:=C1.e6;have c7:=C1.e7;have c8:=C1.e8;clear C1;rw[hW1,hb] at c0 c1 c2 c3 c4 c5 c6 c7 c8;unfold zab at hW1;unfold zab at c0 c1 c2 c3 c4 c5 c6 c7 c8;go_wp2_with fail;rw[← hW1];try rw[← hb]
    refine hc.out.mono ?_;rintro e w2 ⟨rfl,k2⟩;clear x0 x1 x2 x3 x4 x5 x6 x7 x8 c0 c1 c2 c3 c4 c5 c6 c7 c8 hc;replace hW1:=Lib.hid hW1;replace hb:=Lib.hid hb;have k12:Hid (Keep wr w2):=k1.out.trans k2;have R2:=Lib.hid (RS.out.keep k12.out);have F2:Hid (Fr (fun k=>k=g) w w2):=FS.out.keep k12.out
    have C2:=zah (Keep.block k2 B1.out);replace k2:=Lib.hid k2;cases r with
    | true =>
      have E2:Hid (T13.lst S i=(T13.lst Q (j+1)).filter fun x=>!f x):=znc ES.out hr.out.symm
      have T2:Hid (∀ t,j+1≤t→t<n→S t=Q t):=fun t h1 h2=>TS.out t (by omega) h2
      clear C2;go_wp2;go_roundg (n - (j+1))
      case measure=>omega
      case rel=>exact⟨i,j+1,S,by omega,hlt,rfl,rfl,by go_num,R2,F2,E2,T2⟩
    | false =>
      have E2:Hid (T13.lst (put S i x) (i+1)=(T13.lst Q (j+1)).filter fun x=>!f x):=by show _=_;rw[eS.out];exact zza ES.out hr.out.symm
      have T2:Hid (∀ t,j+1≤t→t<n→put S i x t=Q t):=fun t h1 h2=>by rw[put_ne _ _ _ (by omega)];exact TS.out t (by omega) h2
      obtain⟨W3,hW3⟩:∃ W3,W3=zfi w2 g (i * 9) x:=⟨_,rfl⟩;have R3:Hid (zam W3 base (.slice (some ⟨g,0,none⟩) n c) n (put S i x)):=by
       rw[hW3];exact R2.out.put9 (by omega) (own_keep rqx.out k12.out) okx.out
      have F3:Hid (Fr (fun k=>k=g) w W3):=by
       rw[hW3];exact F2.out.same (zns x)
      have V:=zbz R2.out.row (show i<n by omega)
      rw[Nat.zero_add] at V;have y0:=V.e0;have y1:=V.e1;have y2:=V.e2;have y3:=V.e3;have y4:=V.e4;have y5:=V.e5;have y6:=V.e6;have y7:=V.e7;have y8:=V.e8;clear V;have yf:=zwd R2.out.row;have c0:=C2.e0;have c1:=C2.e1;have c2:=C2.e2;have c3:=C2.e3;have c4:=C2.e4;have c5:=C2.e5;have c6:=C2.e6;have c7:=C2.e7;have c8:=C2.e8;clear C2;unfold zfi at hW3;go_wp2;rw[← hW3];replace hW3:=Lib.hid hW3;clear y0 y1 y2 y3 y4 y5 y6 y7 y8 yf c0 c1 c2 c3 c4 c5 c6 c7 c8;go_roundg (n - (j+1))
      case measure=>omega
      case rel=>exact⟨i+1,j+1,put S i x,by omega,hlt,rfl,by go_num,by go_num,R3,F3,E2,T2⟩
   ·obtain rfl:j=n:=by omega
    have hcl:=fun d ty=>zkc RS.out (i:=i) hij d ty
    obtain⟨r1,r2,r3⟩:=zhx (j - i) i RS.out (by omega)
    have r4:=r1.short (show i≤j by omega)
    obtain⟨W,hW⟩:∃ W,W=wr.setCells g (i * 9) (rep (j - i)):=⟨_,rfl⟩;rw[← hW] at r3 r4 hcl;have fin:Hid (∃ S,zam W base (.slice (some ⟨g,0,none⟩) i c) ((T13.lst Q j).filter fun x=>!f x).length S∧T13.lst S ((T13.lst Q j).filter fun x=>!f x).length=(T13.lst Q j).filter (fun x=>!f x)∧Fr (fun k=>some g=some k) w W):=by
     have e2:((T13.lst Q j).filter fun x=>!f x).length=i:=by rw[← ES.out,lst_len]
     refine⟨_,by rw[e2];exact r4,?_,(FS.out.same r3).less fun k hk=>by rw[hk]⟩
     rw[e2,← ES.out];exact zdy fun t ht=>if_neg (by omega)
    clear r1 r2 r3 r4;replace hW:=Lib.hid hW;have hc1:=hcap.out;have hij2:(i:Int)≤(j:Int):=by omega
    go_wp2;go_ret
    obtain⟨S',h2,h3,h4⟩:=fin.out;exact⟨_,S',rfl,h2,h3,h4⟩
end Go.Proofs.YtihjgcibpfajkaaGreatDoor.T15
namespace Go.Proofs.YtihjgcibpfajkaaGreatDoor.T15
open Go.RowKit Go.Sort Go.Lib V12 T13 T14
set_option maxRecDepth 100000 in
set_option maxHeartbeats 4000000 in
theorem aas(p q:zaa)(nd:Int)(w:World):Calls Tryz.prog 151 #[p.val,q.val,.int .i64 nd] w fun e w'=>e=.returned (.bool (zcy p nd q))∧Keep w w':=by
 have T:=two w p q;have KW:=Lib.hid T.k;have P0:=zah T.b0;have Q0:=zah T.b1;have p0:=P0.e0;have p1:=P0.e1;have q0:=Q0.e0;have q1:=Q0.e1;have q6:=Q0.e6;have q7:=Q0.e7;clear P0 Q0 T;unfold zab at p0 p1 q0 q1 q6 q7;unfold zaa.val
 by_cases h1:q.k=p.k
 ·have e:zcy p nd q=false:=decide_eq_false fun h=>h.1 h1
  have b1:(q.k != p.k)=false:=by simp[h1]
  rw[e];replace h1:=Lib.hid h1
  go_enter Tryz.func151,Tryz.ntmps151
  go_wp2;go_ret
  exact⟨rfl,KW.out⟩
 ·have b1:(q.k != p.k)=true:=by simp[h1]
  by_cases h2:q.h=2
  ·have b2:(q.h == 2)=true:=by simp[h2]
   by_cases h3:q.d=nd
   ·have b3:(q.d == nd)=true:=by simp[h3]
    have e:zcy p nd q=decide (p.p≤q.p):=by
     unfold zcy;rw[decide_eq_decide];exact⟨fun h=>h.2.2.2,fun h=>⟨h1,h2,h3,h⟩⟩
    rw[e];replace h1:=Lib.hid h1;replace h2:=Lib.hid h2;replace h3:=Lib.hid h3
    go_enter Tryz.func151,Tryz.ntmps151
    go_wp2;go_ret
    exact⟨rfl,KW.out⟩
   ·have b3:(q.d == nd)=false:=by simp[h3]
    have e:zcy p nd q=false:=decide_eq_false fun h=>h3 h.2.2.1
    rw[e];replace h1:=Lib.hid h1;replace h2:=Lib.hid h2;replace h3:=Lib.hid h3
    go_enter Tryz.func151,Tryz.ntmps151
    go_wp2;go_ret
    exact⟨rfl,KW.out⟩
  ·have b2:(q.h == 2)=false:=by simp[h2]
   have e:zcy p nd q=false:=decide_eq_false fun h=>h2 h.2.1
   rw[e];replace h1:=Lib.hid h1;replace h2:=Lib.hid h2
   go_enter Tryz.func151,Tryz.ntmps151
   go_wp2;go_ret
   exact⟨rfl,KW.out⟩
set_option maxHeartbeats 1000000 in
theorem zvm(p x:zaa)(nd:Int)(bp bn:Nat)(W:World)(cp:W.heap[bp]?=some (.cells (zab p) 26 (0,0)))(cn:W.cell? ⟨bn,0,none⟩=some (.int .i64 nd)):
  Calls Tryz.prog 150 #[x.val,.pointer (some ⟨bp,0,none⟩),.pointer (some ⟨bn,0,none⟩)] W fun e w'=>e=.returned (.bool (zcy p nd x))∧Keep W w':=by
 have k1:=Keep.one W (.cells (zab x) 26);have C:=zah (Keep.block k1 cp);have X:=zah (heap_alloc_new W (.cells (zab x) 26));have n0:=k1.cell cn;have cS:=Lib.hid (aas p x nd (W.alloc (.cells (zab x) 26)));have c0:=C.e0;have c1:=C.e1;have c2:=C.e2;have c3:=C.e3;have c4:=C.e4;have c5:=C.e5;have c6:=C.e6;have c7:=C.e7;have c8:=C.e8;have x0:=X.e0;have x1:=X.e1;have x2:=X.e2;have x3:=X.e3;have x4:=X.e4;have x5:=X.e5;have x6:=X.e6;have x7:=X.e7;have x8:=X.e8;clear C X cp cn;replace k1:=Lib.hid k1;unfold zab at *;unfold zaa.val at *
 go_enter Tryz.func150,Tryz.ntmps150
 go_wp2_with fail;refine cS.out.mono ?_;rintro e w2 ⟨rfl,k2⟩;replace k2:=Lib.hid k2;go_wp2;go_ret
 exact⟨rfl,k1.out.trans k2.out⟩
set_option maxHeartbeats 1000000 in
theorem zos(x:zaa)(bk:Nat){kf:Nat}{caps:Array Value}{f:zaa→Bool}(en:∀ args w,(callFunc kf args).run Tryz.prog w=.ok (.enter kf args) w)(W:World)(ck:W.cell? ⟨bk,0,none⟩=some (.func (.func kf) #[] caps))
  (hk:∀ W',Keep W W'→Calls Tryz.prog kf (#[x.val]++caps) W' fun e W''=>e=.returned (.bool (f x))∧Keep W' W'') :
  Calls Tryz.prog 155 #[x.val,.pointer (some ⟨bk,0,none⟩)] W fun e w'=>e=.returned (.bool (!f x))∧Keep W w':=by
 have k1:=Keep.one W (.cells (zab x) 26);have X:=zah (heap_alloc_new W (.cells (zab x) 26));have n0:=k1.cell ck;have cK:=Lib.hid (hk _ k1);have x0:=X.e0;have x1:=X.e1;have x2:=X.e2;have x3:=X.e3;have x4:=X.e4;have x5:=X.e5;have x6:=X.e6;have x7:=X.e7;have x8:=X.e8;clear X ck hk;replace k1:=Lib.hid k1;obtain⟨r,hr⟩:∃ r,r=f x:=⟨_,rfl⟩;rw[← hr] at cK ⊢;replace hr:=Lib.hid hr;unfold zab at *;unfold zaa.val at *
 go_enter Tryz.func155,Tryz.ntmps155
 go_wp2_with fail;refine cK.out.mono ?_;rintro e w2 ⟨rfl,k2⟩;replace k2:=Lib.hid k2;go_wp2;go_ret
 exact⟨rfl,k1.out.trans k2.out⟩
theorem zrv{w:World}{base n:Nat}{v:Value}{Q:Nat→zaa}(hR:zam w base v n Q)(hn:n≤1048576){kf:Nat}{caps:Array Value}{f:zaa→Bool}(K:Df w kf caps v.ownBlock n Q f):
  Calls Tryz.prog 149 #[v,.func (.func kf) #[] caps] w fun e w'=>∃ v' S,e=.returned v'∧zam w' base v' ((T13.lst Q n).filter f).length S∧T13.lst S ((T13.lst Q n).filter f).length=(T13.lst Q n).filter f∧Fr (fun k=>v.ownBlock=some k) w w':=by
 have bK:Boxed (w.alloc (.cells #[.func (.func kf) #[] caps] 239)) w.heap.size 239 (.func (.func kf) #[] caps):=Boxed.new _ _ _;have k1:Hid (Keep w (w.alloc (.cells #[.func (.func kf) #[] caps] 239))):=Keep.one _ _
 have D:Df (w.alloc (.cells #[.func (.func kf) #[] caps] 239)) 155 #[.pointer (some ⟨w.heap.size,0,none⟩)] v.ownBlock n Q fun x=>!f x:=⟨enters_of Tryz.func155 (by kernel_rfl) rfl,fun W' hW x hx=>by
  refine zos x w.heap.size K.en W' ?_ fun W'' k2=>K.k W'' (fun i hi hn=>?_) x hx
  ·rw[World.cell?_of_block (w:=w.alloc (.cells #[.func (.func kf) #[] caps] 239)) (hW w.heap.size (by rw[World.size_alloc];omega) fun e=>by have:=(hR.row.lt _ e).2;omega)]
   exact bK.cell
  ·have h1:=hW i (by rw[World.size_alloc];omega) hn
   have h2:=Below.block k1.out i hi;have hlt:i<W'.heap.size:=by
    have h3:i<(w.alloc (.cells #[.func (.func kf) #[] caps] 239)).heap.size:=by rw[World.size_alloc];omega
    rw[Array.getElem?_eq_getElem h3] at h1;exact(Array.getElem?_eq_some_iff.1 h1).1
   exact(Below.block k2 i hlt).trans (h1.trans h2)⟩
 have cD:=Lib.hid (aar (hR.keep k1.out) hn D);have hkf:=hR;clear D K;have e2:((T13.lst Q n).filter fun x=>!(!f x))=(T13.lst Q n).filter f:=List.filter_congr fun x _=>Bool.not_not _
 rw[e2] at cD;replace hR:=Lib.hid hR;clear hkf e2 bK
 go_enter Tryz.func149,Tryz.ntmps149
 go_wp2_with fail;refine cD.out.mono ?_;rintro e w2 ⟨v',S,rfl,h1,h2,h3⟩;have fin:Hid (zam w2 base v' ((T13.lst Q n).filter f).length S∧T13.lst S ((T13.lst Q n).filter f).length=(T13.lst Q n).filter f∧Fr (fun k=>v.ownBlock=some k) w w2):=⟨h1,h2,(Fr.of k1.out).same h3⟩
 clear h1 h2 h3;go_wp2;go_ret
 exact⟨v',S,rfl,fin.out⟩
theorem zot{w0 w:World}{n:Nat}{v:Value}{Q:Nat→zaa}(k0:Keep w0 w)(hR:zam w w0.heap.size v n Q)(hn:n≤1048576){L:List zaa}(hL:(T13.lst Q n).map nm=L){kf:Nat}{caps:Array Value}{f:zaa→Bool}(hf:∀ x,f (nm x)=f x)(K:Df w kf caps v.ownBlock n Q f):
  Calls Tryz.prog 149 #[v,.func (.func kf) #[] caps] w fun e w'=>∃ v' S,e=.returned v'∧zam w' w0.heap.size v' (L.filter f).length S∧(T13.lst S (L.filter f).length).map nm=L.filter f∧Keep w0 w':=by
 refine(zrv hR hn K).mono ?_;rintro e w' ⟨v',S,h1,h2,h3,h4⟩;have e1:L.filter f=((T13.lst Q n).filter f).map nm:=by
  rw[← hL,List.filter_map];exact congrArg (List.map nm) (List.filter_congr fun x _=>hf x)
 have e2:(L.filter f).length=((T13.lst Q n).filter f).length:=by rw[e1,List.length_map]
 rw[e2];exact⟨v',S,h1,h2,by rw[h3];exact e1.symm,Fr.low k0 h4 fun i hi=>(hR.row.lt i hi).1⟩
theorem aau(p:zaa)(nd:Int)(L:List zaa):(L.filter (onB nd)).filter (zcy p nd)=zbv p nd L:=by
 unfold zbv;rw[List.filter_filter];refine List.filter_congr fun x _=>?_
 cases h:zcy p nd x with
 | false=>rfl
 | true =>
   have:=of_decide_eq_true h;exact decide_eq_true ⟨this.2.2.1,by omega,by omega⟩
section
variable{CS:zba}{w w1:World}{d q:Nat}{M:List NV}{L:List zaa}{X:Nat→Prop}
set_option maxHeartbeats 4000000 in
theorem zwf(C:Con CS)(h:CS w d q M L X w1)(p:zaa)(nd:Int)(hd:I64 nd)(hl:L.length≤100):
  Calls Tryz.prog 139 #[.pointer (some ⟨q,0,none⟩),p.val,.int .i64 nd] w1 fun e w'=>∃ v S,e=.returned v∧zam w' w1.heap.size v (zbv p nd L).length S∧(T13.lst S (zbv p nd L).length).map nm=zbv p nd L∧Keep w1 w':=by
 obtain⟨W,hW⟩:∃ W,W=(w1.alloc (.cells (zab p) 26)).alloc (.cells #[.int .i64 nd] 3):=⟨_,rfl⟩;have s0:(w1.alloc (.cells (zab p) 26)).heap.size=w1.heap.size+1:=World.size_alloc _ _;have kW:Hid (Keep w1 W):=by rw[hW];exact(Keep.one _ _).alloc _
 have bP:Hid (W.heap[w1.heap.size]?=some (.cells (zab p) 26 (0,0))):=by rw[hW];exact(Keep.one _ _).block (heap_alloc_new _ _)
 have bN:Hid (W.heap[w1.heap.size+1]?=some (.cells #[.int .i64 nd] 3 (0,0))):=by rw[hW,← s0];exact heap_alloc_new _ _
 have n0:W.cell? ⟨w1.heap.size+1,0,none⟩=some (.int .i64 nd):=by rw[cell_of_row W _ _ _ _ _ bN.out];rfl
 have nN:=Lib.hid n0;have cO:=Lib.hid (C.on nd (C.keep h kW.out) hd hl);have cF:Hid (∀ w2 v S,zam w2 W.heap.size v (L.filter (onB nd)).length S→(T13.lst S (L.filter (onB nd)).length).map nm=L.filter (onB nd)→Keep W w2→Calls Tryz.prog 149 #[v,.func (.func 150) #[] #[.pointer (some ⟨w1.heap.size,0,none⟩),.pointer (some ⟨w1.heap.size+1,0,none⟩)]] w2 fun e w'=>∃ v' S',e=.returned v'∧zam w' w1.heap.size v' (zbv p nd L).length S'∧(T13.lst S' (zbv p nd L).length).map nm=zbv p nd L∧Keep w1 w'):=fun w2 v S hR hL k2=>by
  have lw:w1.heap.size+1<W.heap.size:=lt_of_block bN.out;refine(zot k2 hR (Nat.le_trans (Nat.le_trans (List.length_filter_le _ _) hl) (by omega)) hL (f:=zcy p nd) (fun _=>rfl) ⟨enters_of Tryz.func150 (by kernel_rfl) rfl,fun W' hW' x _=>?_⟩).mono ?_
  ·have off:∀ i,i<W.heap.size→W'.heap[i]?=W.heap[i]?:=fun i hi=>(hW' i (Nat.lt_of_lt_of_le hi k2.size) fun e=>by have:=(hR.row.lt i e).1;omega).trans (Below.block k2 i hi)
   exact zvm p x nd _ _ W' ((off _ (by omega)).trans bP.out) ((World.cell?_of_block (w:=W) (off _ lw)).trans nN.out)
  ·rintro e w' ⟨v',S',h1,h2,h3,h4⟩
   rw[aau] at h2 h3;exact⟨v',S',h1,h2.base kW.out.size,h3,kW.out.trans h4⟩
 clear bP bN nN;replace s0:=Lib.hid s0;replace h:=Lib.hid h;rw[hW] at n0;unfold zab at hW n0;unfold zaa.val
 go_enter Tryz.func139,Tryz.ntmps139
 go_wp2_with fail;rw[← hW];replace hW:=Lib.hid hW;clear n0;refine cO.out.mono ?_;rintro e w2 ⟨v,S,rfl,hR,hL,k2⟩;have cF2:=Lib.hid (cF.out w2 v S hR hL k2);clear cF cO hR hL;replace k2:=Lib.hid k2;go_wp2_with fail;refine cF2.out.mono ?_;rintro e w3 ⟨v',S',rfl,h1,h2,h3⟩;replace h1:=Lib.hid h1;replace h2:=Lib.hid h2;replace h3:=Lib.hid h3;go_wp2;go_ret
 exact⟨v',S',rfl,h1.out,h2.out,h3.out⟩
def ownB(L:List zaa)(id:Int):Bool:=decide ((zai L id).h=2)
end
end Go.Proofs.YtihjgcibpfajkaaGreatDoor.T15
namespace Go.Proofs.YtihjgcibpfajkaaGreatDoor.T15
open Go.RowKit Go.Sort Go.Lib V12 T13
theorem znf{w0 w1 w2:World}{base n z:Nat}{e:TypeId}{v:Value}{xs:List Value}(k:Keep w0 w1)(h:w1.ownsRow base e z v n xs)(hb:w0.heap.size≤base)(hg:w1.grownBy w2 v.ownBlock):Keep w0 w2 :=
 Fr.low k (Fr.grown (D:=fun i=>v.ownBlock=some i) hg fun _ e=>Or.inl e) fun i hi=>Nat.le_trans hb (h.lt i hi).1
end Go.Proofs.YtihjgcibpfajkaaGreatDoor.T15
