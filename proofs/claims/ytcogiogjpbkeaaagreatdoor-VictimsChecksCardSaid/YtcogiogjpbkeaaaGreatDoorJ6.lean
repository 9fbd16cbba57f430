/-
  The reference's Apply. Condition: at most 1000 pods.
-/
import Derived.Test.YtcogiogjpbkeaaaGreatDoorJ0
import Derived.Test.YtcogiogjpbkeaaaGreatDoorJ5
namespace Go.Proofs.YtcogiogjpbkeaaaGreatDoor.T13
open Go.RowKit Go.Sort Go.Lib V12
theorem amu{p:Int}(h1:p≠1)(h2:p≠2):nx p 1=0:=by unfold nx;rw[if_pos rfl,if_neg (by omega)]
theorem amv{p:Int}(h1:p≠1)(h2:p≠2):nx p 2=0:=by unfold nx;rw[if_neg (by decide),if_pos rfl,if_neg (by omega)]
theorem amw{p:Int}(h2:p≠2):nx p 3=0:=by unfold nx;rw[if_neg (by decide),if_neg (by decide),if_pos rfl,if_neg h2]
theorem amx{p:Int}(h2:p≠3):nx p 4=0:=by unfold nx;rw[if_neg (by decide),if_neg (by decide),if_neg (by decide),if_pos rfl,if_neg h2]
theorem amy{p:Int}(h1:1<=p)(h4:p<=4):nx p 5=5:=by unfold nx;rw[if_neg (by decide),if_neg (by decide),if_neg (by decide),if_neg (by decide),if_pos rfl,if_pos ⟨h1,h4⟩]
theorem zou{p e:Int}(h:p<1\/4<p):nx p e=0:=by
 unfold nx
 repeat' split
 all_goals first | rfl | omega
theorem zot{p e:Int}(h:e<1\/5<e):nx p e=0:=by
 unfold nx;rw[if_neg (by omega),if_neg (by omega),if_neg (by omega),if_neg (by omega),if_neg (by omega)]
set_option maxHeartbeats 1000000 in
theorem zfn(p e:Int)(w:World):Calls Tryz.prog 100 #[.int .i64 p,.int .i64 e] w fun r w'=>r=.returned (.int .i64 (nx p e))/\w=w':=by
 by_cases h1:e=1
 ·subst h1
  by_cases c1:p=1
  ·subst c1
   go_enter Tryz.func100,Tryz.ntmps100
   go_wp2;go_ret
   exact⟨rfl,rfl⟩
  by_cases c2:p=2
  ·subst c2
   go_enter Tryz.func100,Tryz.ntmps100
   go_wp2;go_ret
   exact⟨rfl,rfl⟩
  rw[amu c1 c2];have b1:(p == 1)=false:=by simpa using c1
  have b2:(p == 2)=false:=by simpa using c2
  go_enter Tryz.func100,Tryz.ntmps100
  go_wp2;go_ret
  exact⟨rfl,rfl⟩
 by_cases h2:e=2
 ·subst h2
  by_cases c1:p=1
  ·subst c1
   go_enter Tryz.func100,Tryz.ntmps100
   go_wp2;go_ret
   exact⟨rfl,rfl⟩
  by_cases c2:p=2
  ·subst c2
   go_enter Tryz.func100,Tryz.ntmps100
   go_wp2;go_ret
   exact⟨rfl,rfl⟩
  rw[amv c1 c2];have b1:(p == 1)=false:=by simpa using c1
  have b2:(p == 2)=false:=by simpa using c2
  go_enter Tryz.func100,Tryz.ntmps100
  go_wp2;go_ret
  exact⟨rfl,rfl⟩
 by_cases h3:e=3
 ·subst h3
  by_cases c2:p=2
  ·subst c2
   go_enter Tryz.func100,Tryz.ntmps100
   go_wp2;go_ret
   exact⟨rfl,rfl⟩
  rw[amw c2]
  go_enter Tryz.func100,Tryz.ntmps100
  go_wp2;go_ret
  exact⟨rfl,rfl⟩
 by_cases h4:e=4
 ·subst h4
  by_cases c2:p=3
  ·subst c2
   go_enter Tryz.func100,Tryz.ntmps100
   go_wp2;go_ret
   exact⟨rfl,rfl⟩
  rw[amx c2]
  go_enter Tryz.func100,Tryz.ntmps100
  go_wp2;go_ret
  exact⟨rfl,rfl⟩
 by_cases h5:e=5
 ·subst h5
  by_cases c1:p<1
  ·rw[zou (Or.inl c1)]
   go_enter Tryz.func100,Tryz.ntmps100
   go_wp2;go_ret
   exact⟨rfl,rfl⟩
  by_cases c4:4<p
  ·rw[zou (Or.inr c4)]
   go_enter Tryz.func100,Tryz.ntmps100
   go_wp2;go_ret
   exact⟨rfl,rfl⟩
  rw[amy (by omega) (by omega)]
  go_enter Tryz.func100,Tryz.ntmps100
  go_wp2;go_ret
  exact⟨rfl,rfl⟩
 rw[zot (by omega)]
 go_enter Tryz.func100,Tryz.ntmps100
 go_wp2;go_ret
 exact⟨rfl,rfl⟩
theorem zlu{w:World}{g N i k:Nat}{P:Nat->zaa}{x':zaa}{u:Value}(h:∀ j,j<N->zcr w g (j * 9) (P j))(hi:i<N)(hk:k<9)(hx:zcr (w.setCell ⟨g,i * 9+k,none⟩ u) g (i * 9) x'):∀ j,j<N->zcr (w.setCell ⟨g,i * 9+k,none⟩ u) g (j * 9) (put P i x' j):=by
 intro j hj
 by_cases e:j=i
 ·subst e
  rw[zat];exact hx
 ·rw[zbj _ _ _ e]
  have hc:=h j hj;have far:∀ t v,t<9->w.cell? ⟨g,j * 9+t,none⟩=some v->(w.setCell ⟨g,i * 9+k,none⟩ u).cell? ⟨g,j * 9+t,none⟩=some v:=fun t v ht hv=>by
   rw[World.cell?_setCell_other w _ _ _ (by intro e2;simp only[Addr.mk.injEq,and_true,true_and] at e2;omega)]
   exact hv
  exact⟨far 0 _ (by omega) hc.e0,far 1 _ (by omega) hc.e1,far 2 _ (by omega) hc.e2,far 3 _ (by omega) hc.e3,far 4 _ (by omega) hc.e4,far 5 _ (by omega) hc.e5,far 6 _ (by omega) hc.e6,far 7 _ (by omega) hc.e7,far 8 _ (by omega) hc.e8⟩
theorem zaq{w:World}{g o k t:Nat}{u v:Value}(hne:t≠k)(h:w.cell? ⟨g,o+t,none⟩=some v):(w.setCell ⟨g,o+k,none⟩ u).cell? ⟨g,o+t,none⟩=some v:=by
 rw[World.cell?_setCell_other w _ _ _ (by intro e2;simp only[Addr.mk.injEq,and_true,true_and] at e2;omega)]
 exact h
theorem amk{w:World}{g o:Nat}{x:zaa}(h:zcr w g o x)(u:Int):zcr (w.setCell ⟨g,o+6,none⟩ (.int .i64 u)) g o { x with h:=u } :=
 ⟨zaq (t:=0) (by decide) h.e0,zaq (by decide) h.e1,zaq (by decide) h.e2,zaq (by decide) h.e3,zaq (by decide) h.e4,zaq (by decide) h.e5,World.cell?_setCell_same w _ _ h.e6,zaq (by decide) h.e7,zaq (by decide) h.e8⟩
theorem amj{w:World}{g o:Nat}{x:zaa}(h:zcr w g o x)(u:Int):zcr (w.setCell ⟨g,o+7,none⟩ (.int .i64 u)) g o { x with d:=u } :=
 ⟨zaq (t:=0) (by decide) h.e0,zaq (by decide) h.e1,zaq (by decide) h.e2,zaq (by decide) h.e3,zaq (by decide) h.e4,zaq (by decide) h.e5,zaq (by decide) h.e6,World.cell?_setCell_same w _ _ h.e7,zaq (by decide) h.e8⟩
theorem ajb{w:World}{g o:Nat}{x:zaa}(h:zcr w g o x)(u:Int):zcr (w.setCell ⟨g,o+8,none⟩ (.int .i64 u)) g o { x with t:=u } :=
 ⟨zaq (t:=0) (by decide) h.e0,zaq (by decide) h.e1,zaq (by decide) h.e2,zaq (by decide) h.e3,zaq (by decide) h.e4,zaq (by decide) h.e5,zaq (by decide) h.e6,zaq (by decide) h.e7,World.cell?_setCell_same w _ _ h.e8⟩
theorem zwx(P:Nat->zaa)(i:Nat)(a b:zaa):put (put P i a) i b=put P i b:=by
 funext j
 unfold put
 split<;>rfl
def appW(w:World)(g o:Nat)(to:Int)(k:Nat)(u:Int):World:=((w.setCell ⟨g,o+6,none⟩ (.int .i64 to)).setCell ⟨g,o+8,none⟩ (.int .i64 (-1))).setCell ⟨g,o+k,none⟩ (.int .i64 u)
theorem app_row{w:World}{g N i:Nat}{P:Nat->zaa}(h:∀ j,j<N->zcr w g (j * 9) (P j))(hi:i<N)(to u:Int):
  (∀ j,j<N->zcr (appW w g (i * 9) to 8 u) g (j * 9) (put P i { P i with h:=to,t:=u } j))/\(∀ j,j<N->zcr (appW w g (i * 9) to 7 u) g (j * 9) (put P i { P i with h:=to,t:=-1,d:=u } j)):=by
 unfold appW;have h1:=zlu h hi (k:=6) (by omega) (amk (h i hi) to)
 have h2:=zlu h1 hi (k:=8) (by omega) (ajb (by have:=h1 i hi;rw[zat] at this;exact this) (-1))
 rw[zwx] at h2;have h3:=zlu h2 hi (k:=8) (by omega) (ajb (by have:=h2 i hi;rw[zat] at this;exact this) u)
 have h4:=zlu h2 hi (k:=7) (by omega) (amj (by have:=h2 i hi;rw[zat] at this;exact this) u)
 rw[zwx] at h3 h4;exact⟨h3,h4⟩
theorem zgi{w0 w:World}{g o k:Nat}{to u:Int}(h:Keep w0 w)(hg:w0.heap.size<=g):Keep w0 (appW w g o to k u):=((h.set hg _).set hg _).set hg _
set_option maxRecDepth 100000 in
set_option maxHeartbeats 16000000 in
theorem zyu(B:Option Addr)(cp N:Nat)(P:Nat->zaa)(id ev nd dl:Int)(W:World)(hR:zai W B N P)  (hk:¬0<=findN P id N) :
  Calls Tryz.prog 101 #[.slice B N cp,.int .i64 id,.int .i64 ev,.int .i64 nd,.int .i64 dl] W fun e w'=>e=.returned (.tuple #[.slice B N cp,.int .i64 5])/\W=w':=by
 obtain⟨r,hr⟩:=Zn (findN P id N);have cF:=Zq (zdg B N cp P id W hR);rw[<- hr] at cF;have hr0:r<0:=by rw[hr];omega
 replace hr:=Zq hr;clear hR
 go_enter Tryz.func101,Tryz.ntmps101
 go_wp2_with fail;refine cF.out.mono ?_;rintro e w1 ⟨rfl,rfl⟩;go_wp2;go_ret2
 exact⟨rfl,rfl⟩
set_option maxRecDepth 100000 in
set_option maxHeartbeats 16000000 in
theorem acd(B:Option Addr)(cp N:Nat)(P:Nat->zaa)(id ev nd dl:Int)(W:World)(hR:zai W B N P)  (i:Nat) (hi:i<N) (hf:findN P id N=i) (hx:nx (P i).h ev=0) :
  Calls Tryz.prog 101 #[.slice B N cp,.int .i64 id,.int .i64 ev,.int .i64 nd,.int .i64 dl] W fun e w'=>e=.returned (.tuple #[.slice B N cp,.int .i64 8])/\W=w':=by
 obtain⟨r,hr⟩:=Zn (findN P id N);have cF:=Zq (zdg B N cp P id W hR);rw[<- hr] at cF;rw[hf] at hr;subst hr;have cN:=Zq (fun W=>zfn (P i).h ev W)
 obtain⟨b,off,rfl,ca⟩:=hR.adr (by omega)
 have q1:=zar b off N cp i hi;have x6:=(ca i hi).e6;have hN':=hR.small;rw[hx] at cN;obtain⟨h,hh⟩:=Zn ((P i).h);rw[<- hh] at cN x6;replace hh:=Zq hh;replace hf:=Zq hf;replace hx:=Zq hx;clear hR ca
 go_enter Tryz.func101,Tryz.ntmps101
 go_wp2_with fail;refine cF.out.mono ?_;rintro e w1 ⟨rfl,rfl⟩;go_wp2_with fail;refine(cN.out _).mono ?_;rintro e w1 ⟨rfl,rfl⟩;go_wp2;go_ret2
 exact⟨rfl,rfl⟩
set_option maxRecDepth 100000 in
set_option maxHeartbeats 16000000 in
theorem ace(B:Option Addr)(cp N:Nat)(P:Nat->zaa)(id nd dl:Int)(W:World)(hR:zai W B N P)  (hN:N<=1000) (hnd:I64 nd) (i:Nat) (hi:i<N) (hf:findN P id N=i) (hx:nx (P i).h 1≠0) :
  Calls Tryz.prog 101 #[.slice B N cp,.int .i64 id,.int .i64 1,.int .i64 nd,.int .i64 dl] W fun e w'=>∃ g c',e=.returned (.tuple #[.slice (some ⟨g,0,none⟩) N c',.int .i64 0])/\Keep W w'/\N<=c'/\W.heap.size<=g/\zai w' (some ⟨g,0,none⟩) N (put P i (zay (P i) 1 nd dl)):=by
 obtain⟨r,hr⟩:=Zn (findN P id N);have cF:=Zq (zdg B N cp P id W hR);rw[<- hr] at cF;rw[hf] at hr;subst hr;have cN:=Zq (fun W=>zfn (P i).h 1 W)
 obtain⟨b,off,rfl,ca⟩:=hR.adr (by omega)
 have q1:=zar b off N cp i hi;have x6:=(ca i hi).e6;have hN':=hR.small;have RW:=Zq hR;have hin:=zkr hx;obtain⟨to,hto⟩:=Zn (nx (P i).h 1);rw[<- hto] at cN hx hin;have to0:(to == 0)=false:=by simpa using hx
 have is':Hid (∀ j,j<N->zah W (put P i (zay (P i) 1 nd dl) j)):=fun j hj=>by
  by_cases e:j=i
  ·subst e
   rw[zat];have h0:=hR.is j hj;refine⟨h0.rd,h0.nil,h0.rng.1,h0.rng.2.1,h0.rng.2.2.1,h0.rng.2.2.2.1,?_,?_,?_⟩
   ·show I64 (nx (P j).h 1)
    rw[<- hto];unfold I64;omega
   ·show I64 (if (1:Int)=1\/(1:Int)=2 then nd else if (1:Int)=3\/(1:Int)=5 then -1 else(P j).d)
    first
     | (rw[if_pos (by decide)];exact hnd)
     | (rw[if_neg (by decide),if_pos (by decide)];unfold I64;omega)
     | (rw[if_neg (by decide),if_neg (by decide)];exact h0.rng.2.2.2.2.2.1)
   ·show I64 (if (1:Int)=4 then dl else -1)
    first
     | (rw[if_pos (by decide)];exact hdl)
     | (rw[if_neg (by decide)];unfold I64;omega)
  ·rw[zbj _ _ _ e]
   exact hR.is j hj
 have epod:Hid (({ P i with h:=to,t:=-1,d:=nd }:zaa)=zay (P i) 1 nd dl):=by
  show _=_
  rw[hto];rfl
 obtain⟨h,hh⟩:=Zn ((P i).h);rw[<- hh] at cN x6;replace hh:=Zq hh;replace hf:=Zq hf;replace hto:=Zq hto;replace hx:=Zq hx;replace hin:=Zq hin;clear hR ca
 go_enter Tryz.func101,Tryz.ntmps101
 go_wp2_with fail;refine cF.out.mono ?_;rintro e w1 ⟨rfl,rfl⟩;go_wp2_with fail;refine(cN.out _).mono ?_;rintro e w1 ⟨rfl,rfl⟩;clear cF cN;go_wp2_with (at_builtin;refine zdz Tryz.tyP13 rfl _ _ rfl W.heap.size (.slice (some ⟨W.heap.size,0,none⟩) 0 0) 0 [] (by simp[Act.eval]) (zdp (Nat.le_refl _) (heap_alloc_new _ _)) (.slice (some ⟨b,off,none⟩) N cp) N (zaj P N) (by simp[Act.eval]) (zge (RW.out.keep (Keep.one _ _)) (fun h=>by cases h)) (zbf _ _) (by omega) (by simp) N (Nat.zero_add _) ?_;intro v5 w5 hr5 hg5;have K5:Hid (Keep W w5):=zad (Keep.one _ _) hg5 (fun q hq=>by simp[Value.ownBlock] at hq;omega);have F5:=hr5.form (by omega);obtain⟨g5,cap5,e5,_,_⟩:=F5;subst e5;simp only[List.nil_append] at hr5;have C5:Hid (∀ j,j<N->zcr w5 g5 (j * 9) (P j)):=(fun j hj=>(by have:=zcg hr5 hj;rwa [Nat.zero_add] at this));have q5:=zar g5 0 N cap5 i hi;rw[Nat.zero_add] at q5;have z6:=(C5.out i hi).e6;have z7:=(C5.out i hi).e7;have z8:=(C5.out i hi).e8;have y8:∀ u,(w5.setCell ⟨g5,i * 9+6,none⟩ u).cell? ⟨g5,i * 9+8,none⟩=some (.int .i64 (P i).t):=(fun u=>zaq (by decide) z8);have y9:∀ u v,((w5.setCell ⟨g5,i * 9+6,none⟩ u).setCell ⟨g5,i * 9+8,none⟩ v).cell? ⟨g5,i * 9+8,none⟩=some v:=(fun u v=>World.cell?_setCell_same _ _ _ (y8 u));have y7:∀ u v,((w5.setCell ⟨g5,i * 9+6,none⟩ u).setCell ⟨g5,i * 9+8,none⟩ v).cell? ⟨g5,i * 9+7,none⟩=some (.int .i64 (P i).d):=(fun u v=>zaq (by decide) (zaq (by decide) z7));have hf6:=hr5.frozenAt (i * 9+6);have hf7:=hr5.frozenAt (i * 9+7);have hf8:=hr5.frozenAt (i * 9+8);have G5:=Zq (hr5.lt g5 rfl).1;have CP5:=Zq (zds hr5);replace hr5:=Zq hr5;replace hg5:=Zq hg5)
 go_ret2
 have KF:Keep W (appW w5 g5 (i * 9) to 7 nd):=zgi K5.out G5.out;refine⟨g5,cap5,rfl,KF,CP5.out,G5.out,⟨by omega,fun _=>⟨g5,0,rfl,fun j hj=>?_⟩,fun j hj=>(is'.out j hj).keep KF⟩⟩
 have:=(app_row C5.out hi to nd).2 j hj;rw[epod.out] at this;rw[Nat.zero_add];exact this
set_option maxRecDepth 100000 in
set_option maxHeartbeats 16000000 in
theorem acf(B:Option Addr)(cp N:Nat)(P:Nat->zaa)(id nd dl:Int)(W:World)(hR:zai W B N P)  (hN:N<=1000) (hnd:I64 nd) (i:Nat) (hi:i<N) (hf:findN P id N=i) (hx:nx (P i).h 2≠0) :
  Calls Tryz.prog 101 #[.slice B N cp,.int .i64 id,.int .i64 2,.int .i64 nd,.int .i64 dl] W fun e w'=>∃ g c',e=.returned (.tuple #[.slice (some ⟨g,0,none⟩) N c',.int .i64 0])/\Keep W w'/\N<=c'/\W.heap.size<=g/\zai w' (some ⟨g,0,none⟩) N (put P i (zay (P i) 2 nd dl)):=by
 obtain⟨r,hr⟩:=Zn (findN P id N);have cF:=Zq (zdg B N cp P id W hR);rw[<- hr] at cF;rw[hf] at hr;subst hr;have cN:=Zq (fun W=>zfn (P i).h 2 W)
 obtain⟨b,off,rfl,ca⟩:=hR.adr (by omega)
 have q1:=zar b off N cp i hi;have x6:=(ca i hi).e6;have hN':=hR.small;have RW:=Zq hR;have hin:=zkr hx;obtain⟨to,hto⟩:=Zn (nx (P i).h 2);rw[<- hto] at cN hx hin;have to0:(to == 0)=false:=by simpa using hx
 have is':Hid (∀ j,j<N->zah W (put P i (zay (P i) 2 nd dl) j)):=fun j hj=>by
  by_cases e:j=i
  ·subst e
   rw[zat];have h0:=hR.is j hj;refine⟨h0.rd,h0.nil,h0.rng.1,h0.rng.2.1,h0.rng.2.2.1,h0.rng.2.2.2.1,?_,?_,?_⟩
   ·show I64 (nx (P j).h 2)
    rw[<- hto];unfold I64;omega
   ·show I64 (if (2:Int)=1\/(2:Int)=2 then nd else if (2:Int)=3\/(2:Int)=5 then -1 else(P j).d)
    first
     | (rw[if_pos (by decide)];exact hnd)
     | (rw[if_neg (by decide),if_pos (by decide)];unfold I64;omega)
     | (rw[if_neg (by decide),if_neg (by decide)];exact h0.rng.2.2.2.2.2.1)
   ·show I64 (if (2:Int)=4 then dl else -1)
    first
     | (rw[if_pos (by decide)];exact hdl)
     | (rw[if_neg (by decide)];unfold I64;omega)
  ·rw[zbj _ _ _ e]
   exact hR.is j hj
 have epod:Hid (({ P i with h:=to,t:=-1,d:=nd }:zaa)=zay (P i) 2 nd dl):=by
  show _=_
  rw[hto];rfl
 obtain⟨h,hh⟩:=Zn ((P i).h);rw[<- hh] at cN x6;replace hh:=Zq hh;replace hf:=Zq hf;replace hto:=Zq hto;replace hx:=Zq hx;replace hin:=Zq hin;clear hR ca
 go_enter Tryz.func101,Tryz.ntmps101
 go_wp2_with fail;refine cF.out.mono ?_;rintro e w1 ⟨rfl,rfl⟩;go_wp2_with fail;refine(cN.out _).mono ?_;rintro e w1 ⟨rfl,rfl⟩;clear cF cN;go_wp2_with (at_builtin;refine zdz Tryz.tyP13 rfl _ _ rfl W.heap.size (.slice (some ⟨W.heap.size,0,none⟩) 0 0) 0 [] (by simp[Act.eval]) (zdp (Nat.le_refl _) (heap_alloc_new _ _)) (.slice (some ⟨b,off,none⟩) N cp) N (zaj P N) (by simp[Act.eval]) (zge (RW.out.keep (Keep.one _ _)) (fun h=>by cases h)) (zbf _ _) (by omega) (by simp) N (Nat.zero_add _) ?_;intro v5 w5 hr5 hg5;have K5:Hid (Keep W w5):=zad (Keep.one _ _) hg5 (fun q hq=>by simp[Value.ownBlock] at hq;omega);have F5:=hr5.form (by omega);obtain⟨g5,cap5,e5,_,_⟩:=F5;subst e5;simp only[List.nil_append] at hr5;have C5:Hid (∀ j,j<N->zcr w5 g5 (j * 9) (P j)):=(fun j hj=>(by have:=zcg hr5 hj;rwa [Nat.zero_add] at this));have q5:=zar g5 0 N cap5 i hi;rw[Nat.zero_add] at q5;have z6:=(C5.out i hi).e6;have z7:=(C5.out i hi).e7;have z8:=(C5.out i hi).e8;have y8:∀ u,(w5.setCell ⟨g5,i * 9+6,none⟩ u).cell? ⟨g5,i * 9+8,none⟩=some (.int .i64 (P i).t):=(fun u=>zaq (by decide) z8);have y9:∀ u v,((w5.setCell ⟨g5,i * 9+6,none⟩ u).setCell ⟨g5,i * 9+8,none⟩ v).cell? ⟨g5,i * 9+8,none⟩=some v:=(fun u v=>World.cell?_setCell_same _ _ _ (y8 u));have y7:∀ u v,((w5.setCell ⟨g5,i * 9+6,none⟩ u).setCell ⟨g5,i * 9+8,none⟩ v).cell? ⟨g5,i * 9+7,none⟩=some (.int .i64 (P i).d):=(fun u v=>zaq (by decide) (zaq (by decide) z7));have hf6:=hr5.frozenAt (i * 9+6);have hf7:=hr5.frozenAt (i * 9+7);have hf8:=hr5.frozenAt (i * 9+8);have G5:=Zq (hr5.lt g5 rfl).1;have CP5:=Zq (zds hr5);replace hr5:=Zq hr5;replace hg5:=Zq hg5)
 go_ret2
 have KF:Keep W (appW w5 g5 (i * 9) to 7 nd):=zgi K5.out G5.out;refine⟨g5,cap5,rfl,KF,CP5.out,G5.out,⟨by omega,fun _=>⟨g5,0,rfl,fun j hj=>?_⟩,fun j hj=>(is'.out j hj).keep KF⟩⟩
 have:=(app_row C5.out hi to nd).2 j hj;rw[epod.out] at this;rw[Nat.zero_add];exact this
set_option maxRecDepth 100000 in
set_option maxHeartbeats 16000000 in
theorem acg(B:Option Addr)(cp N:Nat)(P:Nat->zaa)(id nd dl:Int)(W:World)(hR:zai W B N P)  (hN:N<=1000) (i:Nat) (hi:i<N) (hf:findN P id N=i) (hx:nx (P i).h 3≠0) :
  Calls Tryz.prog 101 #[.slice B N cp,.int .i64 id,.int .i64 3,.int .i64 nd,.int .i64 dl] W fun e w'=>∃ g c',e=.returned (.tuple #[.slice (some ⟨g,0,none⟩) N c',.int .i64 0])/\Keep W w'/\N<=c'/\W.heap.size<=g/\zai w' (some ⟨g,0,none⟩) N (put P i (zay (P i) 3 nd dl)):=by
 obtain⟨r,hr⟩:=Zn (findN P id N);have cF:=Zq (zdg B N cp P id W hR);rw[<- hr] at cF;rw[hf] at hr;subst hr;have cN:=Zq (fun W=>zfn (P i).h 3 W)
 obtain⟨b,off,rfl,ca⟩:=hR.adr (by omega)
 have q1:=zar b off N cp i hi;have x6:=(ca i hi).e6;have hN':=hR.small;have RW:=Zq hR;have hin:=zkr hx;obtain⟨to,hto⟩:=Zn (nx (P i).h 3);rw[<- hto] at cN hx hin;have to0:(to == 0)=false:=by simpa using hx
 have is':Hid (∀ j,j<N->zah W (put P i (zay (P i) 3 nd dl) j)):=fun j hj=>by
  by_cases e:j=i
  ·subst e
   rw[zat];have h0:=hR.is j hj;refine⟨h0.rd,h0.nil,h0.rng.1,h0.rng.2.1,h0.rng.2.2.1,h0.rng.2.2.2.1,?_,?_,?_⟩
   ·show I64 (nx (P j).h 3)
    rw[<- hto];unfold I64;omega
   ·show I64 (if (3:Int)=1\/(3:Int)=2 then nd else if (3:Int)=3\/(3:Int)=5 then -1 else(P j).d)
    first
     | (rw[if_pos (by decide)];exact hnd)
     | (rw[if_neg (by decide),if_pos (by decide)];unfold I64;omega)
     | (rw[if_neg (by decide),if_neg (by decide)];exact h0.rng.2.2.2.2.2.1)
   ·show I64 (if (3:Int)=4 then dl else -1)
    first
     | (rw[if_pos (by decide)];exact hdl)
     | (rw[if_neg (by decide)];unfold I64;omega)
  ·rw[zbj _ _ _ e]
   exact hR.is j hj
 have epod:Hid (({ P i with h:=to,t:=-1,d:=(-1) }:zaa)=zay (P i) 3 nd dl):=by
  show _=_
  rw[hto];rfl
 obtain⟨h,hh⟩:=Zn ((P i).h);rw[<- hh] at cN x6;replace hh:=Zq hh;replace hf:=Zq hf;replace hto:=Zq hto;replace hx:=Zq hx;replace hin:=Zq hin;clear hR ca
 go_enter Tryz.func101,Tryz.ntmps101
 go_wp2_with fail;refine cF.out.mono ?_;rintro e w1 ⟨rfl,rfl⟩;go_wp2_with fail;refine(cN.out _).mono ?_;rintro e w1 ⟨rfl,rfl⟩;clear cF cN;go_wp2_with (at_builtin;refine zdz Tryz.tyP13 rfl _ _ rfl W.heap.size (.slice (some ⟨W.heap.size,0,none⟩) 0 0) 0 [] (by simp[Act.eval]) (zdp (Nat.le_refl _) (heap_alloc_new _ _)) (.slice (some ⟨b,off,none⟩) N cp) N (zaj P N) (by simp[Act.eval]) (zge (RW.out.keep (Keep.one _ _)) (fun h=>by cases h)) (zbf _ _) (by omega) (by simp) N (Nat.zero_add _) ?_;intro v5 w5 hr5 hg5;have K5:Hid (Keep W w5):=zad (Keep.one _ _) hg5 (fun q hq=>by simp[Value.ownBlock] at hq;omega);have F5:=hr5.form (by omega);obtain⟨g5,cap5,e5,_,_⟩:=F5;subst e5;simp only[List.nil_append] at hr5;have C5:Hid (∀ j,j<N->zcr w5 g5 (j * 9) (P j)):=(fun j hj=>(by have:=zcg hr5 hj;rwa [Nat.zero_add] at this));have q5:=zar g5 0 N cap5 i hi;rw[Nat.zero_add] at q5;have z6:=(C5.out i hi).e6;have z7:=(C5.out i hi).e7;have z8:=(C5.out i hi).e8;have y8:∀ u,(w5.setCell ⟨g5,i * 9+6,none⟩ u).cell? ⟨g5,i * 9+8,none⟩=some (.int .i64 (P i).t):=(fun u=>zaq (by decide) z8);have y9:∀ u v,((w5.setCell ⟨g5,i * 9+6,none⟩ u).setCell ⟨g5,i * 9+8,none⟩ v).cell? ⟨g5,i * 9+8,none⟩=some v:=(fun u v=>World.cell?_setCell_same _ _ _ (y8 u));have y7:∀ u v,((w5.setCell ⟨g5,i * 9+6,none⟩ u).setCell ⟨g5,i * 9+8,none⟩ v).cell? ⟨g5,i * 9+7,none⟩=some (.int .i64 (P i).d):=(fun u v=>zaq (by decide) (zaq (by decide) z7));have hf6:=hr5.frozenAt (i * 9+6);have hf7:=hr5.frozenAt (i * 9+7);have hf8:=hr5.frozenAt (i * 9+8);have G5:=Zq (hr5.lt g5 rfl).1;have CP5:=Zq (zds hr5);replace hr5:=Zq hr5;replace hg5:=Zq hg5)
 go_ret2
 have KF:Keep W (appW w5 g5 (i * 9) to 7 (-1)):=zgi K5.out G5.out;refine⟨g5,cap5,rfl,KF,CP5.out,G5.out,⟨by omega,fun _=>⟨g5,0,rfl,fun j hj=>?_⟩,fun j hj=>(is'.out j hj).keep KF⟩⟩
 have:=(app_row C5.out hi to (-1)).2 j hj;rw[epod.out] at this;rw[Nat.zero_add];exact this
set_option maxRecDepth 100000 in
set_option maxHeartbeats 16000000 in
theorem ach(B:Option Addr)(cp N:Nat)(P:Nat->zaa)(id nd dl:Int)(W:World)(hR:zai W B N P)  (hN:N<=1000) (hdl:I64 dl) (i:Nat) (hi:i<N) (hf:findN P id N=i) (hx:nx (P i).h 4≠0) :
  Calls Tryz.prog 101 #[.slice B N cp,.int .i64 id,.int .i64 4,.int .i64 nd,.int .i64 dl] W fun e w'=>∃ g c',e=.returned (.tuple #[.slice (some ⟨g,0,none⟩) N c',.int .i64 0])/\Keep W w'/\N<=c'/\W.heap.size<=g/\zai w' (some ⟨g,0,none⟩) N (put P i (zay (P i) 4 nd dl)):=by
 obtain⟨r,hr⟩:=Zn (findN P id N);have cF:=Zq (zdg B N cp P id W hR);rw[<- hr] at cF;rw[hf] at hr;subst hr;have cN:=Zq (fun W=>zfn (P i).h 4 W)
 obtain⟨b,off,rfl,ca⟩:=hR.adr (by omega)
 have q1:=zar b off N cp i hi;have x6:=(ca i hi).e6;have hN':=hR.small;have RW:=Zq hR;have hin:=zkr hx;obtain⟨to,hto⟩:=Zn (nx (P i).h 4);rw[<- hto] at cN hx hin;have to0:(to == 0)=false:=by simpa using hx
 have is':Hid (∀ j,j<N->zah W (put P i (zay (P i) 4 nd dl) j)):=fun j hj=>by
  by_cases e:j=i
  ·subst e
   rw[zat];have h0:=hR.is j hj;refine⟨h0.rd,h0.nil,h0.rng.1,h0.rng.2.1,h0.rng.2.2.1,h0.rng.2.2.2.1,?_,?_,?_⟩
   ·show I64 (nx (P j).h 4)
    rw[<- hto];unfold I64;omega
   ·show I64 (if (4:Int)=1\/(4:Int)=2 then nd else if (4:Int)=3\/(4:Int)=5 then -1 else(P j).d)
    first
     | (rw[if_pos (by decide)];exact hnd)
     | (rw[if_neg (by decide),if_pos (by decide)];unfold I64;omega)
     | (rw[if_neg (by decide),if_neg (by decide)];exact h0.rng.2.2.2.2.2.1)
   ·show I64 (if (4:Int)=4 then dl else -1)
    first
     | (rw[if_pos (by decide)];exact hdl)
     | (rw[if_neg (by decide)];unfold I64;omega)
  ·rw[zbj _ _ _ e]
   exact hR.is j hj
 have epod:Hid (({ P i with h:=to,t:=dl }:zaa)=zay (P i) 4 nd dl):=by
  show _=_
  rw[hto];rfl
 obtain⟨h,hh⟩:=Zn ((P i).h);rw[<- hh] at cN x6;replace hh:=Zq hh;replace hf:=Zq hf;replace hto:=Zq hto;replace hx:=Zq hx;replace hin:=Zq hin;clear hR ca
 go_enter Tryz.func101,Tryz.ntmps101
 go_wp2_with fail;refine cF.out.mono ?_;rintro e w1 ⟨rfl,rfl⟩;go_wp2_with fail;refine(cN.out _).mono ?_;rintro e w1 ⟨rfl,rfl⟩;clear cF cN;go_wp2_with (at_builtin;refine zdz Tryz.tyP13 rfl _ _ rfl W.heap.size (.slice (some ⟨W.heap.size,0,none⟩) 0 0) 0 [] (by simp[Act.eval]) (zdp (Nat.le_refl _) (heap_alloc_new _ _)) (.slice (some ⟨b,off,none⟩) N cp) N (zaj P N) (by simp[Act.eval]) (zge (RW.out.keep (Keep.one _ _)) (fun h=>by cases h)) (zbf _ _) (by omega) (by simp) N (Nat.zero_add _) ?_;intro v5 w5 hr5 hg5;have K5:Hid (Keep W w5):=zad (Keep.one _ _) hg5 (fun q hq=>by simp[Value.ownBlock] at hq;omega);have F5:=hr5.form (by omega);obtain⟨g5,cap5,e5,_,_⟩:=F5;subst e5;simp only[List.nil_append] at hr5;have C5:Hid (∀ j,j<N->zcr w5 g5 (j * 9) (P j)):=(fun j hj=>(by have:=zcg hr5 hj;rwa [Nat.zero_add] at this));have q5:=zar g5 0 N cap5 i hi;rw[Nat.zero_add] at q5;have z6:=(C5.out i hi).e6;have z7:=(C5.out i hi).e7;have z8:=(C5.out i hi).e8;have y8:∀ u,(w5.setCell ⟨g5,i * 9+6,none⟩ u).cell? ⟨g5,i * 9+8,none⟩=some (.int .i64 (P i).t):=(fun u=>zaq (by decide) z8);have y9:∀ u v,((w5.setCell ⟨g5,i * 9+6,none⟩ u).setCell ⟨g5,i * 9+8,none⟩ v).cell? ⟨g5,i * 9+8,none⟩=some v:=(fun u v=>World.cell?_setCell_same _ _ _ (y8 u));have y7:∀ u v,((w5.setCell ⟨g5,i * 9+6,none⟩ u).setCell ⟨g5,i * 9+8,none⟩ v).cell? ⟨g5,i * 9+7,none⟩=some (.int .i64 (P i).d):=(fun u v=>zaq (by decide) (zaq (by decide) z7));have hf6:=hr5.frozenAt (i * 9+6);have hf7:=hr5.frozenAt (i * 9+7);have hf8:=hr5.frozenAt (i * 9+8);have G5:=Zq (hr5.lt g5 rfl).1;have CP5:=Zq (zds hr5);replace hr5:=Zq hr5;replace hg5:=Zq hg5)
 go_ret2
 have KF:Keep W (appW w5 g5 (i * 9) to 8 dl):=zgi K5.out G5.out;refine⟨g5,cap5,rfl,KF,CP5.out,G5.out,⟨by omega,fun _=>⟨g5,0,rfl,fun j hj=>?_⟩,fun j hj=>(is'.out j hj).keep KF⟩⟩
 have:=(app_row C5.out hi to dl).1 j hj;rw[epod.out] at this;rw[Nat.zero_add];exact this
set_option maxRecDepth 100000 in
set_option maxHeartbeats 16000000 in
theorem aci(B:Option Addr)(cp N:Nat)(P:Nat->zaa)(id nd dl:Int)(W:World)(hR:zai W B N P)  (hN:N<=1000) (i:Nat) (hi:i<N) (hf:findN P id N=i) (hx:nx (P i).h 5≠0) :
  Calls Tryz.prog 101 #[.slice B N cp,.int .i64 id,.int .i64 5,.int .i64 nd,.int .i64 dl] W fun e w'=>∃ g c',e=.returned (.tuple #[.slice (some ⟨g,0,none⟩) N c',.int .i64 0])/\Keep W w'/\N<=c'/\W.heap.size<=g/\zai w' (some ⟨g,0,none⟩) N (put P i (zay (P i) 5 nd dl)):=by
 obtain⟨r,hr⟩:=Zn (findN P id N);have cF:=Zq (zdg B N cp P id W hR);rw[<- hr] at cF;rw[hf] at hr;subst hr;have cN:=Zq (fun W=>zfn (P i).h 5 W)
 obtain⟨b,off,rfl,ca⟩:=hR.adr (by omega)
 have q1:=zar b off N cp i hi;have x6:=(ca i hi).e6;have hN':=hR.small;have RW:=Zq hR;have hin:=zkr hx;obtain⟨to,hto⟩:=Zn (nx (P i).h 5);rw[<- hto] at cN hx hin;have to0:(to == 0)=false:=by simpa using hx
 have is':Hid (∀ j,j<N->zah W (put P i (zay (P i) 5 nd dl) j)):=fun j hj=>by
  by_cases e:j=i
  ·subst e
   rw[zat];have h0:=hR.is j hj;refine⟨h0.rd,h0.nil,h0.rng.1,h0.rng.2.1,h0.rng.2.2.1,h0.rng.2.2.2.1,?_,?_,?_⟩
   ·show I64 (nx (P j).h 5)
    rw[<- hto];unfold I64;omega
   ·show I64 (if (5:Int)=1\/(5:Int)=2 then nd else if (5:Int)=3\/(5:Int)=5 then -1 else(P j).d)
    first
     | (rw[if_pos (by decide)];exact hnd)
     | (rw[if_neg (by decide),if_pos (by decide)];unfold I64;omega)
     | (rw[if_neg (by decide),if_neg (by decide)];exact h0.rng.2.2.2.2.2.1)
   ·show I64 (if (5:Int)=4 then dl else -1)
    first
     | (rw[if_pos (by decide)];exact hdl)
     | (rw[if_neg (by decide)];unfold I64;omega)
  ·rw[zbj _ _ _ e]
   exact hR.is j hj
 have epod:Hid (({ P i with h:=to,t:=-1,d:=(-1) }:zaa)=zay (P i) 5 nd dl):=by
  show _=_
  rw[hto];rfl
 obtain⟨h,hh⟩:=Zn ((P i).h);rw[<- hh] at cN x6;replace hh:=Zq hh;replace hf:=Zq hf;replace hto:=Zq hto;replace hx:=Zq hx;replace hin:=Zq hin;clear hR ca
 go_enter Tryz.func101,Tryz.ntmps101
 go_wp2_with fail;refine cF.out.mono ?_;rintro e w1 ⟨rfl,rfl⟩;go_wp2_with fail;refine(cN.out _).mono ?_;rintro e w1 ⟨rfl,rfl⟩;clear cF cN;go_wp2_with (at_builtin;refine zdz Tryz.tyP13 rfl _ _ rfl W.heap.size (.slice (some ⟨W.heap.size,0,none⟩) 0 0) 0 [] (by simp[Act.eval]) (zdp (Nat.le_refl _) (heap_alloc_new _ _)) (.slice (some ⟨b,off,none⟩) N cp) N (zaj P N) (by simp[Act.eval]) (zge (RW.out.keep (Keep.one _ _)) (fun h=>by cases h)) (zbf _ _) (by omega) (by simp) N (Nat.zero_add _) ?_;intro v5 w5 hr5 hg5;have K5:Hid (Keep W w5):=zad (Keep.one _ _) hg5 (fun q hq=>by simp[Value.ownBlock] at hq;omega);have F5:=hr5.form (by omega);obtain⟨g5,cap5,e5,_,_⟩:=F5;subst e5;simp only[List.nil_append] at hr5;have C5:Hid (∀ j,j<N->zcr w5 g5 (j * 9) (P j)):=(fun j hj=>(by have:=zcg hr5 hj;rwa [Nat.zero_add] at this));have q5:=zar g5 0 N cap5 i hi;rw[Nat.zero_add] at q5;have z6:=(C5.out i hi).e6;have z7:=(C5.out i hi).e7;have z8:=(C5.out i hi).e8;have y8:∀ u,(w5.setCell ⟨g5,i * 9+6,none⟩ u).cell? ⟨g5,i * 9+8,none⟩=some (.int .i64 (P i).t):=(fun u=>zaq (by decide) z8);have y9:∀ u v,((w5.setCell ⟨g5,i * 9+6,none⟩ u).setCell ⟨g5,i * 9+8,none⟩ v).cell? ⟨g5,i * 9+8,none⟩=some v:=(fun u v=>World.cell?_setCell_same _ _ _ (y8 u));have y7:∀ u v,((w5.setCell ⟨g5,i * 9+6,none⟩ u).setCell ⟨g5,i * 9+8,none⟩ v).cell? ⟨g5,i * 9+7,none⟩=some (.int .i64 (P i).d):=(fun u v=>zaq (by decide) (zaq (by decide) z7));have hf6:=hr5.frozenAt (i * 9+6);have hf7:=hr5.frozenAt (i * 9+7);have hf8:=hr5.frozenAt (i * 9+8);have G5:=Zq (hr5.lt g5 rfl).1;have CP5:=Zq (zds hr5);replace hr5:=Zq hr5;replace hg5:=Zq hg5)
 go_ret2
 have KF:Keep W (appW w5 g5 (i * 9) to 7 (-1)):=zgi K5.out G5.out;refine⟨g5,cap5,rfl,KF,CP5.out,G5.out,⟨by omega,fun _=>⟨g5,0,rfl,fun j hj=>?_⟩,fun j hj=>(is'.out j hj).keep KF⟩⟩
 have:=(app_row C5.out hi to (-1)).2 j hj;rw[epod.out] at this;rw[Nat.zero_add];exact this
def afc(B:Option Addr)(cp N:Nat)(P:Nat->zaa)(id ev nd dl:Int)(W w':World)(B':Option Addr)(c':Nat)(P':Nat->zaa)(code:Int):Prop :=
 (code≠0/\B'=B/\c'=cp/\P'=P)\/(code=0/\N<=c'/\∃ g i,i<N/\(P i).k=id/\(∀ t,t<i->(P t).k≠id)/\B'=some ⟨g,0,none⟩/\W.heap.size<=g/\P'=put P i (zay (P i) ev nd dl)/\zai w' B' N P')
theorem zuk(P:Nat->zaa)(id:Int)(n:Nat):(¬0<=findN P id n/\id∉keys ((lst P n).map nm))\/∃ j,j<n/\findN P id n=(j:Int)/\(P j).k=id/\(∀ t,t<j->(P t).k≠id)/\id∈keys ((lst P n).map nm)/\getL ((lst P n).map nm) id=nm (P j):=by
 by_cases h:∃ j,j<n/\(P j).k=id
 ·right
  obtain⟨j,hj,hk,hm⟩:∃ j,j<n/\(P j).k=id/\∀ t,t<j->(P t).k≠id:=by
   induction n with
   | zero=>obtain⟨j,hj,_⟩:=h;exact absurd hj (Nat.not_lt_zero _)
   | succ n ih =>
     by_cases h2:∃ j,j<n/\(P j).k=id
     ·obtain⟨j,a,b,c⟩:=ih h2
      exact⟨j,by omega,b,c⟩
     ·obtain⟨j,hj,hk⟩:=h
      exact⟨j,hj,hk,fun t ht e=>h2 ⟨t,by omega,e⟩⟩
  refine⟨j,hj,find_at hk hm hj,hk,hm,?_,?_⟩
  ·rw[zbq]
   unfold keys;rw[<- hk];exact List.mem_map_of_mem (lst_mem.2 ⟨j,hj,rfl⟩)
  ·rw[<- zhn,zkl hj hk hm]
 ·left
  refine⟨by rw[find_no fun t ht e=>h ⟨t,ht,e⟩];decide,?_⟩
  rw[zbq];intro hk;obtain⟨y,hy,e⟩:=List.mem_map.1 hk;obtain⟨j,hj,rfl⟩:=lst_mem.1 hy;exact h ⟨j,hj,e⟩
theorem ahp(B:Option Addr)(cp N:Nat)(P:Nat->zaa)(id ev nd dl:Int)(W:World)(hR:zai W B N P)(hN:N<=1000)(hnd:I64 nd)(hdl:I64 dl):
  Calls Tryz.prog 101 #[.slice B N cp,.int .i64 id,.int .i64 ev,.int .i64 nd,.int .i64 dl] W fun e w'=>∃ B' c' P',e=.returned (.tuple #[.slice B' N c',.int .i64 (zca ((lst P N).map nm) id ev)])/\Keep W w'/\afc B cp N P id ev nd dl W w' B' c' P' (zca ((lst P N).map nm) id ev):=by
 rcases zuk P id N with ⟨h1,h2⟩ | ⟨i,hi,hf,hk,hm,hin,hg⟩
 ·unfold zca
  rw[if_pos h2];refine(zyu B cp N P id ev nd dl W hR h1).mono ?_;rintro e w' ⟨he,rfl⟩;exact⟨B,cp,P,he,Keep.refl _,Or.inl ⟨by decide,rfl,rfl,rfl⟩⟩
 ·have ec:zca ((lst P N).map nm) id ev=if nx (P i).h ev=0 then 8 else 0:=by
   unfold zca;rw[if_neg (not_not_intro hin),hg];rfl
  rw[ec]
  by_cases hx:nx (P i).h ev=0
  ·rw[if_pos hx]
   refine(acd B cp N P id ev nd dl W hR i hi hf hx).mono ?_;rintro e w' ⟨he,rfl⟩;exact⟨B,cp,P,he,Keep.refl _,Or.inl ⟨by decide,rfl,rfl,rfl⟩⟩
  ·rw[if_neg hx]
   have hev:ev=1\/ev=2\/ev=3\/ev=4\/ev=5:=by
    by_cases h:ev<1\/5<ev
    ·exact absurd (zot h) hx
    ·omega
   rcases hev with rfl | rfl | rfl | rfl | rfl
   ·refine(ace B cp N P id nd dl W hR hN hnd i hi hf hx).mono ?_
    rintro e w' ⟨g,c',he,k,hc,hgw,hr⟩;exact⟨_,c',_,he,k,Or.inr ⟨rfl,hc,g,i,hi,hk,hm,rfl,hgw,rfl,hr⟩⟩
   ·refine(acf B cp N P id nd dl W hR hN hnd i hi hf hx).mono ?_
    rintro e w' ⟨g,c',he,k,hc,hgw,hr⟩;exact⟨_,c',_,he,k,Or.inr ⟨rfl,hc,g,i,hi,hk,hm,rfl,hgw,rfl,hr⟩⟩
   ·refine(acg B cp N P id nd dl W hR hN i hi hf hx).mono ?_
    rintro e w' ⟨g,c',he,k,hc,hgw,hr⟩;exact⟨_,c',_,he,k,Or.inr ⟨rfl,hc,g,i,hi,hk,hm,rfl,hgw,rfl,hr⟩⟩
   ·refine(ach B cp N P id nd dl W hR hN hdl i hi hf hx).mono ?_
    rintro e w' ⟨g,c',he,k,hc,hgw,hr⟩;exact⟨_,c',_,he,k,Or.inr ⟨rfl,hc,g,i,hi,hk,hm,rfl,hgw,rfl,hr⟩⟩
   ·refine(aci B cp N P id nd dl W hR hN i hi hf hx).mono ?_
    rintro e w' ⟨g,c',he,k,hc,hgw,hr⟩;exact⟨_,c',_,he,k,Or.inr ⟨rfl,hc,g,i,hi,hk,hm,rfl,hgw,rfl,hr⟩⟩
end Go.Proofs.YtcogiogjpbkeaaaGreatDoor.T13
